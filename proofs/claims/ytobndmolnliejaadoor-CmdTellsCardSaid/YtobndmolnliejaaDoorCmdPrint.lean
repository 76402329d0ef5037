/- The contract of Print: a command's text, or the error. -/
import Derived.Test.YtobndmolnliejaaDoorCmdParseW
import Derived.Test.YtobndmolnliejaaDoorCmdText
import Derived.Deep.RegionHeld3
import Derived.Deep.DrawnRows
import Derived.Deep.AppendLies
import Derived.Maps.AppendAt
import Derived.OwnWalk
import Derived.Outline
namespace Go.Proofs.YtobndmolnliejaaDoor
open Go.RowKit Go.Lib
attribute [local go_sem ↓] Go.wp_at_zero Go.wp_at_succ

set_option maxRecDepth 100000 in
theorem cPrint_no (i k s t d p q : Int) (h : oneB i k s t d p q = false) (w : World) : Calls Tryd.prog 13 #[cmV i k s t d p q] w fun e w' => e = .returned (.tuple #[str [], .int .i64 1]) ∧ Below w.heap.size w w' := by
  have hM := fun W => cMayBe i k s t d p q W
  rw [h] at hM
  go_enter Tryd.func13, Tryd.ntmps13
  go_wp2_with (go_at_call 19; refine (hM _).mono ?_; rintro e w1 ⟨rfl, hb⟩; obtain ⟨hc, hz, hB⟩ := box_cells hb; clear hb)
  go_ret2
  exact ⟨rfl, hB⟩

theorem cSideWord (d : Int) (w : World) : Calls Tryd.prog 23 #[.int .i64 d] w fun e w' => e = .returned (str (sideWd d)) ∧ w = w' := by
  by_cases h : d = 1
  · subst h
    go_enter Tryd.func23, Tryd.ntmps23
    go_wp2
    go_ret
    exact ⟨rfl, rfl⟩
  · have hs : Hid (sideWd d = wBuy) := by show sideWd d = wBuy; unfold sideWd; rw [if_neg h]
    go_enter Tryd.func23, Tryd.ntmps23
    go_wp2
    go_ret
    exact ⟨by rw [hs.out]; rfl, rfl⟩

theorem heldOn {B b : Nat} {w w' : World} {x y z : Value} (hb : Below B w w') (h : b < B) (k : w.cell? ⟨b, 0, none⟩ = some x ∧ w.cell? ⟨b, 1, none⟩ = some y ∧ w.cell? ⟨b, 2, none⟩ = some z) : w'.cell? ⟨b, 0, none⟩ = some x ∧ w'.cell? ⟨b, 1, none⟩ = some y ∧ w'.cell? ⟨b, 2, none⟩ = some z :=
  ⟨((bcell hb).1 _ 0 h).trans k.1, ((bcell hb).1 _ 1 h).trans k.2.1, ((bcell hb).1 _ 2 h).trans k.2.2⟩
theorem int_bd {n : Int} (h0 : 0 ≤ n) (h1 : n ≤ 1048576) : -9223372036854775808 ≤ n ∧ n ≤ 9223372036854775807 := by omega
theorem infoS : (Tryd.prog.info? 9).map (fun i => (i.zero, i.size, i.bytes)) = some (some (.string ⟨#[]⟩), 1, 16) := by kernel_rfl

/-- While Print runs: the command in the box, its parts in bp, the words so far in the row g. -/
structure PInv (w0 : World) (i k s t d p q : Int) (bp : Nat) (a b c e : Bool) (g cap : Nat) (ws : List (List UInt8)) (w : World) : Prop where
  ok0 : Okw w0
  below : Below w0.heap.size w0 w
  box : w.heap[w0.heap.size]? = some (.cells (cmCells i k s t d p q) 32 (0, 0))
  parts : PartsAt w bp a b c e
  row : w.ownsRow (w0.heap.size + 1) 9 1 (.slice (some ⟨g, 0, none⟩) ws.length cap) ws.length (ws.map str)
  gp : g ≠ bp
  n0 : w0.heap.size < bp
theorem PInv.ok {w0 w : World} {i k s t d p q : Int} {bp : Nat} {a b c e : Bool} {g cap : Nat} {ws : List (List UInt8)} (h : PInv w0 i k s t d p q bp a b c e g cap ws w) : Okw w := h.ok0.on h.below
theorem PInv.lt {w0 w : World} {i k s t d p q : Int} {bp : Nat} {a b c e : Bool} {g cap : Nat} {ws : List (List UInt8)} (h : PInv w0 i k s t d p q bp a b c e g cap ws w) : w0.heap.size < w.heap.size ∧ bp < w.heap.size ∧ w0.heap.size + 1 ≤ g ∧ g < w.heap.size := by
  have := h.row.lt g rfl
  exact ⟨(Array.getElem?_eq_some_iff.1 h.box).1, (Array.getElem?_eq_some_iff.1 h.parts).1, this.1, this.2⟩
theorem PInv.on {w0 w w' : World} {i k s t d p q : Int} {bp : Nat} {a b c e : Bool} {g cap : Nat} {ws : List (List UInt8)} (h : PInv w0 i k s t d p q bp a b c e g cap ws w) (hb : Below w.heap.size w w') : PInv w0 i k s t d p q bp a b c e g cap ws w' where
  ok0 := h.ok0
  below := h.below.trans (hb.mono h.below.size)
  box := by rw [hb.block _ h.lt.1]; exact h.box
  parts := by unfold PartsAt; rw [hb.block _ h.lt.2.1]; exact h.parts
  row := h.row.kept (row := none) ⟨hb.os, hb.tape, hb.output, hb.size, fun i hi _ => hb.block i hi⟩ (Or.inr (by simp [Value.ownBlock]))
  gp := h.gp
  n0 := h.n0
theorem PInv.append {w0 w w' : World} {i k s t d p q : Int} {bp : Nat} {a b c e : Bool} {g cap g' cap' : Nat} {ws : List (List UInt8)} {x : List UInt8} {o : Obj} (h : PInv w0 i k s t d p q bp a b c e g cap ws w)
    (hown : w'.ownsRow (w0.heap.size + 1) 9 1 (.slice (some ⟨g', 0, none⟩) (ws.length + 1) cap') (ws.length + 1) (ws.map str ++ [str x])) (hgrow : (w.alloc o).grownBy w' (some g)) (hat : some g = some g' ∨ g' = w.heap.size + 1) : PInv w0 i k s t d p q bp a b c e g' cap' (ws ++ [x]) w' where
  ok0 := h.ok0
  below := (h.below.alloc h.below.size o).grown hgrow (by have := h.lt; simp; omega) (fun j hj => by cases hj; have := h.lt; omega)
  box := by
    have := h.lt
    rw [hgrow.block _ (by simp; omega) (by simp; omega), Below.heap_alloc _ _ _ this.1]; exact h.box
  parts := by
    have := h.lt
    unfold PartsAt
    rw [hgrow.block _ (by simp; omega) (by simpa using Ne.symm h.gp), Below.heap_alloc _ _ _ this.2.1]; exact h.parts
  row := by simpa using hown
  gp := by
    have := h.lt
    rcases hat with e | e
    · rw [← Option.some.inj e]; exact h.gp
    · omega
  n0 := h.n0
theorem row_cells {w : World} {B g n cap : Nat} {xs : List (List UInt8)} (h : w.ownsRow B 9 1 (.slice (some ⟨g, 0, none⟩) n cap) n (xs.map str)) : (∀ (j : Nat) x, xs[j]? = some x → w.cell? ⟨g, 0 + j, none⟩ = some (str x)) ∧ n ≤ cap := by
  obtain ⟨h1, h2⟩ := h
  rcases h2 with ⟨h2, _⟩ | ⟨g', cap', cur, hv, hb, hh, hn, hm, hc, ht⟩
  · cases h2
  · cases hv
    refine ⟨fun j x hx => ?_, hn⟩
    have hj : (xs.map str)[j]? = some (str x) := by rw [List.getElem?_map, hx]; rfl
    rw [← ht, List.getElem?_take] at hj
    split at hj
    · rw [Nat.zero_add]
      simpa [World.cell?, hh] using hj
    · cases hj
theorem PInv.cell {w0 w : World} {i k s t d p q : Int} {bp : Nat} {a b c e : Bool} {g cap : Nat} {ws : List (List UInt8)} (h : PInv w0 i k s t d p q bp a b c e g cap ws w) : ∀ o, w.cell? ⟨w0.heap.size, o, none⟩ = (cmCells i k s t d p q)[o]? := (cells_at h.box).1
theorem row_start (w : World) (B : Nat) (hB : B ≤ w.heap.size) (x y z : List UInt8) : (w.alloc (.cells #[str x, str y, str z] 9)).ownsRow B 9 1 (.slice (some ⟨w.heap.size, 0, none⟩) 3 3) 3 ([x, y, z].map str) :=
  ⟨by simp, Or.inr ⟨w.heap.size, 3, _, rfl, hB, ha_new _ _ _ rfl, Nat.le_refl _, by unfold maxLen; omega, by simp, by simp⟩⟩
theorem row_on {w w' : World} {B g n cap : Nat} {xs : List Value} (h : w.ownsRow B 9 1 (.slice (some ⟨g, 0, none⟩) n cap) n xs) (hb : Below w.heap.size w w') : w'.ownsRow B 9 1 (.slice (some ⟨g, 0, none⟩) n cap) n xs :=
  h.kept (row := none) ⟨hb.os, hb.tape, hb.output, hb.size, fun i hi _ => hb.block i hi⟩ (Or.inr (by simp [Value.ownBlock]))
theorem fig_len' (n : Int) (h : 0 ≤ n ∧ n ≤ 1048576) : (fig n).length ≤ 7 := fig_len n h.1 h.2

set_option maxHeartbeats 1000000 in
set_option maxRecDepth 100000 in
theorem cPrint0 (i s d p q : Int) (hi : 0 ≤ i ∧ i ≤ 1048576) (hs : 0 ≤ s ∧ s ≤ 1048576) (hp : 0 ≤ p ∧ p ≤ 1048576) (hq : 0 ≤ q ∧ q ≤ 1048576) (h : oneB i 0 s 0 d p q = true) (w : World) (ok : Okw w) : Calls Tryd.prog 13 #[cmV i 0 s 0 d p q] w fun e w' => e = .returned (.tuple #[str (join [fig i, wPlace, fig s, sideWd d, fig p, fig q] [32]), .int .i64 0]) ∧ Below w.heap.size w w' := by
  have hM := fun W => cMayBe i 0 s 0 d p q W
  rw [h] at hM
  obtain ⟨i0, hi9, hz0, hz1, hz2⟩ := info_parts infoS
  have bi := int_bd hi.1 hi.2
  have ti := hid (itoa_fig i hi.1)
  have li := hid (fig_len' i hi)
  have bs := int_bd hs.1 hs.2
  have ts := hid (itoa_fig s hs.1)
  have ls := hid (fig_len' s hs)
  have bp := int_bd hp.1 hp.2
  have tp := hid (itoa_fig p hp.1)
  have lp := hid (fig_len' p hp)
  have bq := int_bd hq.1 hq.2
  have tq := hid (itoa_fig q hq.1)
  have lq := hid (fig_len' q hq)
  clear h hi hs hp hq
  go_enter Tryd.func13, Tryd.ntmps13
  go_wp2_with (go_at_call 19; refine (hM _).mono ?_; rintro e w1 ⟨rfl, hb⟩; have hx : w1.heap[w.heap.size]? = some (.cells (cmCells i 0 s 0 d p q) 32 (0, 0)) := (hb.block _ (by simp)).trans (ha_new _ _ _ rfl); obtain ⟨hc, hz, hB⟩ := box_cells hb; clear hb)
  clear hM
  have ok1 := ok.on hB
  have c0 : w1.cell? ⟨w.heap.size, 0, none⟩ = some (.int .i64 i) := hc 0
  have c1 : w1.cell? ⟨w.heap.size, 1, none⟩ = some (.int .i64 0) := hc 1
  have c2 : w1.cell? ⟨w.heap.size, 2, none⟩ = some (.int .i64 s) := hc 2
  go_region_held3 (fun w' => w'.cell? ⟨w.heap.size, 0, none⟩ = some (.int .i64 i) ∧ w'.cell? ⟨w.heap.size, 1, none⟩ = some (.int .i64 0) ∧ w'.cell? ⟨w.heap.size, 2, none⟩ = some (.int .i64 s))
    (first | exact ⟨c0, c1, c2⟩ | exact kA | exact kB | exact kC | go_keep)
    (first
      | (go_at_call 20; refine (cItoa i bi.1 bi.2 _ (ok1.on (Below.drew (Below.refl _ w1)))).mono ?_; rintro e wA ⟨rfl, hbA⟩; have kA := heldOn hbA hz ⟨c0, c1, c2⟩)
      | (go_at_call 21; refine (cKindWord 0 (by omega) (by omega) _).mono ?_; rintro e wB ⟨rfl, hbB⟩; have kB := heldOn hbB (Nat.lt_of_lt_of_le hz hbA.size) kA)
      | (go_at_call 20; refine (cItoa s bs.1 bs.2 _ ((ok1.on (Below.drew (Below.refl _ w1))).on hbA |>.on hbB)).mono ?_; rintro e wC ⟨rfl, hbC⟩; have kC := heldOn hbC (Nat.lt_of_lt_of_le (Nat.lt_of_lt_of_le hz hbA.size) hbB.size) kB))
  have hAC : Below w1.heap.size w1 wC := (((Below.drew (Below.refl _ w1)).trans hbA).trans (hbB.mono hbA.size)).trans (hbC.mono (Nat.le_trans hbA.size hbB.size))
  have hBC : Below w.heap.size w wC := hB.trans (hAC.mono hB.size)
  have xC : wC.heap[w.heap.size]? = some (.cells (cmCells i 0 s 0 d p q) 32 (0, 0)) := (hAC.block _ hz).trans hx
  have zC : w.heap.size < wC.heap.size := Nat.lt_of_lt_of_le hz hAC.size
  rw [ti.out, ts.out, show kindWd 0 = wPlace from rfl]
  have R0 := row_start wC (w.heap.size + 1) zC (fig i) wPlace (fig s)
  have xD : (wC.alloc (.cells #[str (fig i), str wPlace, str (fig s)] 9)).heap[w.heap.size]? = some (.cells (cmCells i 0 s 0 d p q) 32 (0, 0)) := (Below.heap_alloc _ _ _ zC).trans xC
  have hBD : Below w.heap.size w (wC.alloc (.cells #[str (fig i), str wPlace, str (fig s)] 9)) := hBC.alloc hBC.size _
  have zD : w.heap.size < (wC.alloc (.cells #[str (fig i), str wPlace, str (fig s)] 9)).heap.size := by simp; omega
  have gD : wC.heap.size < (wC.alloc (.cells #[str (fig i), str wPlace, str (fig s)] 9)).heap.size := by simp
  clear kA kB kC hbA hbB hbC hAC hBC xC hc hx hz hB ok1 c0 c1 c2
  generalize hg0 : wC.heap.size = g0 at R0 zC gD ⊢
  generalize (wC.alloc (.cells #[str (fig i), str wPlace, str (fig s)] 9)) = wD at R0 xD hBD zD gD ⊢
  clear hg0
  have c1 : wD.cell? ⟨w.heap.size, 1, none⟩ = some (.int .i64 0) := ((cells_at xD).1 1).trans rfl
  go_wp2_with fail
  clear c1
  refine (cParts0 _).mono ?_
  rintro e wE ⟨rfl, hbE⟩
  have I0 : PInv w i 0 s 0 d p q wE.heap.size false true true true g0 3 [fig i, wPlace, fig s] (wE.alloc (.cells #[.bool false, .bool true, .bool true, .bool true] 48)) := by
    have hs := hbE.size
    have hE2 : Below wD.heap.size wD (wE.alloc (.cells #[.bool false, .bool true, .bool true, .bool true] 48)) := hbE.alloc hs _
    exact ⟨ok, hBD.trans (hE2.mono hBD.size), (hE2.block _ zD).trans xD, ha_new _ _ _ rfl, row_on R0 hE2, by omega, by omega⟩
  clear R0 xD hBD zD gD hbE zC
  have q0 := I0.cell
  have r0 := I0.parts.cell
  go_wp2_with fail
  clear q0 r0
  refine (cSideWord d _).mono ?_
  rintro e x1 ⟨rfl, hw1⟩
  have J1 := I0
  rw [hw1] at J1
  clear hw1 I0
  have lt1 := J1.lt
  go_wp2_with (at_builtin; refine wpList_append_lies _ rfl _ _ 46 rfl (w.heap.size + 1) 9 i0 (.string ⟨#[]⟩) 1 16 Tryd.underlying46 hi9 hz0 hz1 hz2 rfl (by omega) (.slice (some ⟨g0, 0, none⟩) 3 3) 3 ([fig i, wPlace, fig s].map str) rfl (J1.row.alloc _) ⟨x1.heap.size, 0, none⟩ 1 1 [str (sideWd d)] rfl rfl (Go.cell_one_new _ _ _) (by simp [Value.oneCell']) (by omega) (by unfold maxLen; omega) (by omega) (by simp; omega) (x1.heap.size + 1) (by simp) ?_; intro g1 cap1 y1 own1 grow1 at1 ltg1; have I1 := J1.append (x := sideWd d) own1 grow1 at1; clear own1 grow1 at1 ltg1 J1 lt1; have q1 := I1.cell; have r1 := I1.parts.cell)
  clear q1 r1
  refine (cItoa p bp.1 bp.2 _ I1.ok).mono ?_
  rintro e x2 ⟨rfl, hb2⟩
  rw [tp.out]
  have J2 := I1.on hb2
  clear hb2 I1
  have lt2 := J2.lt
  go_wp2_with (at_builtin; refine wpList_append_lies _ rfl _ _ 46 rfl (w.heap.size + 1) 9 i0 (.string ⟨#[]⟩) 1 16 Tryd.underlying46 hi9 hz0 hz1 hz2 rfl (by omega) (.slice (some ⟨g1, 0, none⟩) 4 cap1) 4 ([fig i, wPlace, fig s, sideWd d].map str) rfl (J2.row.alloc _) ⟨x2.heap.size, 0, none⟩ 1 1 [str (fig p)] rfl rfl (Go.cell_one_new _ _ _) (by simp [Value.oneCell']) (by omega) (by unfold maxLen; omega) (by omega) (by simp; omega) (x2.heap.size + 1) (by simp) ?_; intro g2 cap2 y2 own2 grow2 at2 ltg2; have I2 := J2.append (x := fig p) own2 grow2 at2; clear own2 grow2 at2 ltg2 J2 lt2; have q2 := I2.cell; have r2 := I2.parts.cell)
  clear q2 r2
  refine (cItoa q bq.1 bq.2 _ I2.ok).mono ?_
  rintro e x3 ⟨rfl, hb3⟩
  rw [tq.out]
  have J3 := I2.on hb3
  clear hb3 I2
  have lt3 := J3.lt
  go_wp2_with (at_builtin; refine wpList_append_lies _ rfl _ _ 46 rfl (w.heap.size + 1) 9 i0 (.string ⟨#[]⟩) 1 16 Tryd.underlying46 hi9 hz0 hz1 hz2 rfl (by omega) (.slice (some ⟨g2, 0, none⟩) 5 cap2) 5 ([fig i, wPlace, fig s, sideWd d, fig p].map str) rfl (J3.row.alloc _) ⟨x3.heap.size, 0, none⟩ 1 1 [str (fig q)] rfl rfl (Go.cell_one_new _ _ _) (by simp [Value.oneCell']) (by omega) (by unfold maxLen; omega) (by omega) (by simp; omega) (x3.heap.size + 1) (by simp) ?_; intro g3 cap3 y3 own3 grow3 at3 ltg3; have I3 := J3.append (x := fig q) own3 grow3 at3; clear own3 grow3 at3 ltg3 J3 lt3; have q3 := I3.cell; have r3 := I3.parts.cell)
  clear q3 r3
  obtain ⟨cc, hcap⟩ := row_cells I3.row
  refine (cJoin g3 0 cap3 [fig i, wPlace, fig s, sideWd d, fig p, fig q] _ cc I3.lt.2.2.2 (by simp) hcap ?_).mono ?_
  · have := li.out; have := ls.out; have := lp.out; have := lq.out; have : (sideWd d).length ≤ 4 := (by unfold sideWd; split <;> decide); simp [join_cons, joinTail, wPlace]; omega
  · rintro e x9 ⟨rfl, hb9⟩
    have B9 := I3.below.trans (hb9.mono I3.below.size)
    go_wp2
    go_ret2
    exact ⟨rfl, B9⟩

set_option maxHeartbeats 1000000 in
set_option maxRecDepth 100000 in
theorem cPrint1 (i s t : Int) (hi : 0 ≤ i ∧ i ≤ 1048576) (hs : 0 ≤ s ∧ s ≤ 1048576) (ht : 0 ≤ t ∧ t ≤ 1048576) (h : oneB i 1 s t 0 0 0 = true) (w : World) (ok : Okw w) : Calls Tryd.prog 13 #[cmV i 1 s t 0 0 0] w fun e w' => e = .returned (.tuple #[str (join [fig i, wCancel, fig s, fig t] [32]), .int .i64 0]) ∧ Below w.heap.size w w' := by
  have hM := fun W => cMayBe i 1 s t 0 0 0 W
  rw [h] at hM
  obtain ⟨i0, hi9, hz0, hz1, hz2⟩ := info_parts infoS
  have bi := int_bd hi.1 hi.2
  have ti := hid (itoa_fig i hi.1)
  have li := hid (fig_len' i hi)
  have bs := int_bd hs.1 hs.2
  have ts := hid (itoa_fig s hs.1)
  have ls := hid (fig_len' s hs)
  have bt := int_bd ht.1 ht.2
  have tt := hid (itoa_fig t ht.1)
  have lt := hid (fig_len' t ht)
  clear h hi hs ht
  go_enter Tryd.func13, Tryd.ntmps13
  go_wp2_with (go_at_call 19; refine (hM _).mono ?_; rintro e w1 ⟨rfl, hb⟩; have hx : w1.heap[w.heap.size]? = some (.cells (cmCells i 1 s t 0 0 0) 32 (0, 0)) := (hb.block _ (by simp)).trans (ha_new _ _ _ rfl); obtain ⟨hc, hz, hB⟩ := box_cells hb; clear hb)
  clear hM
  have ok1 := ok.on hB
  have c0 : w1.cell? ⟨w.heap.size, 0, none⟩ = some (.int .i64 i) := hc 0
  have c1 : w1.cell? ⟨w.heap.size, 1, none⟩ = some (.int .i64 1) := hc 1
  have c2 : w1.cell? ⟨w.heap.size, 2, none⟩ = some (.int .i64 s) := hc 2
  go_region_held3 (fun w' => w'.cell? ⟨w.heap.size, 0, none⟩ = some (.int .i64 i) ∧ w'.cell? ⟨w.heap.size, 1, none⟩ = some (.int .i64 1) ∧ w'.cell? ⟨w.heap.size, 2, none⟩ = some (.int .i64 s))
    (first | exact ⟨c0, c1, c2⟩ | exact kA | exact kB | exact kC | go_keep)
    (first
      | (go_at_call 20; refine (cItoa i bi.1 bi.2 _ (ok1.on (Below.drew (Below.refl _ w1)))).mono ?_; rintro e wA ⟨rfl, hbA⟩; have kA := heldOn hbA hz ⟨c0, c1, c2⟩)
      | (go_at_call 21; refine (cKindWord 1 (by omega) (by omega) _).mono ?_; rintro e wB ⟨rfl, hbB⟩; have kB := heldOn hbB (Nat.lt_of_lt_of_le hz hbA.size) kA)
      | (go_at_call 20; refine (cItoa s bs.1 bs.2 _ ((ok1.on (Below.drew (Below.refl _ w1))).on hbA |>.on hbB)).mono ?_; rintro e wC ⟨rfl, hbC⟩; have kC := heldOn hbC (Nat.lt_of_lt_of_le (Nat.lt_of_lt_of_le hz hbA.size) hbB.size) kB))
  have hAC : Below w1.heap.size w1 wC := (((Below.drew (Below.refl _ w1)).trans hbA).trans (hbB.mono hbA.size)).trans (hbC.mono (Nat.le_trans hbA.size hbB.size))
  have hBC : Below w.heap.size w wC := hB.trans (hAC.mono hB.size)
  have xC : wC.heap[w.heap.size]? = some (.cells (cmCells i 1 s t 0 0 0) 32 (0, 0)) := (hAC.block _ hz).trans hx
  have zC : w.heap.size < wC.heap.size := Nat.lt_of_lt_of_le hz hAC.size
  rw [ti.out, ts.out, show kindWd 1 = wCancel from rfl]
  have R0 := row_start wC (w.heap.size + 1) zC (fig i) wCancel (fig s)
  have xD : (wC.alloc (.cells #[str (fig i), str wCancel, str (fig s)] 9)).heap[w.heap.size]? = some (.cells (cmCells i 1 s t 0 0 0) 32 (0, 0)) := (Below.heap_alloc _ _ _ zC).trans xC
  have hBD : Below w.heap.size w (wC.alloc (.cells #[str (fig i), str wCancel, str (fig s)] 9)) := hBC.alloc hBC.size _
  have zD : w.heap.size < (wC.alloc (.cells #[str (fig i), str wCancel, str (fig s)] 9)).heap.size := by simp; omega
  have gD : wC.heap.size < (wC.alloc (.cells #[str (fig i), str wCancel, str (fig s)] 9)).heap.size := by simp
  clear kA kB kC hbA hbB hbC hAC hBC xC hc hx hz hB ok1 c0 c1 c2
  generalize hg0 : wC.heap.size = g0 at R0 zC gD ⊢
  generalize (wC.alloc (.cells #[str (fig i), str wCancel, str (fig s)] 9)) = wD at R0 xD hBD zD gD ⊢
  clear hg0
  have c1 : wD.cell? ⟨w.heap.size, 1, none⟩ = some (.int .i64 1) := ((cells_at xD).1 1).trans rfl
  go_wp2_with fail
  clear c1
  refine (cParts1 _).mono ?_
  rintro e wE ⟨rfl, hbE⟩
  have I0 : PInv w i 1 s t 0 0 0 wE.heap.size true false false false g0 3 [fig i, wCancel, fig s] (wE.alloc (.cells #[.bool true, .bool false, .bool false, .bool false] 48)) := by
    have hs := hbE.size
    have hE2 : Below wD.heap.size wD (wE.alloc (.cells #[.bool true, .bool false, .bool false, .bool false] 48)) := hbE.alloc hs _
    exact ⟨ok, hBD.trans (hE2.mono hBD.size), (hE2.block _ zD).trans xD, ha_new _ _ _ rfl, row_on R0 hE2, by omega, by omega⟩
  clear R0 xD hBD zD gD hbE zC
  have q0 := I0.cell
  have r0 := I0.parts.cell
  go_wp2_with fail
  clear q0 r0
  refine (cItoa t bt.1 bt.2 _ I0.ok).mono ?_
  rintro e x1 ⟨rfl, hb1⟩
  rw [tt.out]
  have J1 := I0.on hb1
  clear hb1 I0
  have lt1 := J1.lt
  go_wp2_with (at_builtin; refine wpList_append_lies _ rfl _ _ 46 rfl (w.heap.size + 1) 9 i0 (.string ⟨#[]⟩) 1 16 Tryd.underlying46 hi9 hz0 hz1 hz2 rfl (by omega) (.slice (some ⟨g0, 0, none⟩) 3 3) 3 ([fig i, wCancel, fig s].map str) rfl (J1.row.alloc _) ⟨x1.heap.size, 0, none⟩ 1 1 [str (fig t)] rfl rfl (Go.cell_one_new _ _ _) (by simp [Value.oneCell']) (by omega) (by unfold maxLen; omega) (by omega) (by simp; omega) (x1.heap.size + 1) (by simp) ?_; intro g1 cap1 y1 own1 grow1 at1 ltg1; have I1 := J1.append (x := fig t) own1 grow1 at1; clear own1 grow1 at1 ltg1 J1 lt1; have q1 := I1.cell; have r1 := I1.parts.cell)
  clear q1 r1
  obtain ⟨cc, hcap⟩ := row_cells I1.row
  refine (cJoin g1 0 cap1 [fig i, wCancel, fig s, fig t] _ cc I1.lt.2.2.2 (by simp) hcap ?_).mono ?_
  · have := li.out; have := ls.out; have := lt.out;  simp [join_cons, joinTail, wCancel]; omega
  · rintro e x9 ⟨rfl, hb9⟩
    have B9 := I1.below.trans (hb9.mono I1.below.size)
    go_wp2
    go_ret2
    exact ⟨rfl, B9⟩

set_option maxHeartbeats 1000000 in
set_option maxRecDepth 100000 in
theorem cPrint2 (i s t q : Int) (hi : 0 ≤ i ∧ i ≤ 1048576) (hs : 0 ≤ s ∧ s ≤ 1048576) (ht : 0 ≤ t ∧ t ≤ 1048576) (hq : 0 ≤ q ∧ q ≤ 1048576) (h : oneB i 2 s t 0 0 q = true) (w : World) (ok : Okw w) : Calls Tryd.prog 13 #[cmV i 2 s t 0 0 q] w fun e w' => e = .returned (.tuple #[str (join [fig i, wAmend, fig s, fig t, fig q] [32]), .int .i64 0]) ∧ Below w.heap.size w w' := by
  have hM := fun W => cMayBe i 2 s t 0 0 q W
  rw [h] at hM
  obtain ⟨i0, hi9, hz0, hz1, hz2⟩ := info_parts infoS
  have bi := int_bd hi.1 hi.2
  have ti := hid (itoa_fig i hi.1)
  have li := hid (fig_len' i hi)
  have bs := int_bd hs.1 hs.2
  have ts := hid (itoa_fig s hs.1)
  have ls := hid (fig_len' s hs)
  have bt := int_bd ht.1 ht.2
  have tt := hid (itoa_fig t ht.1)
  have lt := hid (fig_len' t ht)
  have bq := int_bd hq.1 hq.2
  have tq := hid (itoa_fig q hq.1)
  have lq := hid (fig_len' q hq)
  clear h hi hs ht hq
  go_enter Tryd.func13, Tryd.ntmps13
  go_wp2_with (go_at_call 19; refine (hM _).mono ?_; rintro e w1 ⟨rfl, hb⟩; have hx : w1.heap[w.heap.size]? = some (.cells (cmCells i 2 s t 0 0 q) 32 (0, 0)) := (hb.block _ (by simp)).trans (ha_new _ _ _ rfl); obtain ⟨hc, hz, hB⟩ := box_cells hb; clear hb)
  clear hM
  have ok1 := ok.on hB
  have c0 : w1.cell? ⟨w.heap.size, 0, none⟩ = some (.int .i64 i) := hc 0
  have c1 : w1.cell? ⟨w.heap.size, 1, none⟩ = some (.int .i64 2) := hc 1
  have c2 : w1.cell? ⟨w.heap.size, 2, none⟩ = some (.int .i64 s) := hc 2
  go_region_held3 (fun w' => w'.cell? ⟨w.heap.size, 0, none⟩ = some (.int .i64 i) ∧ w'.cell? ⟨w.heap.size, 1, none⟩ = some (.int .i64 2) ∧ w'.cell? ⟨w.heap.size, 2, none⟩ = some (.int .i64 s))
    (first | exact ⟨c0, c1, c2⟩ | exact kA | exact kB | exact kC | go_keep)
    (first
      | (go_at_call 20; refine (cItoa i bi.1 bi.2 _ (ok1.on (Below.drew (Below.refl _ w1)))).mono ?_; rintro e wA ⟨rfl, hbA⟩; have kA := heldOn hbA hz ⟨c0, c1, c2⟩)
      | (go_at_call 21; refine (cKindWord 2 (by omega) (by omega) _).mono ?_; rintro e wB ⟨rfl, hbB⟩; have kB := heldOn hbB (Nat.lt_of_lt_of_le hz hbA.size) kA)
      | (go_at_call 20; refine (cItoa s bs.1 bs.2 _ ((ok1.on (Below.drew (Below.refl _ w1))).on hbA |>.on hbB)).mono ?_; rintro e wC ⟨rfl, hbC⟩; have kC := heldOn hbC (Nat.lt_of_lt_of_le (Nat.lt_of_lt_of_le hz hbA.size) hbB.size) kB))
  have hAC : Below w1.heap.size w1 wC := (((Below.drew (Below.refl _ w1)).trans hbA).trans (hbB.mono hbA.size)).trans (hbC.mono (Nat.le_trans hbA.size hbB.size))
  have hBC : Below w.heap.size w wC := hB.trans (hAC.mono hB.size)
  have xC : wC.heap[w.heap.size]? = some (.cells (cmCells i 2 s t 0 0 q) 32 (0, 0)) := (hAC.block _ hz).trans hx
  have zC : w.heap.size < wC.heap.size := Nat.lt_of_lt_of_le hz hAC.size
  rw [ti.out, ts.out, show kindWd 2 = wAmend from rfl]
  have R0 := row_start wC (w.heap.size + 1) zC (fig i) wAmend (fig s)
  have xD : (wC.alloc (.cells #[str (fig i), str wAmend, str (fig s)] 9)).heap[w.heap.size]? = some (.cells (cmCells i 2 s t 0 0 q) 32 (0, 0)) := (Below.heap_alloc _ _ _ zC).trans xC
  have hBD : Below w.heap.size w (wC.alloc (.cells #[str (fig i), str wAmend, str (fig s)] 9)) := hBC.alloc hBC.size _
  have zD : w.heap.size < (wC.alloc (.cells #[str (fig i), str wAmend, str (fig s)] 9)).heap.size := by simp; omega
  have gD : wC.heap.size < (wC.alloc (.cells #[str (fig i), str wAmend, str (fig s)] 9)).heap.size := by simp
  clear kA kB kC hbA hbB hbC hAC hBC xC hc hx hz hB ok1 c0 c1 c2
  generalize hg0 : wC.heap.size = g0 at R0 zC gD ⊢
  generalize (wC.alloc (.cells #[str (fig i), str wAmend, str (fig s)] 9)) = wD at R0 xD hBD zD gD ⊢
  clear hg0
  have c1 : wD.cell? ⟨w.heap.size, 1, none⟩ = some (.int .i64 2) := ((cells_at xD).1 1).trans rfl
  go_wp2_with fail
  clear c1
  refine (cParts2 _).mono ?_
  rintro e wE ⟨rfl, hbE⟩
  have I0 : PInv w i 2 s t 0 0 q wE.heap.size true false false true g0 3 [fig i, wAmend, fig s] (wE.alloc (.cells #[.bool true, .bool false, .bool false, .bool true] 48)) := by
    have hs := hbE.size
    have hE2 : Below wD.heap.size wD (wE.alloc (.cells #[.bool true, .bool false, .bool false, .bool true] 48)) := hbE.alloc hs _
    exact ⟨ok, hBD.trans (hE2.mono hBD.size), (hE2.block _ zD).trans xD, ha_new _ _ _ rfl, row_on R0 hE2, by omega, by omega⟩
  clear R0 xD hBD zD gD hbE zC
  have q0 := I0.cell
  have r0 := I0.parts.cell
  go_wp2_with fail
  clear q0 r0
  refine (cItoa t bt.1 bt.2 _ I0.ok).mono ?_
  rintro e x1 ⟨rfl, hb1⟩
  rw [tt.out]
  have J1 := I0.on hb1
  clear hb1 I0
  have lt1 := J1.lt
  go_wp2_with (at_builtin; refine wpList_append_lies _ rfl _ _ 46 rfl (w.heap.size + 1) 9 i0 (.string ⟨#[]⟩) 1 16 Tryd.underlying46 hi9 hz0 hz1 hz2 rfl (by omega) (.slice (some ⟨g0, 0, none⟩) 3 3) 3 ([fig i, wAmend, fig s].map str) rfl (J1.row.alloc _) ⟨x1.heap.size, 0, none⟩ 1 1 [str (fig t)] rfl rfl (Go.cell_one_new _ _ _) (by simp [Value.oneCell']) (by omega) (by unfold maxLen; omega) (by omega) (by simp; omega) (x1.heap.size + 1) (by simp) ?_; intro g1 cap1 y1 own1 grow1 at1 ltg1; have I1 := J1.append (x := fig t) own1 grow1 at1; clear own1 grow1 at1 ltg1 J1 lt1; have q1 := I1.cell; have r1 := I1.parts.cell)
  clear q1 r1
  refine (cItoa q bq.1 bq.2 _ I1.ok).mono ?_
  rintro e x2 ⟨rfl, hb2⟩
  rw [tq.out]
  have J2 := I1.on hb2
  clear hb2 I1
  have lt2 := J2.lt
  go_wp2_with (at_builtin; refine wpList_append_lies _ rfl _ _ 46 rfl (w.heap.size + 1) 9 i0 (.string ⟨#[]⟩) 1 16 Tryd.underlying46 hi9 hz0 hz1 hz2 rfl (by omega) (.slice (some ⟨g1, 0, none⟩) 4 cap1) 4 ([fig i, wAmend, fig s, fig t].map str) rfl (J2.row.alloc _) ⟨x2.heap.size, 0, none⟩ 1 1 [str (fig q)] rfl rfl (Go.cell_one_new _ _ _) (by simp [Value.oneCell']) (by omega) (by unfold maxLen; omega) (by omega) (by simp; omega) (x2.heap.size + 1) (by simp) ?_; intro g2 cap2 y2 own2 grow2 at2 ltg2; have I2 := J2.append (x := fig q) own2 grow2 at2; clear own2 grow2 at2 ltg2 J2 lt2; have q2 := I2.cell; have r2 := I2.parts.cell)
  clear q2 r2
  obtain ⟨cc, hcap⟩ := row_cells I2.row
  refine (cJoin g2 0 cap2 [fig i, wAmend, fig s, fig t, fig q] _ cc I2.lt.2.2.2 (by simp) hcap ?_).mono ?_
  · have := li.out; have := ls.out; have := lt.out; have := lq.out;  simp [join_cons, joinTail, wAmend]; omega
  · rintro e x9 ⟨rfl, hb9⟩
    have B9 := I2.below.trans (hb9.mono I2.below.size)
    go_wp2
    go_ret2
    exact ⟨rfl, B9⟩

/-- What Print tells. -/
def Cm.print (c : Cm) : List UInt8 := if c.ok then c.text else []
def Cm.printE (c : Cm) : Int := if c.ok then 0 else 1
theorem cPrint (c : Cm) (w : World) (ok : Okw w) : Calls Tryd.prog 13 #[cmOf c] w fun e w' => e = .returned (.tuple #[str c.print, .int .i64 c.printE]) ∧ Below w.heap.size w w' := by
  rcases h : c.ok with _ | _
  · have e1 : c.print = [] := by unfold Cm.print; rw [h]; rfl
    have e2 : c.printE = 1 := by unfold Cm.printE; rw [h]; rfl
    rw [e1, e2]
    exact cPrint_no _ _ _ _ _ _ _ h w
  · have e1 : c.print = c.text := by unfold Cm.print; rw [h]; rfl
    have e2 : c.printE = 0 := by unfold Cm.printE; rw [h]; rfl
    rw [e1, e2]
    obtain ⟨hi, hs, hr⟩ := ok_all h
    rcases hr with ⟨hk, ht, hd, hp, hq⟩ | ⟨hk, ht, hd, hp, hq⟩ | ⟨hk, ht, hd, hp, hq⟩
    · obtain ⟨i, k, s, t, d, p, q⟩ := c
      simp only at hk ht
      subst hk ht
      exact cPrint0 i s d p q hi hs hp hq h w ok
    · obtain ⟨i, k, s, t, d, p, q⟩ := c
      simp only at hk hd hp hq
      subst hk hd hp hq
      exact cPrint1 i s t hi hs ht h w ok
    · obtain ⟨i, k, s, t, d, p, q⟩ := c
      simp only at hk hd hp
      subst hk hd hp
      exact cPrint2 i s t q hi hs ht hq h w ok
end Go.Proofs.YtobndmolnliejaaDoor

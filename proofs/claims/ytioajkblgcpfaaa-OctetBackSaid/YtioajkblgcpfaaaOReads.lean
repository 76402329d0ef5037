/- The walk of the law OctetReads: whatever the bytes and the acts, it returns true. -/
import Derived.Test.YtioajkblgcpfaaaONil
import Derived.Test.YtioajkblgcpfaaaRValue
import Derived.Test.YtioajkblgcpfaaaSameV
import Derived.Deep.RegionHeld3
import Derived.Deep.LoopGhost
namespace Go.Proofs.Ytioajkblgcpfaaa
set_option linter.unusedVariables false
open Go.RowKit
open Go.Lib (hid)

theorem numS_short {s : St} : (numS s).2.1.length ≤ s.1.length := by
  unfold numS
  by_cases hs : s.2 = 0
  · rw [if_pos hs]
    rcases hn : numOf s.1 with ⟨n, r⟩ | _ | _
    · have := (numOf_ok hn).2
      dsimp only
      rw [this, List.length_append]; omega
    · simp
    · simp
  · rw [if_neg hs]; exact Nat.le_refl _
theorem cmdRaw_short {s : St} : (cmdRaw s).2.1.length ≤ s.1.length := by
  unfold cmdRaw
  dsimp only
  exact Nat.le_trans numS_short (Nat.le_trans numS_short (Nat.le_trans numS_short (Nat.le_trans numS_short (Nat.le_trans numS_short (Nat.le_trans numS_short numS_short)))))
theorem cmdS_short {s : St} : (cmdS s).2.1.length ≤ s.1.length := by
  unfold cmdS
  dsimp only
  split
  · split
    · exact cmdRaw_short
    · simp
  · exact cmdRaw_short
theorem cmdsGo_short : ∀ (k : Nat) (out : List C7) (s : St), (cmdsGo k out s).2.1.length ≤ s.1.length
  | 0, out, s => Nat.le_refl _
  | k + 1, out, s => by
    rw [cmdsGo]
    split
    · exact Nat.le_trans (cmdsGo_short k _ _) cmdS_short
    · exact Nat.le_refl _
theorem cmdsS_rest {s : St} : (cmdsS s).2.1.length ≤ s.1.length := by
  unfold cmdsS
  dsimp only
  split
  · simp
  · split
    · exact Nat.le_trans (cmdsGo_short _ _ _) numS_short
    · exact Nat.le_trans (cmdsGo_short _ _ _) numS_short
theorem valueS_rest {s : St} : (valueS s).2.1.length ≤ s.1.length := by
  unfold valueS
  dsimp only
  split
  · split
    · exact Nat.le_trans cmdsS_rest numS_short
    · simp
  · exact Nat.le_trans cmdsS_rest numS_short

/-- A new slice of the bytes that came in, and the document's reader of it. -/
theorem rd_made {W : World} {v : Value} {l : List UInt8} {B : Nat} (h : OwnB W B v l) : Rd 40 (fun j => B ≤ j ∧ j < W.heap.size) (W.alloc (.cells #[v, .int .i64 0] 40)) W.heap.size (l, 0) :=
  ⟨v, heap_alloc_new W _, h.slb.on ((Below.refl _ W).alloc (Nat.le_refl _) _), fun k hk => h.lt k hk, fun hh => absurd hh.2 (by omega)⟩
theorem valueS_few {s : St} : (valueS s).1.2.length ≤ 1024 := by
  unfold valueS
  dsimp only
  split
  · split
    · exact cmdsS_short
    · simp
  · simp

theorem wpList_append_slb {w : World} {ops : Array Oper} {rest : List Oper} {o : Oper} {a : Act} {Q : Exit → Act → World → Prop} (hgd : o.guard = none) (s x : Operand) (ho : o.op = .call { callee := .builtin .append, args := #[s, x], argTypes := #[25, 25] })
    (base : Nat) (v : Value) (l1 : List UInt8) (hs : a.eval s = v) (hown : OwnB w base v l1) (v2 : Value) (l2 : List UInt8) (hx : a.eval x = v2) (h2 : SlB w v2 l2) (hlen : l1.length + l2.length ≤ 1000000) (hbase : base ≤ w.heap.size)
    (h : ∀ v' w', OwnB w' base v' (l1 ++ l2) → w.grownBy w' v.ownBlock → wpList Try.prog ops Q rest (a.put o.dst v') w') : wpList Try.prog ops Q (o :: rest) a w := by
  obtain ⟨i0, hi, hz0, hz1, hz2⟩ := info_parts Try.infoB
  rcases h2.src with ⟨rfl, rfl⟩ | ⟨ad, cap, rfl, hc, _⟩
  · refine wpList_append_own_none hgd s x 25 ho base 5 i0 1 Try.underlying25 hi v l1.length (octs l1) hs hown hx ?_
    exact h v w (by rw [List.append_nil]; exact hown) (grownRefl _ _)
  · refine wpList_append_own _ hgd s x 25 ho base 5 i0 _ 1 1 Try.underlying25 hi hz0 hz1 hz2 rfl (by decide) v l1.length (octs l1) hs hown ad l2.length cap (octs l2) hx (by rw [octs_len, Nat.mul_one]) hc (octs_one _) (by unfold maxLen; omega) (by omega) hbase ?_
    intro v' w' ho' hg _
    exact h v' w' (by unfold OwnB; rw [octs_append, List.length_append]; exact ho') hg

set_option maxHeartbeats 3000000 in
set_option maxRecDepth 100000 in
theorem wReads {va vb : Value} {l acts : List UInt8} {w : World} (ha : SlB w va l) (hb : SlB w vb acts) (hl : l.length ≤ 3000) (hl2 : acts.length ≤ 150) : Calls Try.prog 4 #[va, vb] w fun e w' => e = .returned (.bool true) ∧ Below w.heap.size w w' := by
  have hA := hid ha
  obtain ⟨_, _, capa, aa, rfl, _⟩ := ha
  obtain ⟨bb, bo, capb, ab, rfl, _, _, hab, hbc, hbb⟩ := hb
  go_enter Try.func4, Try.ntmps4
  go_wp2_with fail
  go_at_call 13
  refine (cRead hA.out (by omega)).mono ?_
  rintro e w1 ⟨p, rfl, hp1, hp2, hR, hb1⟩
  replace hA := hid (hA.out.on hb1)
  have HR := hid hR
  have HW := hid hb1
  have hs1 := hb1.size
  clear hR hb1
  go_wp2_with (at_builtin; refine wpList_append_slb rfl _ _ rfl w1.heap.size _ [] rfl (OwnB.made w1) _ l rfl (hA.out.on ((Below.refl _ w1).alloc (Nat.le_refl _) _)) (by simp; omega) (by simp) ?_)
  intro v' w2 hown hg
  obtain ⟨gv, cv, _, rfl, rfl⟩ := hown.asSlice
  have hRr := rd_made hown
  have hB2 : Below w1.heap.size w1 w2 := ((Below.refl _ w1).alloc (Nat.le_refl _) (.cells #[] 5)).grown hg (by simp) (fun k hk => by cases hk; exact Nat.le_refl _)
  have hs2 := hB2.size
  have H2 := hid (And.intro ((HR.out.on hB2).alloc (.cells #[.slice gv l.length cv, .int .i64 0] 40)) (And.intro hRr ((HW.out.trans (hB2.mono hs1)).alloc (by omega) (.cells #[.slice gv l.length cv, .int .i64 0] 40))))
  clear hown hg hRr hB2 HR HW hA
  go_wp2_with fail
  go_loopg [7] acts.length (fun g i wr => ∃ (k : Nat) (st : St), k ≤ acts.length ∧ g = acts.length - k ∧ i = .int .i64 k ∧ Hid (Rd 63 (fun j => w.heap.size ≤ j ∧ j < p) wr p st ∧ Rd 40 (fun j => w1.heap.size ≤ j ∧ j < w2.heap.size) wr w2.heap.size st ∧ Below w.heap.size w wr ∧ st.1.length ≤ 3000))
  case atStart => exact ⟨0, (l, 0), Nat.zero_le _, rfl, rfl, hid ⟨H2.out.1, H2.out.2.1, H2.out.2.2, hl⟩⟩
  case round =>
    clear H2
    obtain ⟨k, st, hk, rfl, rfl, hst⟩ := hrel
    have hRc := hst.out.1
    have hRr := hst.out.2.1
    have hWB := hst.out.2.2.1
    have hsw := hWB.size
    have hql := hRr.lt
    by_cases hlt : k < acts.length
    · obtain rfl := hab (by omega)
      obtain ⟨x, hx⟩ : ∃ x, acts[k]? = some x := ⟨acts[k], List.getElem?_eq_getElem hlt⟩
      have c0 := (hWB.cell (p := ⟨bb, bo + k, none⟩) (hbb (by omega))).trans (hbc k x hx)
      clear hx
      have hxl := x.toNat_lt
      rcases (by omega : (x.toNat : Int) % 4 = 0 ∨ (x.toNat : Int) % 4 = 1 ∨ (x.toNat : Int) % 4 = 2 ∨ (x.toNat : Int) % 4 = 3) with hm | hm | hm | hm
      · have hC := cNum hRc
        obtain ⟨n, hn⟩ : ∃ n, n = (numS st).1 := ⟨_, rfl⟩
        rw [← hn] at hC
        have HN := hid hn
        clear hn
        go_wp2_with (first
          | (go_at_call 14; (
              refine hC.mono ?_
              rintro e w3 ⟨rfl, hRc3, hg3⟩
              have hRr3 := hRr.kept hg3 (by omega) (fun hh => by have := hh.1; omega)
              have hR := rNum hRr3
              rw [← HN.out] at hR
              have hWB3 := hWB.grown hg3 hWB.size (fun j hj => by cases hj; omega)
              have H3 := hid (And.intro hRc3 (And.intro hWB3 hR))
              have hs3 := hg3.size
              clear hRc3 hRr3 hWB3 hR hg3 hC))
          | (go_at_call 15; (
              refine H3.out.2.2.mono ?_
              rintro e w4 ⟨rfl, hRr, hg4⟩
              have hRc := H3.out.1.kept hg4 (by omega) (fun hh => by have := hh.2; omega)
              have hWB := H3.out.2.1.grown hg4 H3.out.2.1.size (fun j hj => by cases hj; omega)
              clear hg4)))
        obtain ⟨st', hst'⟩ : ∃ st', st' = (numS st).2 := ⟨_, rfl⟩
        rw [← hst'] at hRc hRr
        have hsl : st'.1.length ≤ 3000 := by rw [hst']; exact Nat.le_trans numS_short hst.out.2.2.2
        obtain ⟨vm, _, _, m0, m1, _, _, hms, _⟩ := hRr.cells
        have hmc := convB hms
        have hErr := fun (W' : World) (h : Rd 63 (fun j => w.heap.size ≤ j ∧ j < p) W' p st') => cErr h
        obtain ⟨ee, hee⟩ : ∃ ee, ee = st'.2 := ⟨_, rfl⟩
        rw [← hee] at m1 hErr
        have HErr := hid hErr
        have HX := hid (And.intro hRc (And.intro hRr hWB))
        have HK := hid (fun (W' : World) (hb : Below w4.heap.size w4 W') => (show W'.cell? ⟨w2.heap.size, 0, none⟩ = some vm ∧ W'.cell? ⟨w2.heap.size, 1, none⟩ = some (.int .i64 ee) ∧ (convert 25 9 vm).run Try.prog W' = .ok (strB st'.1) W' from ⟨(hb.cell (p := ⟨w2.heap.size, 0, none⟩) HX.out.2.1.lt).trans m0, (hb.cell (p := ⟨w2.heap.size, 1, none⟩) HX.out.2.1.lt).trans m1, convB (hms.on hb)⟩))
        have hS0 := HK.out w4.drew ((Below.refl _ w4).drew)
        have HSL := hid hsl
        clear hRc hRr hWB hst' hms hee hErr m0 m1 hmc hsl
        go_region_held (fun W' => W'.cell? ⟨w2.heap.size, 0, none⟩ = some vm ∧ W'.cell? ⟨w2.heap.size, 1, none⟩ = some (.int .i64 ee) ∧ (convert 25 9 vm).run Try.prog W' = .ok (strB st'.1) W') (first | exact hS0 | assumption) (first
          | (go_at_call 24; (
              refine (cRest (HX.out.1.on ((Below.refl _ w4).drew)) (Nat.le_trans HSL.out (by omega))).mono ?_
              rintro e w9 ⟨r, rfl, ho, hB9⟩
              obtain ⟨g9, c9, n9, rfl, hn9⟩ := ho.asSlice
              clear hn9
              have hcr := convB ho.slb
              have hS9 := HK.out w9 (((Below.refl _ w4).drew).trans hB9)
              have HB9 := hid (((Below.refl _ w4).drew).trans hB9)
              have HR9 := hid (HX.out.1.on HB9.out)
              clear ho hB9))
          | (go_at_call 25; refine (HErr.out _ HR9.out).mono ?_; rintro e w8 ⟨rfl, rfl⟩))
        all_goals (
          go_wp2
          go_roundg (acts.length - (k + 1))
          case measure => omega
          case rel => exact ⟨k + 1, st', by omega, rfl, by go_num, hid ⟨HR9.out, HX.out.2.1.on HB9.out, HX.out.2.2.trans (HB9.out.mono HX.out.2.2.size), HSL.out⟩⟩)
      · have hC := cCmd' hRc (fun j hj => Nat.lt_trans hj.2 hRc.lt)
        obtain ⟨c, hc⟩ : ∃ c, c = (cmdS st).1 := ⟨_, rfl⟩
        rw [← hc] at hC
        have HN := hid hc
        clear hc
        have hE := eqlC (a := c) (b := c) (r := true) (C7.same_iff.2 rfl)
        have hG := fun op p q W => guardC op p q c c W
        go_wp2_with (first
          | (go_at_call 16; (
              refine hC.mono ?_
              rintro e w3 ⟨rfl, hRc3, hg3⟩
              have hRr3 := hRr.kept hg3 (by omega) (fun hh => by have := hh.1; omega)
              have hR := rCmd' hRr3 (fun j hj => Nat.lt_trans hj.2 hRr3.lt)
              rw [← HN.out] at hR
              have hWB3 := hWB.grown hg3 hWB.size (fun j hj => by cases hj; omega)
              have H3 := hid (And.intro hRc3 (And.intro hWB3 hR))
              have hs3 := hg3.size
              clear hRc3 hRr3 hWB3 hR hg3 hC))
          | (go_at_call 17; (
              refine H3.out.2.2.mono ?_
              rintro e w4 ⟨rfl, hRr, hg4⟩
              have hRc := H3.out.1.kept hg4 (by omega) (fun hh => by have := hh.2; omega)
              have hWB := H3.out.2.1.grown hg4 H3.out.2.1.size (fun j hj => by cases hj; omega)
              clear hg4)))
        obtain ⟨st', hst'⟩ : ∃ st', st' = (cmdS st).2 := ⟨_, rfl⟩
        rw [← hst'] at hRc hRr
        have hsl : st'.1.length ≤ 3000 := by rw [hst']; exact Nat.le_trans cmdS_short hst.out.2.2.2
        obtain ⟨vm, _, _, m0, m1, _, _, hms, _⟩ := hRr.cells
        have hmc := convB hms
        have hErr := fun (W' : World) (h : Rd 63 (fun j => w.heap.size ≤ j ∧ j < p) W' p st') => cErr h
        obtain ⟨ee, hee⟩ : ∃ ee, ee = st'.2 := ⟨_, rfl⟩
        rw [← hee] at m1 hErr
        have HErr := hid hErr
        have HX := hid (And.intro hRc (And.intro hRr hWB))
        have HK := hid (fun (W' : World) (hb : Below w4.heap.size w4 W') => (show W'.cell? ⟨w2.heap.size, 0, none⟩ = some vm ∧ W'.cell? ⟨w2.heap.size, 1, none⟩ = some (.int .i64 ee) ∧ (convert 25 9 vm).run Try.prog W' = .ok (strB st'.1) W' from ⟨(hb.cell (p := ⟨w2.heap.size, 0, none⟩) HX.out.2.1.lt).trans m0, (hb.cell (p := ⟨w2.heap.size, 1, none⟩) HX.out.2.1.lt).trans m1, convB (hms.on hb)⟩))
        have hS0 := HK.out w4.drew ((Below.refl _ w4).drew)
        have HSL := hid hsl
        clear hRc hRr hWB hst' hms hee hErr m0 m1 hmc hsl
        go_region_held (fun W' => W'.cell? ⟨w2.heap.size, 0, none⟩ = some vm ∧ W'.cell? ⟨w2.heap.size, 1, none⟩ = some (.int .i64 ee) ∧ (convert 25 9 vm).run Try.prog W' = .ok (strB st'.1) W') (first | exact hS0 | assumption) (first
          | (go_at_call 24; (
              refine (cRest (HX.out.1.on ((Below.refl _ w4).drew)) (Nat.le_trans HSL.out (by omega))).mono ?_
              rintro e w9 ⟨r, rfl, ho, hB9⟩
              obtain ⟨g9, c9, n9, rfl, hn9⟩ := ho.asSlice
              clear hn9
              have hcr := convB ho.slb
              have hS9 := HK.out w9 (((Below.refl _ w4).drew).trans hB9)
              have HB9 := hid (((Below.refl _ w4).drew).trans hB9)
              have HR9 := hid (HX.out.1.on HB9.out)
              clear ho hB9))
          | (go_at_call 25; refine (HErr.out _ HR9.out).mono ?_; rintro e w8 ⟨rfl, rfl⟩))
        all_goals (
          go_wp2
          go_roundg (acts.length - (k + 1))
          case measure => omega
          case rel => exact ⟨k + 1, st', by omega, rfl, by go_num, hid ⟨HR9.out, HX.out.2.1.on HB9.out, HX.out.2.2.trans (HB9.out.mono HX.out.2.2.size), HSL.out⟩⟩)
      · have hC := cCmds hRc (fun j hj => Nat.lt_trans hj.2 hRc.lt)
        go_wp2_with (first
          | (go_at_call 19; (
              refine hC.mono ?_
              rintro e w3 ⟨ra, rfl, hoa, hRc3, hg3⟩
              have hRr3 := hRr.kept hg3 (by omega) (fun hh => by have := hh.1; omega)
              have hR := rCmds hRr3 (fun j hj => Nat.lt_trans hj.2 hRr3.lt)
              have hWB3 := hWB.grown hg3 hWB.size (fun j hj => by cases hj; omega)
              have H3 := hid (And.intro hRc3 (And.intro hWB3 hR))
              have hs3 := hg3.size
              obtain ⟨ga, ca, na, rfl, hna⟩ := hoa.asSlice
              clear hna
              have HOA := hid hoa
              clear hoa
              clear hRc3 hRr3 hWB3 hR hg3 hC))
          | (go_at_call 20; (
              refine H3.out.2.2.mono ?_
              rintro e w4 ⟨rb, rfl, hob, hRr, hg4⟩
              have hRc := H3.out.1.kept hg4 (by omega) (fun hh => by have := hh.2; omega)
              have hWB := H3.out.2.1.grown hg4 H3.out.2.1.size (fun j hj => by cases hj; omega)
              obtain ⟨gb, cb, nb, rfl, hnb⟩ := hob.asSlice
              clear hnb
              have hoa' := HOA.out.kept' hg4 (by omega)
              have hSame := rSame hoa'.sl hob.sl (Nat.le_trans cmdsS_short (by omega)) (Nat.le_trans cmdsS_short (by omega))
              rw [show sameB (cmdsS st).1 (cmdsS st).1 = true from decide_eq_true rfl] at hSame
              have H4 := hid (And.intro hRc (And.intro hRr hWB))
              clear hRc hRr hWB hob hoa' hg4))
          | (go_at_call 18; (
              refine hSame.mono ?_
              rintro e w5 ⟨rfl, hB5⟩
              have hRc := H4.out.1.on hB5
              have hRr := H4.out.2.1.on hB5
              have hWB := H4.out.2.2.trans (hB5.mono H4.out.2.2.size)
              clear hB5 hSame)))
        obtain ⟨st', hst'⟩ : ∃ st', st' = (cmdsS st).2 := ⟨_, rfl⟩
        rw [← hst'] at hRc hRr
        have hsl : st'.1.length ≤ 3000 := by rw [hst']; exact Nat.le_trans cmdsS_rest hst.out.2.2.2
        obtain ⟨vm, _, _, m0, m1, _, _, hms, _⟩ := hRr.cells
        have hmc := convB hms
        have hErr := fun (W' : World) (h : Rd 63 (fun j => w.heap.size ≤ j ∧ j < p) W' p st') => cErr h
        obtain ⟨ee, hee⟩ : ∃ ee, ee = st'.2 := ⟨_, rfl⟩
        rw [← hee] at m1 hErr
        have HErr := hid hErr
        have HX := hid (And.intro hRc (And.intro hRr hWB))
        have HK := hid (fun (W' : World) (hb : Below w5.heap.size w5 W') => (show W'.cell? ⟨w2.heap.size, 0, none⟩ = some vm ∧ W'.cell? ⟨w2.heap.size, 1, none⟩ = some (.int .i64 ee) ∧ (convert 25 9 vm).run Try.prog W' = .ok (strB st'.1) W' from ⟨(hb.cell (p := ⟨w2.heap.size, 0, none⟩) HX.out.2.1.lt).trans m0, (hb.cell (p := ⟨w2.heap.size, 1, none⟩) HX.out.2.1.lt).trans m1, convB (hms.on hb)⟩))
        have hS0 := HK.out w5.drew ((Below.refl _ w5).drew)
        have HSL := hid hsl
        clear hRc hRr hWB hst' hms hee hErr m0 m1 hmc hsl
        go_region_held (fun W' => W'.cell? ⟨w2.heap.size, 0, none⟩ = some vm ∧ W'.cell? ⟨w2.heap.size, 1, none⟩ = some (.int .i64 ee) ∧ (convert 25 9 vm).run Try.prog W' = .ok (strB st'.1) W') (first | exact hS0 | assumption) (first
          | (go_at_call 24; (
              refine (cRest (HX.out.1.on ((Below.refl _ w5).drew)) (Nat.le_trans HSL.out (by omega))).mono ?_
              rintro e w9 ⟨r, rfl, ho, hB9⟩
              obtain ⟨g9, c9, n9, rfl, hn9⟩ := ho.asSlice
              clear hn9
              have hcr := convB ho.slb
              have hS9 := HK.out w9 (((Below.refl _ w5).drew).trans hB9)
              have HB9 := hid (((Below.refl _ w5).drew).trans hB9)
              have HR9 := hid (HX.out.1.on HB9.out)
              clear ho hB9))
          | (go_at_call 25; refine (HErr.out _ HR9.out).mono ?_; rintro e w8 ⟨rfl, rfl⟩))
        all_goals (
          go_wp2
          go_roundg (acts.length - (k + 1))
          case measure => omega
          case rel => exact ⟨k + 1, st', by omega, rfl, by go_num, hid ⟨HR9.out, HX.out.2.1.on HB9.out, HX.out.2.2.trans (HB9.out.mono HX.out.2.2.size), HSL.out⟩⟩)
      · have hC := cValue hRc (fun j hj => Nat.lt_trans hj.2 hRc.lt)
        obtain ⟨n, hn⟩ : ∃ n, n = (valueS st).1.1 := ⟨_, rfl⟩
        rw [← hn] at hC
        have HN := hid hn
        clear hn
        go_wp2_with (first
          | (go_at_call 22; (
              refine hC.mono ?_
              rintro e w3 ⟨ra, rfl, hoa, hRc3, hg3⟩
              have hRr3 := hRr.kept hg3 (by omega) (fun hh => by have := hh.1; omega)
              have hR := rValue hRr3 (fun j hj => Nat.lt_trans hj.2 hRr3.lt)
              rw [← HN.out] at hR
              have hWB3 := hWB.grown hg3 hWB.size (fun j hj => by cases hj; omega)
              have H3 := hid (And.intro hRc3 (And.intro hWB3 hR))
              have hs3 := hg3.size
              obtain ⟨ga, ca, na, rfl, hna⟩ := hoa.asSlice
              clear hna
              have HOA := hid hoa
              clear hoa
              clear hRc3 hRr3 hWB3 hR hg3 hC))
          | (go_at_call 23; (
              refine H3.out.2.2.mono ?_
              rintro e w4 ⟨rb, rfl, hob, hRr, hg4⟩
              have hRc := H3.out.1.kept hg4 (by omega) (fun hh => by have := hh.2; omega)
              have hWB := H3.out.2.1.grown hg4 H3.out.2.1.size (fun j hj => by cases hj; omega)
              obtain ⟨gb, cb, nb, rfl, hnb⟩ := hob.asSlice
              clear hnb
              have hoa' := HOA.out.kept' hg4 (by omega)
              have hSame := rSameValue (n : Nat) hoa'.sl hob.sl (Nat.le_trans valueS_few (by omega))
              have H4 := hid (And.intro hRc (And.intro hRr hWB))
              clear hRc hRr hWB hob hoa' hg4))
          | (go_at_call 21; (
              refine hSame.mono ?_
              rintro e w5 ⟨rfl, hB5⟩
              have hRc := H4.out.1.on hB5
              have hRr := H4.out.2.1.on hB5
              have hWB := H4.out.2.2.trans (hB5.mono H4.out.2.2.size)
              clear hB5 hSame)))
        obtain ⟨st', hst'⟩ : ∃ st', st' = (valueS st).2 := ⟨_, rfl⟩
        rw [← hst'] at hRc hRr
        have hsl : st'.1.length ≤ 3000 := by rw [hst']; exact Nat.le_trans valueS_rest hst.out.2.2.2
        obtain ⟨vm, _, _, m0, m1, _, _, hms, _⟩ := hRr.cells
        have hmc := convB hms
        have hErr := fun (W' : World) (h : Rd 63 (fun j => w.heap.size ≤ j ∧ j < p) W' p st') => cErr h
        obtain ⟨ee, hee⟩ : ∃ ee, ee = st'.2 := ⟨_, rfl⟩
        rw [← hee] at m1 hErr
        have HErr := hid hErr
        have HX := hid (And.intro hRc (And.intro hRr hWB))
        have HK := hid (fun (W' : World) (hb : Below w5.heap.size w5 W') => (show W'.cell? ⟨w2.heap.size, 0, none⟩ = some vm ∧ W'.cell? ⟨w2.heap.size, 1, none⟩ = some (.int .i64 ee) ∧ (convert 25 9 vm).run Try.prog W' = .ok (strB st'.1) W' from ⟨(hb.cell (p := ⟨w2.heap.size, 0, none⟩) HX.out.2.1.lt).trans m0, (hb.cell (p := ⟨w2.heap.size, 1, none⟩) HX.out.2.1.lt).trans m1, convB (hms.on hb)⟩))
        have hS0 := HK.out w5.drew ((Below.refl _ w5).drew)
        have HSL := hid hsl
        clear hRc hRr hWB hst' hms hee hErr m0 m1 hmc hsl
        go_region_held (fun W' => W'.cell? ⟨w2.heap.size, 0, none⟩ = some vm ∧ W'.cell? ⟨w2.heap.size, 1, none⟩ = some (.int .i64 ee) ∧ (convert 25 9 vm).run Try.prog W' = .ok (strB st'.1) W') (first | exact hS0 | assumption) (first
          | (go_at_call 24; (
              refine (cRest (HX.out.1.on ((Below.refl _ w5).drew)) (Nat.le_trans HSL.out (by omega))).mono ?_
              rintro e w9 ⟨r, rfl, ho, hB9⟩
              obtain ⟨g9, c9, n9, rfl, hn9⟩ := ho.asSlice
              clear hn9
              have hcr := convB ho.slb
              have hS9 := HK.out w9 (((Below.refl _ w5).drew).trans hB9)
              have HB9 := hid (((Below.refl _ w5).drew).trans hB9)
              have HR9 := hid (HX.out.1.on HB9.out)
              clear ho hB9))
          | (go_at_call 25; refine (HErr.out _ HR9.out).mono ?_; rintro e w8 ⟨rfl, rfl⟩))
        all_goals (
          go_wp2
          go_roundg (acts.length - (k + 1))
          case measure => omega
          case rel => exact ⟨k + 1, st', by omega, rfl, by go_num, hid ⟨HR9.out, HX.out.2.1.on HB9.out, HX.out.2.2.trans (HB9.out.mono HX.out.2.2.size), HSL.out⟩⟩)
    · have hfd : ∀ W : World, (Instr.field 34 (.agg #[.int .i64 0, .slice none 0 0]) 0).run Try.prog W = .ok (.int .i64 0) W := fun _ => by kernel_rfl
      have hE : ∀ W, Sem.run Try.prog (binOp .eql 45 (.agg #[.int .i64 0, .int .i64 0, .int .i64 0, .int .i64 0, .int .i64 0, .int .i64 0, .int .i64 0]) (.agg #[.int .i64 0, .int .i64 0, .int .i64 0, .int .i64 0, .int .i64 0, .int .i64 0, .int .i64 0])) W = .ok (.bool true) W := fun W => eqlC (a := ⟨0, 0, 0, 0, 0, 0, 0⟩) (b := ⟨0, 0, 0, 0, 0, 0, 0⟩) (r := true) rfl W
      have hG : ∀ op p q W, Sem.run Try.prog (eqGuard op 45 p q (.agg #[.int .i64 0, .int .i64 0, .int .i64 0, .int .i64 0, .int .i64 0, .int .i64 0, .int .i64 0]) (.agg #[.int .i64 0, .int .i64 0, .int .i64 0, .int .i64 0, .int .i64 0, .int .i64 0, .int .i64 0])) W = .ok () W := fun op p q W => guardC op p q ⟨0, 0, 0, 0, 0, 0, 0⟩ ⟨0, 0, 0, 0, 0, 0, 0⟩ W
      have HW := hid hWB
      clear hRc hRr hWB hst
      go_wp2_with (first
        | (go_at_call 6; (
            refine (oAlive _).mono ?_
            rintro e w5 ⟨rfl, hB⟩
            have HW5 := hid (HW.out.trans (hB.mono HW.out.size))
            clear hB))
        | (go_at_call 14; refine (cNum0 _).mono ?_; rintro e w6 ⟨rfl, rfl⟩)
        | (go_at_call 16; (
            refine (cCmd0 _).mono ?_
            rintro e w6 ⟨rfl, hB⟩
            have HW6 := hid (HW5.out.trans (hB.mono HW5.out.size))
            clear hB))
        | (go_at_call 19; refine (cCmds0 _).mono ?_; rintro e w7 ⟨rfl, rfl⟩)
        | (go_at_call 22; (
            refine (cValue0 _).mono ?_
            rintro e w7 ⟨rfl, hB⟩
            have HW7 := hid (HW6.out.trans (hB.mono HW6.out.size))
            clear hB))
        | (go_at_call 24; refine (cRest0 _).mono ?_; rintro e w8 ⟨rfl, rfl⟩)
        | (go_at_call 25; refine (cErr0 _).mono ?_; rintro e w8 ⟨rfl, rfl⟩))
      go_ret
      exact ⟨rfl, HW7.out⟩
end Go.Proofs.Ytioajkblgcpfaaa

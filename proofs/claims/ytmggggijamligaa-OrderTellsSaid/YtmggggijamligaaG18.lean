import Derived.Test.YtmggggijamligaaG17
import Derived.Test.YtmggggijamligaaG05
import Derived.Test.YtmggggijamligaaG07
import Derived.Test.YtmggggijamligaaG00
import Derived.Lib.SmallJoins
import Derived.Carry
import Derived.Handed
import Derived.OpenShut
import Derived.Deep.Slices
import Derived.Deep.Fields
import Derived.ChangeSame
import Derived.Test.YtmggggijamligaaG01
import Derived.ChangeSlices
import Derived.Test.YtmggggijamligaaG02
namespace Go.Proofs.Ytmggggijamligaa
set_option linter.unusedVariables false
open Go.RowKit
open Go.Lib (hid)
set_option maxHeartbeats 4000000 in
set_option maxRecDepth 100000 in
theorem aliveT (hNX : NextOK) (hAL : AllOK) (hWA : WaitsOK) : AliveOK := by
  intro w
  have HNX : Hid NextOK := hid hNX
  have HAL : Hid AllOK := hid hAL
  have HWA : Hid WaitsOK := hid hWA
  clear hNX hAL hWA
  go_enter Try.func6, Try.ntmps6
  go_upto_region 4 with fail
  refine laid_any w _ _ _ _ _ ?_
  intro W0 hB0 h0 h1 h2 h3 h4
  have HB0 := hid hB0
  have H0 : Hid (BoxC W0 (w.heap.size) aA) := hid h0
  have H1 : Hid (BoxC W0 (w.heap.size + 1) aB) := hid h1
  have H2 : Hid (BoxC W0 (w.heap.size + 1 + 1) aB) := hid h2
  have H3 : Hid (BoxC W0 (w.heap.size + 1 + 1 + 1) aA) := hid h3
  have H4 := hid h4
  clear hB0 h0 h1 h2 h3 h4
  obtain ⟨p, hp⟩ : ∃ p : Sv, p = ⟨some ⟨w.heap.size + 1 + 1, 0, none⟩, 1, 1⟩ := ⟨_, rfl⟩
  obtain ⟨q, hq⟩ : ∃ q : Sv, q = ⟨some ⟨w.heap.size + 1 + 1 + 1, 0, none⟩, 1, 1⟩ := ⟨_, rfl⟩
  have HS : Hid (SlE W0 (.slice (some ⟨w.heap.size + 1 + 1 + 1 + 1, 0, none⟩) 2 2) (evs [live0 p, live1 q])) := hid (slE_of (more := []) H4.out (by subst hp hq; rfl) rfl)
  have HT : Hid (SlE W0 (.slice (some ⟨w.heap.size + 1 + 1 + 1 + 1, 0, none⟩) 1 2) (evs [live0 p])) := hid (slE_of (more := (live1 q).e.list) H4.out (by subst hp hq; rfl) rfl)
  have HA : Hid (AllAt W0 [live0 p, live1 q]) := hid (live_at (by rw [hp]) (by rw [hq]) H2.out H3.out)
  have HA1 : Hid (AllAt W0 [live0 p]) := hid (fun x hx => HA.out x (by simp at hx; subst hx; simp))
  have hA1 := HAL.out HS.out HA.out live_short (by show 2 ≤ 1000; decide) (slS_nil W0) (by decide) (live_wf p q (by simp))
  rw [live_all] at hA1
  clear hp hq
  go_upto_region 5 with (first
    | (go_at_call 11; refine hA1.mono ?_; clear hA1; rintro e w1 ⟨r1, rfl, ho1, hB1⟩; have HB1 := hid hB1; have HO1 := hid ho1; clear ho1 hB1)
    | fail)
  have HBI : Hid (Below w1.heap.size w1 (w1.alloc (.cells #[.int .i64 17] 3))) := hid ((Below.refl _ w1).alloc (Nat.le_refl _) _)
  have HI : Hid (SlS (w1.alloc (.cells #[.int .i64 17] 3)) (.slice (some ⟨w1.heap.size, 0, none⟩) 1 1) [17]) := hid (OwnI.one w1 17)
  have HB2 : Hid (Below W0.heap.size W0 (w1.alloc (.cells #[.int .i64 17] 3))) := hid (HB1.out.trans (HBI.out.mono HB1.out.size))
  have hN := HNX.out (HS.out.on HB2.out) (HA.out.on HB2.out) live_short (by show 2 ≤ 1000; decide) HI.out (by decide) (live_wf p q (by intro x hx; simp at hx; subst hx; exact wfI_of (by decide))) (some 0) (live_next p q).symm aA rfl true rfl
  go_upto_region 6 with (first
    | (go_at_call 8; refine hN.mono ?_; clear hN; rintro e w3 ⟨rfl, hB3⟩; have HB3 := hid (HB2.out.trans (hB3.mono HB2.out.size)); have HO3 := hid ((HO1.out.onB HBI.out).onB hB3); clear hB3)
    | fail)
  have HBX : Hid (Below w3.heap.size w3 (w3.alloc (.cells #[.int .i64 aA.i, .int .i64 aA.k, .int .i64 aA.s, .int .i64 aA.t, .int .i64 aA.d, .int .i64 aA.p, .int .i64 aA.q] 31))) := hid ((Below.refl _ w3).alloc (Nat.le_refl _) _)
  have HX : Hid (BoxC (w3.alloc (.cells #[.int .i64 aA.i, .int .i64 aA.k, .int .i64 aA.s, .int .i64 aA.t, .int .i64 aA.d, .int .i64 aA.p, .int .i64 aA.q] 31)) w3.heap.size aA) := hid (heap_alloc_new w3 _)
  generalize w3.alloc (.cells #[.int .i64 aA.i, .int .i64 aA.k, .int .i64 aA.s, .int .i64 aA.t, .int .i64 aA.d, .int .i64 aA.p, .int .i64 aA.q] 31) = W4 at HBX HX ⊢
  have HB4 := hid (HB3.out.trans (HBX.out.mono HB3.out.size))
  have HO4 := hid (HO3.out.onB HBX.out)
  have hW := HWA.out (HT.out.on HB4.out) (HA1.out.on HB4.out) (live_short1 (p := p)) (by show 1 ≤ 1000; decide) (slS_nil W4) (by decide) ⟨fun y hy => (live_wf p q (had := []) (by simp)).1 y (by simp at hy; subst hy; simp), by simp⟩
  rw [live_waits] at hW
  go_upto_region 7 with (first
    | (go_at_call 14; refine hW.mono ?_; clear hW; rintro e w5 ⟨r3, rfl, ho5, hB5⟩; have HB5 := hid (HB4.out.trans (hB5.mono HB4.out.size)); have HO5 := hid (HO4.out.onB hB5); have HX5 := hid (HX.out.on hB5); have HR5 := hid ho5.sl; clear hB5 ho5)
    | fail)
  obtain ⟨bi, oi, ci, rfl, i0⟩ := slI_one HR5.out
  obtain ⟨bo, oo, co, rfl, a0, a1, a2, a3, a4, a5, a6⟩ := sl_two HO5.out.sl
  obtain ⟨b0, b1, b2, b3, b4, b5, b6⟩ := ((H1.out.on HB5.out)).cells
  obtain ⟨c0, c1, c2, c3, c4, c5, c6⟩ := HX5.out.cells
  obtain ⟨d0, d1, d2, d3, d4, d5, d6⟩ := ((H0.out.on HB5.out)).cells
  simp only [aA, aB] at a0 a1 a2 a3 a4 a5 a6 b0 b1 b2 b3 b4 b5 b6 c0 c1 c2 c3 c4 c5 c6 d0 d1 d2 d3 d4 d5 d6
  have hE1 : ∀ w, Sem.run Try.prog (binOp .eql 31 (cmV 17 1 0 16 0 0 0) (cmV 17 1 0 16 0 0 0)) w = .ok (.bool true) w := eqlC (a := aB) (b := aB) (C7.same_iff.2 rfl)
  have hE2 : ∀ w, Sem.run Try.prog (binOp .eql 31 (cmV 16 1 0 17 0 0 0) (cmV 16 1 0 17 0 0 0)) w = .ok (.bool true) w := eqlC (a := aA) (b := aA) (C7.same_iff.2 rfl)
  have hG1 : ∀ op p q W, Sem.run Try.prog (eqGuard op 31 p q (cmV 17 1 0 16 0 0 0) (cmV 17 1 0 16 0 0 0)) W = .ok () W := fun op p q W => guardC op p q aB aB W
  have hG2 : ∀ op p q W, Sem.run Try.prog (eqGuard op 31 p q (cmV 16 1 0 17 0 0 0) (cmV 16 1 0 17 0 0 0)) W = .ok () W := fun op p q W => guardC op p q aA aA W
  go_quiet (fail)
  go_wp2_with fail
  go_ret
  exact ⟨rfl, Below.drewN' (HB0.out.trans (HB5.out.mono HB0.out.size)) _⟩
end Go.Proofs.Ytmggggijamligaa
namespace Go.Proofs.Ytmggggijamligaa
set_option linter.unusedVariables false
open Go.RowKit
open Go.Lib (hid)
end Go.Proofs.Ytmggggijamligaa
namespace Go.Proofs.Ytmggggijamligaa
set_option linter.unusedVariables false
open Go.RowKit
open Go.Lib (hid)
section
variable {n : Nat} {S : Nat → Int} {T : Nat → Nat} {l : List En} {ix : List Nat}
structure PickT (l : List En) (k : Nat) (lp : List En) (ix : List Nat) : Prop where
  nd : ix.Nodup
  lt : ∀ i ∈ ix, i < k
  len : lp.length = ix.length
  ok : ∀ (j : Nat) (x : En) (i : Nat), lp[j]? = some x → ix[j]? = some i → l[i]? = some x
theorem PickT.none (l : List En) : PickT l 0 [] [] := ⟨List.nodup_nil, fun i h => by simp at h, rfl, fun j x i h => by simp at h⟩
theorem PickT.keep {k : Nat} {lp : List En} (h : PickT l k lp ix) : PickT l (k + 1) lp ix := ⟨h.nd, fun i hi => Nat.lt_succ_of_lt (h.lt i hi), h.len, h.ok⟩
theorem PickT.take {k : Nat} {lp : List En} {x : En} (h : PickT l k lp ix) (hx : l[k]? = some x) : PickT l (k + 1) (lp ++ [x]) (ix ++ [k]) := by
  refine ⟨?_, ?_, ?_, ?_⟩
  · rw [List.nodup_append]
    refine ⟨h.nd, by simp, fun a ha b hb e => ?_⟩
    rw [List.mem_singleton] at hb
    have := h.lt a ha
    omega
  · intro i hi
    rcases List.mem_append.1 hi with hi | hi
    · exact Nat.lt_succ_of_lt (h.lt i hi)
    · rw [List.mem_singleton] at hi; omega
  · rw [List.length_append, List.length_append, h.len]; rfl
  · intro j y i hy hi
    rcases Nat.lt_or_ge j lp.length with hj | hj
    · rw [List.getElem?_append_left hj] at hy
      rw [List.getElem?_append_left (by rw [← h.len]; exact hj)] at hi
      exact h.ok j y i hy hi
    · rw [List.getElem?_append_right hj] at hy
      rw [List.getElem?_append_right (by rw [← h.len]; exact hj)] at hi
      have hj0 : j - lp.length = 0 := by have := (List.getElem?_eq_some_iff.1 hy).1; simp at this; omega
      rw [← h.len] at hi
      rw [hj0] at hy hi
      obtain rfl := Option.some.inj hy
      obtain rfl := Option.some.inj hi
      exact hx
theorem PickT.mem {k : Nat} {lp : List En} (h : PickT l k lp ix) : ∀ x ∈ lp, x ∈ l := fun x hx => by
  obtain ⟨j, hj⟩ := List.getElem?_of_mem hx
  have hjl := (List.getElem?_eq_some_iff.1 hj).1
  have hi : ix[j]? = some (ix[j]'(by rw [← h.len]; exact hjl)) := List.getElem?_eq_getElem _
  exact List.mem_of_getElem? (h.ok j x _ hj hi)
end
end Go.Proofs.Ytmggggijamligaa
namespace Go.Proofs.Ytmggggijamligaa
set_option linter.unusedVariables false
open Go.RowKit
open Go.Lib (hid)
end Go.Proofs.Ytmggggijamligaa
namespace Go.Proofs.Ytmggggijamligaa
set_option linter.unusedVariables false
open Go.Joins Go.ChangeShapes Go.WideShapes Go.ChangeAt Go.RowKit Go.Deep
theorem list_of {n : Nat} {P : Nat → C7 → Prop} (h : ∀ i, i < n → ∃ c, P i c) : ∃ cs : List C7, cs.length = n ∧ ∀ (j : Nat) c, cs[j]? = some c → P j c := by
  induction n with
  | zero => exact ⟨[], rfl, fun j c hc => by simp at hc⟩
  | succ n ih =>
    obtain ⟨cs, hl, hp⟩ := ih fun i hi => h i (by omega)
    obtain ⟨c, hc⟩ := h n (by omega)
    refine ⟨cs ++ [c], by simp [hl], fun j d hd => ?_⟩
    by_cases hj : j < cs.length
    · rw [List.getElem?_append_left hj] at hd; exact hp j d hd
    · have hlen := (List.getElem?_eq_some_iff.1 hd).1
      simp at hlen
      obtain rfl : j = cs.length := by omega
      simp at hd
      subst hd
      rw [hl]; exact hc
theorem add_plain (b o n : Nat) : (⟨b, o, none⟩ : Addr).add n = ⟨b, o + n, none⟩ := by
  by_cases h : n = 0
  · subst h; simp [Addr.add]
  · simp [Addr.add, h]
theorem open_fields {H : Type} {enc : TypeId × Value → H} {P : Program} {w : World} {base : Nat} {spare : Nat → Bool} {held : Bool} {t e : TypeId} {fs : Array Field} {fuel : Nat} {cs : List Value} {x : DataW H × List MemPlace} (ht : P.underlying t = some (.slice e)) (he : P.underlying e = some (.struct fs))
    (hone : oneCellFields P fs = true) (hC : P.cellsOf e = fs.size) (h : DataW.trod enc P w base spare held fuel t cs = some x) :
    cs = [.slice none 0 0] ∨
    ∃ (a : Addr) (len cap : Nat), cs = [.slice (some a) len cap] ∧ len ≤ maxLen ∧
      ∀ i, i < len → ∃ n : Nat, ∀ (j : Nat) (f : Field), fs[j]? = some f → ∃ (v : Value) (y : DataW H × List MemPlace), w.cell? (a.add (i * fs.size + j)) = some v ∧ DataW.trod enc P w base spare held n f.type [v] = some y := by
  rcases open_slice ht h with h0 | ⟨a, len, cap, m, n, D, Pl, hcs, _, hl, hm, hmm, _, hi⟩
  · exact .inl h0.1
  · refine .inr ⟨a, len, cap, hcs, by omega, fun i him => ?_⟩
    obtain ⟨cs', hc, ht'⟩ := hi i (by rw [hmm]; split <;> omega)
    rw [hC] at hc
    obtain ⟨ys, n', _, _, hlen, hyl, hf⟩ := DataW.trod_struct he ht'
    obtain ⟨_, _, hat⟩ := World.cells?_some hc
    refine ⟨n', fun j f hj => ?_⟩
    obtain ⟨ho, hk⟩ := hone_of hone j f hj
    have hjl : j < fs.size := (Array.getElem?_eq_some_iff.1 hj).1
    have hcell := hat j hjl
    have hv : cs'[j]? = some (cs'[j]'(by omega)) := List.getElem?_eq_getElem (by omega)
    have h1 := hf j f hj
    rw [ho, hk] at h1
    have hone' : (cs'.drop j).take 1 = [cs'[j]'(by omega)] := by
      rw [List.drop_eq_getElem_cons (by omega)]
      rfl
    rw [hone'] at h1
    have hys : ys[j]? = some (ys[j]'(by omega)) := List.getElem?_eq_getElem (by omega)
    refine ⟨_, _, ?_, h1.trans hys⟩
    rw [← Go.Deep.add_add, hcell, hv]
theorem own : ownKnob Try.prog.godebug = none := by kernel_rfl
theorem laidOut : laidOutB Try.prog = true := by kernel_rfl
end Go.Proofs.Ytmggggijamligaa
namespace Go.Proofs.Ytmggggijamligaa
set_option linter.unusedVariables false
open Go.Joins Go.ChangeShapes Go.WideShapes Go.ChangeAt Go.RowKit Go.Deep
theorem first_plain {W : World} {a : Addr} {v : Value} (h : W.cell? (a.add 0) = some v) : a.spot = none ∧ a.block < W.heap.size :=
  ⟨by simpa [Addr.add] using World.cell?_spot h, by simpa [Addr.add] using World.block_lt_of_cell? W _ h⟩
set_option maxRecDepth 100000 in
theorem open_nums {H : Type} {enc : TypeId × Value → H} {W : World} {base : Nat} {spare : Nat → Bool} {held : Bool} {b0 : Nat} {v : Value} {d : DataW H} {p : List MemPlace} (hv : Value.okWide Try.prog W .any b0 23 v) (h : DataW.Trod enc Try.prog W base spare held 23 v d p) :
    ∃ l : List Int, SlN W v l ∧ l.length ≤ 9223372036854775807 := by
  obtain ⟨a0, n0, c0, rfl⟩ := okWide_slice Try.underlying23 hv
  obtain ⟨fuel, hf⟩ := h
  rcases open_ints Try.underlying23 Try.underlying3 (by kernel_rfl) hf with ⟨h0, _⟩ | ⟨a, len, cap, zs, hcs, _, hl, hm, hzl, _, hc, _⟩
  · simp [Value.cells] at h0
    obtain ⟨rfl, rfl, rfl⟩ := h0
    exact ⟨[], ⟨0, 0, 0, none, rfl, fun h => absurd h (by simp), fun j x hx => by simp at hx, fun h => absurd h (by simp)⟩, by simp⟩
  · simp [Value.cells] at hcs
    obtain ⟨rfl, rfl, rfl⟩ := hcs
    have hle : n0 ≤ zs.length := by rw [hzl]; split <;> omega
    have hlen : (zs.take n0).length = n0 := by rw [List.length_take]; omega
    have hfirst : 0 < n0 → a.spot = none ∧ a.block < W.heap.size := fun h0 => first_plain (hc 0 (by omega))
    obtain ⟨b, o, spot⟩ := a
    refine ⟨zs.take n0, ⟨b, o, c0, some ⟨b, o, spot⟩, by rw [hlen], fun h0 => ?_, fun j x hx => ?_, fun h0 => (hfirst (by omega)).2⟩, ?_⟩
    · rw [show spot = none from (hfirst (by omega)).1]
    · have hj := (List.getElem?_eq_some_iff.1 hx).1
      have := hc j (by omega)
      rw [show spot = none from (hfirst (by omega)).1, add_plain] at this
      rw [this]
      rw [List.getElem?_take, if_pos (by omega)] at hx
      simp [List.getD, hx]
    · rw [hlen]; exact Nat.le_trans hl (Nat.le_trans hm (by decide))
end Go.Proofs.Ytmggggijamligaa
namespace Go.Proofs.Ytmggggijamligaa
set_option linter.unusedVariables false
open Go.Joins Go.ChangeShapes Go.WideShapes Go.ChangeAt Go.RowKit Go.Deep
set_option maxRecDepth 100000 in
theorem open_cmds_in {H : Type} {enc : TypeId × Value → H} {W : World} {base : Nat} {spare : Nat → Bool} {held : Bool} {fuel : Nat} {v : Value} {x : DataW H × List MemPlace} (hf : DataW.trod enc Try.prog W base spare held fuel 35 [v] = some x) :
    ∃ cs : List C7, Sl W v cs ∧ cs.length ≤ 9223372036854775807 := by
  rcases open_fields Try.underlying35 Try.underlying31 (by kernel_rfl) (by kernel_rfl) hf with h0 | ⟨a, len, cap, hcs, hm, hi⟩
  · obtain rfl := (List.cons.inj h0).1
    exact ⟨[], ⟨0, 0, 0, none, rfl, fun _ => rfl, fun h => absurd h (by simp), fun j c hc => by simp at hc, fun h => absurd h (by simp)⟩, by simp⟩
  · obtain rfl := (List.cons.inj hcs).1
    obtain ⟨cs, hl, hp⟩ := list_of (n := len) (P := fun i c => ∀ (f : Nat) u, c.cells[f]? = some u → W.cell? (a.add (i * 7 + f)) = some u) fun i hlt => by
      obtain ⟨n, hf⟩ := hi i hlt
      obtain ⟨v0, y0, g0, t0⟩ := hf 0 _ rfl
      obtain ⟨v1, y1, g1, t1⟩ := hf 1 _ rfl
      obtain ⟨v2, y2, g2, t2⟩ := hf 2 _ rfl
      obtain ⟨v3, y3, g3, t3⟩ := hf 3 _ rfl
      obtain ⟨v4, y4, g4, t4⟩ := hf 4 _ rfl
      obtain ⟨v5, y5, g5, t5⟩ := hf 5 _ rfl
      obtain ⟨v6, y6, g6, t6⟩ := hf 6 _ rfl
      obtain ⟨z0, e0, _, _⟩ := DataW.trod_int Try.underlying3 t0
      obtain ⟨z1, e1, _, _⟩ := DataW.trod_int Try.underlying28 t1
      obtain ⟨z2, e2, _, _⟩ := DataW.trod_int Try.underlying3 t2
      obtain ⟨z3, e3, _, _⟩ := DataW.trod_int Try.underlying3 t3
      obtain ⟨z4, e4, _, _⟩ := DataW.trod_int Try.underlying29 t4
      obtain ⟨z5, e5, _, _⟩ := DataW.trod_int Try.underlying3 t5
      obtain ⟨z6, e6, _, _⟩ := DataW.trod_int Try.underlying3 t6
      simp only [List.cons.injEq, and_true] at e0 e1 e2 e3 e4 e5 e6
      subst e0 e1 e2 e3 e4 e5 e6
      refine ⟨⟨z0, z1, z2, z3, z4, z5, z6⟩, fun f u hu => ?_⟩
      match f, hu with
      | 0, hu => obtain rfl := Option.some.inj hu; exact g0
      | 1, hu => obtain rfl := Option.some.inj hu; exact g1
      | 2, hu => obtain rfl := Option.some.inj hu; exact g2
      | 3, hu => obtain rfl := Option.some.inj hu; exact g3
      | 4, hu => obtain rfl := Option.some.inj hu; exact g4
      | 5, hu => obtain rfl := Option.some.inj hu; exact g5
      | 6, hu => obtain rfl := Option.some.inj hu; exact g6
      | _ + 7, hu => cases hu
    have hfirst : 0 < cs.length → a.spot = none ∧ a.block < W.heap.size := fun h0 => by
      have hc : cs[0]? = some cs[0] := List.getElem?_eq_getElem h0
      have := hp 0 _ hc 0 _ rfl
      exact ⟨by simpa [Addr.add] using World.cell?_spot this, by simpa [Addr.add] using World.block_lt_of_cell? W _ this⟩
    obtain ⟨b, o, spot⟩ := a
    refine ⟨cs, ⟨b, o, cap, some ⟨b, o, spot⟩, by rw [hl], (fun e => by cases e), fun h0 => ?_, fun j c hc f u hu => ?_, fun h0 => (hfirst h0).2⟩, ?_⟩
    · rw [show spot = none from (hfirst h0).1]
    · have h0 : 0 < cs.length := by have := (List.getElem?_eq_some_iff.1 hc).1; omega
      have := hp j c hc f u hu
      rw [show spot = none from (hfirst h0).1] at this
      rw [add_plain] at this
      exact this
    · rw [hl]; exact Nat.le_trans hm (by decide)
end Go.Proofs.Ytmggggijamligaa
namespace Go.Proofs.Ytmggggijamligaa
set_option linter.unusedVariables false
open Go.Joins Go.ChangeShapes Go.WideShapes Go.ChangeAt Go.RowKit Go.Deep
theorem cellsC : Try.prog.cellsOf 31 = 7 := by kernel_rfl
theorem cellsV : Try.prog.cellsOf 37 = 2 := by kernel_rfl
theorem cellsI : Try.prog.cellsOf 3 = 1 := by kernel_rfl
theorem cellsK : Try.prog.cellsOf 28 = 1 := by kernel_rfl
theorem cellsD : Try.prog.cellsOf 29 = 1 := by kernel_rfl
theorem cellsB : Try.prog.cellsOf 4 = 1 := by kernel_rfl
theorem cellsS : Try.prog.cellsOf 35 = 1 := by kernel_rfl
theorem cellsE : Try.prog.cellsOf 55 = 19 := by kernel_rfl
section
variable {H : Type} {enc : TypeId × Value → H} {W : World} {base : Nat} {spare : Nat → Bool} {held : Bool} {fuel : Nat}
theorem struct_in {P : Program} {t : TypeId} {fs : Array Field} {cs : List Value} {x : DataW H × List MemPlace} (ht : P.underlying t = some (.struct fs)) (h : DataW.trod enc P W base spare held fuel t cs = some x) :
    cs.length = P.cellsOf t ∧ ∃ n, ∀ (i : Nat) (f : Field), fs[i]? = some f → ∃ y, DataW.trod enc P W base spare held n f.type ((cs.drop f.offset).take (P.cellsOf f.type)) = some y := by
  obtain ⟨xs, n, _, _, hl, hx, hf⟩ := DataW.trod_struct ht h
  refine ⟨hl, n, fun i f hi => ?_⟩
  have hlt : i < fs.size := (Array.getElem?_eq_some_iff.1 hi).1
  exact ⟨xs[i]'(by omega), (hf i f hi).trans (List.getElem?_eq_getElem (by omega))⟩
theorem int_in {t : TypeId} {c : Value} {x : DataW H × List MemPlace} (ht : Try.prog.underlying t = some (.int .i64)) (h : DataW.trod enc Try.prog W base spare held fuel t [c] = some x) : ∃ z, c = .int .i64 z := by
  obtain ⟨z, e, _, _⟩ := DataW.trod_int ht h
  exact ⟨z, (List.cons.inj e).1⟩
set_option maxRecDepth 100000 in
theorem cmd_in {cs : List Value} {x : DataW H × List MemPlace} (h : DataW.trod enc Try.prog W base spare held fuel 31 cs = some x) : ∃ c : C7, cs = c.cells := by
  obtain ⟨hl, n, hf⟩ := struct_in Try.underlying31 h
  rw [cellsC] at hl
  match cs, hl with
  | [c0, c1, c2, c3, c4, c5, c6], _ =>
    obtain ⟨y0, h0⟩ := hf 0 _ rfl
    obtain ⟨y1, h1⟩ := hf 1 _ rfl
    obtain ⟨y2, h2⟩ := hf 2 _ rfl
    obtain ⟨y3, h3⟩ := hf 3 _ rfl
    obtain ⟨y4, h4⟩ := hf 4 _ rfl
    obtain ⟨y5, h5⟩ := hf 5 _ rfl
    obtain ⟨y6, h6⟩ := hf 6 _ rfl
    simp only [List.getElem_toArray, List.getElem_cons_succ, List.getElem_cons_zero, cellsI, cellsK, cellsD, List.drop_succ_cons, List.drop_zero, List.take_succ_cons, List.take_zero] at h0 h1 h2 h3 h4 h5 h6
    obtain ⟨z0, rfl⟩ := int_in Try.underlying3 h0
    obtain ⟨z1, rfl⟩ := int_in Try.underlying28 h1
    obtain ⟨z2, rfl⟩ := int_in Try.underlying3 h2
    obtain ⟨z3, rfl⟩ := int_in Try.underlying3 h3
    obtain ⟨z4, rfl⟩ := int_in Try.underlying29 h4
    obtain ⟨z5, rfl⟩ := int_in Try.underlying3 h5
    obtain ⟨z6, rfl⟩ := int_in Try.underlying3 h6
    exact ⟨⟨z0, z1, z2, z3, z4, z5, z6⟩, rfl⟩
theorem sv_of {v : Value} {l : List C7} (h : Sl W v l) : ∃ p : Sv, v = p.v ∧ Sl W p.v l := by
  obtain ⟨_, _, cap, a, rfl, _⟩ := id h
  exact ⟨⟨a, l.length, cap⟩, rfl, h⟩
set_option maxRecDepth 100000 in
theorem value_in {cs : List Value} {x : DataW H × List MemPlace} (h : DataW.trod enc Try.prog W base spare held fuel 37 cs = some x) : ∃ (t : Int) (p : Sv) (l : List C7), cs = [.int .i64 t, p.v] ∧ Sl W p.v l := by
  obtain ⟨hl, n, hf⟩ := struct_in Try.underlying37 h
  rw [cellsV] at hl
  match cs, hl with
  | [c0, c1], _ =>
    obtain ⟨y0, h0⟩ := hf 0 _ rfl
    obtain ⟨y1, h1⟩ := hf 1 _ rfl
    simp only [List.getElem_toArray, List.getElem_cons_succ, List.getElem_cons_zero, cellsI, cellsS, List.drop_succ_cons, List.drop_zero, List.take_succ_cons, List.take_zero] at h0 h1
    obtain ⟨z0, rfl⟩ := int_in Try.underlying3 h0
    obtain ⟨l, hs, _⟩ := open_cmds_in h1
    obtain ⟨p, rfl, hp⟩ := sv_of hs
    exact ⟨z0, p, l, rfl, hp⟩
set_option maxRecDepth 100000 in
theorem ent_in {cs : List Value} {x : DataW H × List MemPlace} (h : DataW.trod enc Try.prog W base spare held fuel 55 cs = some x) : ∃ y : En, cs = y.e.list ∧ y.at W := by
  obtain ⟨hl, n, hf⟩ := struct_in Try.underlying55 h
  rw [cellsE] at hl
  match cs, hl with
  | [c0, c1, c2, c3, c4, c5, c6, c7, c8, c9, c10, c11, c12, c13, c14, c15, c16, c17, c18], _ =>
    obtain ⟨y0, h0⟩ := hf 0 _ rfl
    obtain ⟨y1, h1⟩ := hf 1 _ rfl
    obtain ⟨y2, h2⟩ := hf 2 _ rfl
    obtain ⟨y3, h3⟩ := hf 3 _ rfl
    obtain ⟨y4, h4⟩ := hf 4 _ rfl
    obtain ⟨y5, h5⟩ := hf 5 _ rfl
    obtain ⟨y6, h6⟩ := hf 6 _ rfl
    obtain ⟨y7, h7⟩ := hf 7 _ rfl
    obtain ⟨y8, h8⟩ := hf 8 _ rfl
    obtain ⟨y9, h9⟩ := hf 9 _ rfl
    simp only [List.getElem_toArray, List.getElem_cons_succ, List.getElem_cons_zero, cellsI, cellsC, cellsV, cellsB, List.drop_succ_cons, List.drop_zero, List.take_succ_cons, List.take_zero] at h0 h1 h2 h3 h4 h5 h6 h7 h8 h9
    obtain ⟨c, hc⟩ := cmd_in h0
    obtain ⟨z1, rfl⟩ := int_in Try.underlying3 h1
    obtain ⟨z2, rfl⟩ := int_in Try.underlying3 h2
    obtain ⟨z3, rfl⟩ := int_in Try.underlying3 h3
    obtain ⟨t4, p4, l4, e4, s4⟩ := value_in h4
    obtain ⟨z5, rfl⟩ := int_in Try.underlying3 h5
    obtain ⟨t6, p6, l6, e6, s6⟩ := value_in h6
    obtain ⟨b7, e7, _⟩ := DataW.trod_bool Try.underlying4 h7
    obtain ⟨b8, e8, _⟩ := DataW.trod_bool Try.underlying4 h8
    obtain ⟨t9, p9, l9, e9, s9⟩ := value_in h9
    simp only [C7.cells, List.cons.injEq, and_true] at hc e4 e6 e7 e8 e9
    obtain ⟨rfl, rfl, rfl, rfl, rfl, rfl, rfl⟩ := hc
    obtain ⟨rfl, rfl⟩ := e4
    obtain ⟨rfl, rfl⟩ := e6
    subst e7 e8
    obtain ⟨rfl, rfl⟩ := e9
    exact ⟨⟨⟨c, z1, z2, z3, t4, p4, z5, t6, p6, b7, b8, t9, p9⟩, l4, l6, l9⟩, rfl, s4, s6, s9⟩
end
theorem list_of' {α : Type} {n : Nat} {P : Nat → α → Prop} (h : ∀ i, i < n → ∃ c, P i c) : ∃ cs : List α, cs.length = n ∧ ∀ (j : Nat) c, cs[j]? = some c → P j c := by
  induction n with
  | zero => exact ⟨[], rfl, fun j c hc => by simp at hc⟩
  | succ n ih =>
    obtain ⟨cs, hl, hp⟩ := ih fun i hi => h i (by omega)
    obtain ⟨c, hc⟩ := h n (by omega)
    refine ⟨cs ++ [c], by simp [hl], fun j d hd => ?_⟩
    by_cases hj : j < cs.length
    · rw [List.getElem?_append_left hj] at hd; exact hp j d hd
    · have hlen := (List.getElem?_eq_some_iff.1 hd).1
      simp at hlen
      obtain rfl : j = cs.length := by omega
      simp at hd
      subst hd
      rw [hl]; exact hc
set_option maxRecDepth 100000 in
theorem open_ents {H : Type} {enc : TypeId × Value → H} {W : World} {base : Nat} {spare : Nat → Bool} {held : Bool} {b0 : Nat} {v : Value} {d : DataW H} {p : List MemPlace} (hv : Value.okWide Try.prog W .any b0 22 v) (h : DataW.Trod enc Try.prog W base spare held 22 v d p) :
    ∃ xs : List En, SlE W v (xs.map En.e) ∧ AllAt W xs ∧ xs.length ≤ 9223372036854775807 := by
  obtain ⟨a0, n0, c0, rfl⟩ := okWide_slice Try.underlying22 hv
  obtain ⟨fuel, hf⟩ := h
  rcases open_slice Try.underlying22 hf with h0 | ⟨a, len, cap, m, n, D, Pl, hcs, _, hl, hm, hmm, _, hi⟩
  · have h0 := h0.1
    simp [Value.cells] at h0
    obtain ⟨rfl, rfl, rfl⟩ := h0
    exact ⟨[], SlG.nil _ _ _, fun x hx => by simp at hx, by simp⟩
  · simp [Value.cells] at hcs
    obtain ⟨rfl, rfl, rfl⟩ := hcs
    obtain ⟨xs, hal, hp⟩ := list_of' (n := n0) (P := fun i (x : En) => (∀ (f : Nat) u, x.e.list[f]? = some u → W.cell? (a.add (i * 19 + f)) = some u) ∧ x.at W) fun i hlt => by
      obtain ⟨cs', hc, ht'⟩ := hi i (by rw [hmm]; split <;> omega)
      rw [cellsE] at hc
      obtain ⟨x, rfl, hx⟩ := ent_in ht'
      obtain ⟨_, _, hat⟩ := World.cells?_some hc
      refine ⟨x, fun f u hu => ?_, hx⟩
      have hlt := (List.getElem?_eq_some_iff.1 hu).1
      have q := hat f (by rw [Ev.len] at hlt; exact hlt)
      rw [Go.Deep.add_add] at q
      rw [q]; exact hu
    have hfirst : 0 < xs.length → a.spot = none ∧ a.block < W.heap.size := fun h0 => by
      have hc : xs[0]? = some xs[0] := List.getElem?_eq_getElem h0
      have := (hp 0 _ hc).1 0 _ rfl
      exact ⟨by simpa [Addr.add] using World.cell?_spot this, by simpa [Addr.add] using World.block_lt_of_cell? W _ this⟩
    obtain ⟨b, o, spot⟩ := a
    refine ⟨xs, ⟨b, o, c0, some ⟨b, o, spot⟩, by rw [List.length_map, hal], fun h0 => ?_, fun j e hj f u hu => ?_, fun h0 => ?_⟩, fun x hx => ?_, ?_⟩
    · rw [show spot = none from (hfirst (by simpa using h0)).1]
    · rw [List.getElem?_map] at hj
      rcases hxj : xs[j]? with _ | x
      · rw [hxj] at hj; cases hj
      · rw [hxj] at hj
        cases hj
        have h0 : 0 < xs.length := by have := (List.getElem?_eq_some_iff.1 hxj).1; omega
        have := (hp j x hxj).1 f u hu
        rw [show spot = none from (hfirst h0).1, add_plain] at this
        rw [← Nat.add_assoc] at this
        exact this
    · exact (hfirst (by simpa using h0)).2
    · obtain ⟨j, hj⟩ := List.getElem?_of_mem hx
      exact (hp j x hj).2
    · rw [hal]; exact Nat.le_trans (Nat.le_trans hl hm) (by decide)
end Go.Proofs.Ytmggggijamligaa
namespace Go.Proofs.Ytmggggijamligaa
set_option linter.unusedVariables false
open Go.Joins Go.ChangeShapes Go.WideShapes Go.ChangeAt Go.RowKit Go.Deep
theorem open_names {H : Type} {enc : TypeId × Value → H} {W : World} {base : Nat} {spare : Nat → Bool} {held : Bool} {b0 : Nat} {v : Value} {d : DataW H} {p : List MemPlace} (hv : Value.okWide Try.prog W .any b0 23 v) (h : DataW.Trod enc Try.prog W base spare held 23 v d p) :
    ∃ l : List Int, SlS W v l ∧ l.length ≤ 9223372036854775807 := by
  obtain ⟨l, hl, hle⟩ := open_nums hv h
  refine ⟨l, ⟨hl, ?_⟩, hle⟩
  obtain ⟨a0, n0, c0, rfl⟩ := okWide_slice Try.underlying23 hv
  obtain ⟨_, _, _, _, e, _⟩ := hl
  injection e with e1 e2 e3
  obtain ⟨fuel, hf⟩ := h
  rcases open_ints Try.underlying23 Try.underlying3 (by kernel_rfl) hf with ⟨h0, _⟩ | ⟨a, len, cap, zs, hcs, _⟩
  · simp [Value.cells] at h0
    obtain ⟨rfl, rfl, rfl⟩ := h0
    exact .inl rfl
  · simp [Value.cells] at hcs
    obtain ⟨rfl, rfl, rfl⟩ := hcs
    exact .inr ⟨a, c0, by rw [e2]⟩
end Go.Proofs.Ytmggggijamligaa

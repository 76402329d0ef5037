/- The law EntryMore: any act, as the walk meets it. -/
import Derived.Test.YtmndjdaiailgmaaMoreStepA
namespace Go.Proofs.Ytmndjdaiailgmaa
set_option linter.unusedVariables false
open Go.RowKit
open Go.Lib (hid)

section
variable {w : World} {e : Ev} {f a v : List C7} {A : Ac}
theorem round_0 (hf : Sl w e.fp.v f) (ha : Sl w e.xp.v a) (hv : Sl w e.vp.v v) (lf : f.length ≤ 80) (la : a.length ≤ 80) (lv : v.length ≤ 80) (ok : rightE e f a v = true) (hk : A.k.tmod 6 = 0) : RoundS w e f a v A := by
  have hm : HasS w (promE e A.b).1 := by
    have h0 := has_e hf ha hv lf la lv
    unfold promE; split
    · exact h0
    · split
      · exact h0
      · exact ⟨h0.has⟩
  have hg : GoodS w e f a v (promE e A.b).1 f a v := by
    unfold promE
    rcases h1 : withinB A.b 1048576 with _ | _
    · exact good_same hf ha hv lf la lv ok
    · by_cases h2 : A.b < e.pr
      · rw [if_neg (by simp), if_pos h2]; exact good_same hf ha hv lf la lv ok
      · rw [if_neg (by simp), if_neg h2]; exact good_prom hf ha hv lf la lv ok h1 h2
  exact round_of hg hm fun s hs W hB => step_0 hk (fun X _ => cPromise e A.b X) (fun X _ => rPromise e A.b X) (fun X hX => hs X (bel_tr hB hX))
theorem round_1 (hf : Sl w e.fp.v f) (ha : Sl w e.xp.v a) (hv : Sl w e.vp.v v) (lf : f.length ≤ 80) (la : a.length ≤ 80) (lv : v.length ≤ 80) (ok : rightE e f a v = true) (hk : A.k.tmod 6 = 1) : RoundS w e f a v A := by
  have hm : HasS w (resE e A.t).1 := has_res (has_e hf ha hv lf la lv)
  have hg : GoodS w e f a v (resE e A.t).1 f a v := by
    rcases h1 : validB A.t with _ | _
    · rw [res_no h1]; exact good_same hf ha hv lf la lv ok
    · rw [res_eq h1]; exact good_res hf ha hv lf la lv ok h1
  exact round_of hg hm fun s hs W hB => step_1 hk (fun X _ => cReserve e A.t X (right_iff.1 ok).2.2.1) (fun X _ => rReserve e A.t X) (fun X hX => hs X (bel_tr hB hX))
theorem round_2 (hf : Sl w e.fp.v f) (ha : Sl w e.xp.v a) (hv : Sl w e.vp.v v) (lf : f.length ≤ 80) (la : a.length ≤ 80) (lv : v.length ≤ 80) (ok : rightE e f a v = true) (hA : Sl w A.p.v A.l) (ll : A.l.length ≤ 80) (hk : A.k.tmod 6 = 2) : RoundS w e f a v A := by
  have h0 := has_e hf ha hv lf la lv
  obtain ⟨b1, hb1⟩ : ∃ b, b = fullB A.t A.l := ⟨_, rfl⟩
  obtain ⟨b2, hb2⟩ : ∃ b, b = (decide (e.ft = A.t) && sameB f A.l) := ⟨_, rfl⟩
  obtain ⟨b3, hb3⟩ : ∃ b, b = noneB e.ft f := ⟨_, rfl⟩
  have hC := fun (W : World) (hB : Below w.heap.size w W) (X : World) (hX : Below W.heap.size W X) => cVote (e := e) (t := A.t) (p := A.p) (hf.on (bel_tr hB hX)) (hA.on (bel_tr hB hX)) (by omega) (by omega) (right_iff.1 ok).2.2.1
  have hR := fun (W : World) (hB : Below w.heap.size w W) (X : World) (hX : Below W.heap.size W X) => rVote (e := e) (t := A.t) (p := A.p) (hf.on (bel_tr hB hX)) (hA.on (bel_tr hB hX)) (by omega) (by omega)
  rw [← hb1, ← hb2, ← hb3] at hC hR
  have hm : HasS w (votE e A.t A.p b1 b2 b3).1 := by
    unfold votE; split
    · exact h0
    · split
      · exact h0
      · split
        · exact h0
        · obtain ⟨f', a', v', g1, g2, g3, g4, g5, g6⟩ := (has_res (t := A.t) h0).has
          exact ⟨A.l, a', v', hA, g2, g3, ll, g5, g6⟩
  have fs := good_same hf ha hv lf la lv ok
  cases b1 with
  | false => exact round_of (e1 := (votE e A.t A.p false b2 b3).1) fs hm fun s hs W hB => step_2 hk (hC W hB) (hR W hB) (fun X hX => hs X (bel_tr hB hX))
  | true =>
    cases b2 with
    | true => exact round_of (e1 := (votE e A.t A.p true true b3).1) fs hm fun s hs W hB => step_2 hk (hC W hB) (hR W hB) (fun X hX => hs X (bel_tr hB hX))
    | false =>
      cases b3 with
      | false => exact round_of (e1 := (votE e A.t A.p true false false).1) fs hm fun s hs W hB => step_2 hk (hC W hB) (hR W hB) (fun X hX => hs X (bel_tr hB hX))
      | true => exact round_of (e1 := (votE e A.t A.p true false true).1) (good_vote ha hv la lv ok hA ll hb1.symm hb3.symm) hm fun s hs W hB => step_2 hk (hC W hB) (hR W hB) (fun X hX => hs X (bel_tr hB hX))
theorem round_3 (hf : Sl w e.fp.v f) (ha : Sl w e.xp.v a) (hv : Sl w e.vp.v v) (lf : f.length ≤ 80) (la : a.length ≤ 80) (lv : v.length ≤ 80) (ok : rightE e f a v = true) (hA : Sl w A.p.v A.l) (ll : A.l.length ≤ 80) (hk : A.k.tmod 6 = 3) : RoundS w e f a v A := by
  have h0 := has_e hf ha hv lf la lv
  obtain ⟨b1, hb1⟩ : ∃ b, b = fullB A.t A.l := ⟨_, rfl⟩
  have hC := fun (W : World) (hB : Below w.heap.size w W) (X : World) (hX : Below W.heap.size W X) => cAccept (e := e) (b := A.b) (t := A.t) (p := A.p) (hA.on (bel_tr hB hX)) (by omega) (right_iff.1 ok).2.2.1
  have hR := fun (W : World) (hB : Below w.heap.size w W) (X : World) (hX : Below W.heap.size W X) => rAccept (e := e) (b := A.b) (t := A.t) (p := A.p) (hA.on (bel_tr hB hX)) (by omega)
  rw [← hb1] at hC hR
  have hm : HasS w (accR e A.b A.t A.p b1).1 := by
    unfold accR; split
    · exact h0
    · split
      · exact h0
      · obtain ⟨f', a', v', g1, g2, g3, g4, g5, g6⟩ := (has_res (t := A.t) h0).has
        exact ⟨f', A.l, v', g1, hA, g3, g4, ll, g6⟩
  have fs := good_same hf ha hv lf la lv ok
  by_cases hc : b1 = false ∨ withinB A.b 1048576 = false ∨ A.b = 0
  · have : (accE e A.b A.t A.p b1).1 = e := by unfold accE; rw [if_pos hc]
    exact round_of (e1 := (accE e A.b A.t A.p b1).1) (by rw [this]; exact fs) hm fun s hs W hB => step_3 hk (hC W hB) (hR W hB) (fun X hX => hs X (bel_tr hB hX))
  · by_cases hd : A.b < e.pr
    · have : (accE e A.b A.t A.p b1).1 = e := by unfold accE; rw [if_neg hc, if_pos hd]
      exact round_of (e1 := (accE e A.b A.t A.p b1).1) (by rw [this]; exact fs) hm fun s hs W hB => step_3 hk (hC W hB) (hR W hB) (fun X hX => hs X (bel_tr hB hX))
    · have : (accE e A.b A.t A.p b1).1 = { (resE e A.t).1 with pr := A.b, ab := A.b, xt := A.t, xp := A.p } := by unfold accE; rw [if_neg hc, if_neg hd]
      have h1 : b1 = true := by cases b1; exact absurd (.inl rfl) hc; rfl
      have h2 : withinB A.b 1048576 = true := by
        rcases h : withinB A.b 1048576 with _ | _
        · exact absurd (.inr (.inl h)) hc
        · rfl
      have h3 : A.b ≠ 0 := fun h => hc (.inr (.inr h))
      exact round_of (e1 := (accE e A.b A.t A.p b1).1) (by rw [this]; exact good_acc hf hv lf lv ok hA ll (by rw [← hb1, h1]) h2 h3 hd) hm fun s hs W hB => step_3 hk (hC W hB) (hR W hB) (fun X hX => hs X (bel_tr hB hX))
theorem round_4 (hf : Sl w e.fp.v f) (ha : Sl w e.xp.v a) (hv : Sl w e.vp.v v) (lf : f.length ≤ 80) (la : a.length ≤ 80) (lv : v.length ≤ 80) (ok : rightE e f a v = true) (hk : A.k.tmod 6 = 4) : RoundS w e f a v A :=
  round_of (good_free hf ha hv lf la lv ok) (m1 := { e with fr := true }) ⟨(has_e hf ha hv lf la lv).has⟩ fun s hs W hB => step_4 hk (fun X _ => cFree e X) (fun X hX => hs X (bel_tr hB hX))
theorem round_5 (hf : Sl w e.fp.v f) (ha : Sl w e.xp.v a) (hv : Sl w e.vp.v v) (lf : f.length ≤ 80) (la : a.length ≤ 80) (lv : v.length ≤ 80) (ok : rightE e f a v = true) (hA : Sl w A.p.v A.l) (ll : A.l.length ≤ 80) (hk : A.k.tmod 6 = 5) : RoundS w e f a v A := by
  have h0 := has_e hf ha hv lf la lv
  obtain ⟨b1, hb1⟩ : ∃ b, b = fullB A.t A.l := ⟨_, rfl⟩
  obtain ⟨b2, hb2⟩ : ∃ b, b = (decide (e.vt = A.t) && sameB v A.l) := ⟨_, rfl⟩
  have hC := fun (W : World) (hB : Below w.heap.size w W) (X : World) (hX : Below W.heap.size W X) => cFinish (e := e) (t := A.t) (p := A.p) (hv.on (bel_tr hB hX)) (hA.on (bel_tr hB hX)) (by omega) (by omega)
  have hR := fun (W : World) (hB : Below w.heap.size w W) (X : World) (hX : Below W.heap.size W X) => rFinish (e := e) (t := A.t) (p := A.p) (hv.on (bel_tr hB hX)) (hA.on (bel_tr hB hX)) (by omega) (by omega)
  rw [← hb1, ← hb2] at hC hR
  have hm : HasS w (finE e A.t A.p b1 b2).1 := by
    unfold finE; split
    · exact h0
    · split
      · exact h0
      · exact ⟨f, a, A.l, hf, ha, hA, lf, la, ll⟩
  have fs := good_same hf ha hv lf la lv ok
  have hg : ∃ v1, GoodS w e f a v (finC e A.t A.p b1 b2).1 f a v1 := by
    unfold finC
    split
    · exact ⟨v, fs⟩
    · rename_i h1
      split
      · split
        · exact ⟨v, fs⟩
        · exact ⟨v, fs⟩
      · rename_i h2
        exact ⟨A.l, good_fin hf ha lf la ok hA ll (by rw [← hb1]; simpa using h1) (by simpa using h2)⟩
  obtain ⟨v1, hg⟩ := hg
  exact round_of hg hm fun s hs W hB => step_5 hk (hC W hB) (hR W hB) (fun X hX => hs X (bel_tr hB hX))
theorem moreStep (hf : Sl w e.fp.v f) (ha : Sl w e.xp.v a) (hv : Sl w e.vp.v v) (lf : f.length ≤ 80) (la : a.length ≤ 80) (lv : v.length ≤ 80) (ok : rightE e f a v = true) (hA : Sl w A.p.v A.l) (hp : A.p.n ≤ 80) (h0 : 0 ≤ A.k) (h1 : A.k < 256) : RoundS w e f a v A := by
  have ll : A.l.length ≤ 80 := by rw [← hA.len]; exact hp
  have hq : A.k.tmod 6 = A.k % 6 := Int.tmod_eq_emod_of_nonneg h0
  have : A.k % 6 = 0 ∨ A.k % 6 = 1 ∨ A.k % 6 = 2 ∨ A.k % 6 = 3 ∨ A.k % 6 = 4 ∨ A.k % 6 = 5 := by omega
  rcases this with h | h | h | h | h | h
  · exact round_0 hf ha hv lf la lv ok (hq.trans h)
  · exact round_1 hf ha hv lf la lv ok (hq.trans h)
  · exact round_2 hf ha hv lf la lv ok hA ll (hq.trans h)
  · exact round_3 hf ha hv lf la lv ok hA ll (hq.trans h)
  · exact round_4 hf ha hv lf la lv ok (hq.trans h)
  · exact round_5 hf ha hv lf la lv ok hA ll (hq.trans h)
end
end Go.Proofs.Ytmndjdaiailgmaa

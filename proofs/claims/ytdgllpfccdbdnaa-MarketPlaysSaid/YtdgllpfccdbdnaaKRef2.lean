/- The document's book: bad, Cancel. -/
import Derived.Test.YtdgllpfccdbdnaaKRef
namespace Go.Proofs.Ytdgllpfccdbdnaa
set_option linter.unusedVariables false
set_option linter.unusedSimpArgs false
open Go.RowKit
open Go.Lib (hid)

/-- A block of another type is none of a row's. -/
theorem own_offT {w : World} {B n size N : Nat} {e T : TypeId} {v : Value} {xs : List Value} {cs : Array Value} (h : w.ownsRow B e size v n xs) (hN : w.heap[N]? = some (.cells cs T (0, 0))) (hT : T ≠ e) : v.ownBlock ≠ some N := by
  rcases h.2 with ⟨rfl, _⟩ | ⟨g, cap, cur, rfl, _, hg, _⟩
  · simp [Value.ownBlock]
  · intro e2
    simp [Value.ownBlock] at e2
    subst e2
    rw [hg] at hN
    injection hN with h3
    injection h3 with h4 h5
    exact hT h5.symm
/-- What an act leaves of a book of the document's. -/
def RTo (w w' : World) (b : Nat) (L' : List Od) : Prop := ∃ v', RB w' b v' ∧ OwnR w' 0 v' L' ∧ Tch (fun k => k = b) w w'
theorem RTo.same {w w' : World} {b B : Nat} {v : Value} {L : List Od} (hb : RB w b v) (h : OwnR w B v L) (hB : Below w.heap.size w w') : RTo w w' b L := ⟨v, hb.on hB, (h.on hB).mono (Nat.zero_le _), Tch.ofBelow hB⟩
theorem RTo.fin {w w2 : World} {b C N : Nat} {v r : Value} {L' : List Od} (hB : Below w.heap.size w w2) (hb : RB w b v) (hr : OwnR w2 C r L') (hN : w.heap.size ≤ N) (hC : N < C) (x y z : Value) :
    RTo w ((((w2.setCell ⟨b, 0, none⟩ r).setCell ⟨N, 0, none⟩ x).setCell ⟨N, 1, none⟩ y).setCell ⟨N, 2, none⟩ z) b L' := by
  have hlt := hb.cells.1
  have hb2 := hb.on hB
  have hne := own_offT hr hb2 (by decide)
  have t1 : Tch (fun k => k = b) w2 (w2.setCell ⟨b, 0, none⟩ r) := Tch.set _ _ _ rfl
  have h1 : RB (w2.setCell ⟨b, 0, none⟩ r) b r := by
    unfold RB at hb2 ⊢
    simp [World.setCell, Array.getElem?_modify, hb2]
  have t2 : Tch (fun k => k = N) (w2.setCell ⟨b, 0, none⟩ r) ((((w2.setCell ⟨b, 0, none⟩ r).setCell ⟨N, 0, none⟩ x).setCell ⟨N, 1, none⟩ y).setCell ⟨N, 2, none⟩ z) :=
    ((Tch.set (S := fun k => k = N) _ _ _ rfl).trans (Tch.set (S := fun k => k = N) _ _ _ rfl)).trans (Tch.set (S := fun k => k = N) _ _ _ rfl)
  refine ⟨r, t2.ob h1 (by omega), ?_, ((Tch.ofBelow hB).trans t1).next t2 fun k hk => .inr (by omega)⟩
  refine OwnG.mono (OwnG.tch (OwnG.tch hr t1 fun k hk e => hne (by rw [hk, e])) t2 fun k hk e => ?_) (Nat.zero_le _)
  have := (hr.lt k hk).1; omega
theorem idx_cases (L : List Od) (id : Int) : (L.any (isI id) = true ∧ idxO (isI id) L = (L.findIdx (isI id) : Nat) ∧ ∃ o, L[L.findIdx (isI id)]? = some o) ∨ (L.any (isI id) = false ∧ idxO (isI id) L = -1) := by
  rcases ha : L.any (isI id) with _ | _
  · exact .inr ⟨rfl, idxO_none ha⟩
  · obtain ⟨o, ho, _⟩ := find_at ha
    exact .inl ⟨rfl, (idxO_any ha).1, o, ho⟩
theorem below3 {B N : Nat} {w W : World} (h : Below B w W) (hN : B ≤ N) (x y z : Value) : Below B w (((W.setCell ⟨N, 0, none⟩ x).setCell ⟨N, 1, none⟩ y).setCell ⟨N, 2, none⟩ z) := ((h.setCell hN _).setCell hN _).setCell hN _
def badF (L : List Od) (o : Od) : Int := if o.n = 0 then 7 else if mayB o = false then 1 else if L.any (isI o.i) then 6 else 0

set_option maxHeartbeats 6400000 in
set_option maxRecDepth 100000 in
theorem rBad {w : World} {b B : Nat} {v : Value} {L : List Od} (hb : RB w b v) (h : OwnR w B v L) (hl : L.length ≤ 1000) (o : Od) : Calls Try.prog 38 #[ptr b, o.v] w fun e w' => e = .returned (.int .i64 (badF L o)) ∧ Below w.heap.size w w' := by
  have hB : Below w.heap.size w (w.alloc (.cells #[.int .i64 o.i, .int .i64 o.s, .int .i64 o.p, .int .i64 o.n] 71)) := (Below.refl _ w).alloc (Nat.le_refl _) _
  have HF := hid (rFind (hb.on hB) (h.on hB) hl o.i)
  have HB := hid hB
  clear hB
  obtain ⟨i, s, p, n⟩ := o
  simp only at HF
  by_cases hz : n = 0
  · subst hz
    have HE : Hid (badF L ⟨i, s, p, 0⟩ = 7) := hid rfl
    clear h hb
    go_enter Try.func38, Try.ntmps38
    go_wp2_with fail
    go_ret
    exact ⟨ret_int HE.out.symm, HB.out⟩
  by_cases hs0 : s < 0
  · have HE : Hid (badF L ⟨i, s, p, n⟩ = 1) := hid (by
      have hm : mayB ⟨i, s, p, n⟩ = false := by
        rcases hq : mayB ⟨i, s, p, n⟩ with _ | _
        · rfl
        · have := may_iff.1 hq; simp only at this; omega
      unfold badF; rw [if_neg hz, if_pos hm])
    clear h hb
    go_enter Try.func38, Try.ntmps38
    go_wp2_with fail
    go_ret
    exact ⟨ret_int HE.out.symm, HB.out⟩
  by_cases hs1 : 1 < s
  · have HE : Hid (badF L ⟨i, s, p, n⟩ = 1) := hid (by
      have hm : mayB ⟨i, s, p, n⟩ = false := by
        rcases hq : mayB ⟨i, s, p, n⟩ with _ | _
        · rfl
        · have := may_iff.1 hq; simp only at this; omega
      unfold badF; rw [if_neg hz, if_pos hm])
    clear h hb
    go_enter Try.func38, Try.ntmps38
    go_wp2_with fail
    go_ret
    exact ⟨ret_int HE.out.symm, HB.out⟩
  by_cases hi1 : i < 1
  · have HE : Hid (badF L ⟨i, s, p, n⟩ = 1) := hid (by
      have hm : mayB ⟨i, s, p, n⟩ = false := by
        rcases hq : mayB ⟨i, s, p, n⟩ with _ | _
        · rfl
        · have := may_iff.1 hq; simp only at this; omega
      unfold badF; rw [if_neg hz, if_pos hm])
    clear h hb
    go_enter Try.func38, Try.ntmps38
    go_wp2_with fail
    go_ret
    exact ⟨ret_int HE.out.symm, HB.out⟩
  by_cases hp1 : p < 1
  · have HE : Hid (badF L ⟨i, s, p, n⟩ = 1) := hid (by
      have hm : mayB ⟨i, s, p, n⟩ = false := by
        rcases hq : mayB ⟨i, s, p, n⟩ with _ | _
        · rfl
        · have := may_iff.1 hq; simp only at this; omega
      unfold badF; rw [if_neg hz, if_pos hm])
    clear h hb
    go_enter Try.func38, Try.ntmps38
    go_wp2_with fail
    go_ret
    exact ⟨ret_int HE.out.symm, HB.out⟩
  by_cases hp2 : 1048576 < p
  · have HE : Hid (badF L ⟨i, s, p, n⟩ = 1) := hid (by
      have hm : mayB ⟨i, s, p, n⟩ = false := by
        rcases hq : mayB ⟨i, s, p, n⟩ with _ | _
        · rfl
        · have := may_iff.1 hq; simp only at this; omega
      unfold badF; rw [if_neg hz, if_pos hm])
    clear h hb
    go_enter Try.func38, Try.ntmps38
    go_wp2_with fail
    go_ret
    exact ⟨ret_int HE.out.symm, HB.out⟩
  by_cases hn1 : n < 0
  · have HE : Hid (badF L ⟨i, s, p, n⟩ = 1) := hid (by
      have hm : mayB ⟨i, s, p, n⟩ = false := by
        rcases hq : mayB ⟨i, s, p, n⟩ with _ | _
        · rfl
        · have := may_iff.1 hq; simp only at this; omega
      unfold badF; rw [if_neg hz, if_pos hm])
    clear h hb
    go_enter Try.func38, Try.ntmps38
    go_wp2_with fail
    go_ret
    exact ⟨ret_int HE.out.symm, HB.out⟩
  by_cases hn2 : 1048576 < n
  · have HE : Hid (badF L ⟨i, s, p, n⟩ = 1) := hid (by
      have hm : mayB ⟨i, s, p, n⟩ = false := by
        rcases hq : mayB ⟨i, s, p, n⟩ with _ | _
        · rfl
        · have := may_iff.1 hq; simp only at this; omega
      unfold badF; rw [if_neg hz, if_pos hm])
    clear h hb
    go_enter Try.func38, Try.ntmps38
    go_wp2_with fail
    go_ret
    exact ⟨ret_int HE.out.symm, HB.out⟩
  have hm : mayB ⟨i, s, p, n⟩ = true := may_iff.2 (by simp only; omega)
  rcases idx_cases L i with ⟨ha, hi, _⟩ | ⟨ha, hi⟩
  · rw [hi] at HF
    have HE : Hid (badF L ⟨i, s, p, n⟩ = 6) := hid (by unfold badF; rw [if_neg hz, if_neg (by rw [hm]; decide), ha]; rfl)
    have hpos : (0 : Int) ≤ ((L.findIdx (isI i) : Nat) : Int) := by omega
    clear h hb ha hi hm
    generalize L.findIdx (isI i) = z at HF hpos
    go_enter Try.func38, Try.ntmps38
    go_wp2_with fail
    go_at_call 42
    refine HF.out.mono ?_
    rintro e w1 ⟨rfl, rfl⟩
    go_wp2_with fail
    go_ret
    exact ⟨ret_int HE.out.symm, HB.out⟩
  · rw [hi] at HF
    have HE : Hid (badF L ⟨i, s, p, n⟩ = 0) := hid (by unfold badF; rw [if_neg hz, if_neg (by rw [hm]; decide), ha]; rfl)
    clear h hb ha hi hm
    go_enter Try.func38, Try.ntmps38
    go_wp2_with fail
    go_at_call 42
    refine HF.out.mono ?_
    rintro e w1 ⟨rfl, rfl⟩
    go_wp2_with fail
    go_ret
    exact ⟨ret_int HE.out.symm, HB.out⟩

end Go.Proofs.Ytdgllpfccdbdnaa


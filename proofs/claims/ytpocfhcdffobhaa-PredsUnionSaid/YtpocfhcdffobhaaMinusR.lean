/- The document's Minus: what is left of a list without the names of another one. -/
import Derived.Test.YtpocfhcdffobhaaFinds
import Derived.Deep.Light
namespace Go.Proofs.Ytpocfhcdffobhaa
open Go.RowKit
open Go.Lib (hid)

theorem Own.more {w : World} {B : Nat} {v : Value} {cs : List C7} {c : C7} (h : w.ownsRow B 34 7 v (cs.length + 1) (flat cs ++ c.cells)) : Own w B v (cs ++ [c]) := by
  unfold Own; rw [flat_append, flat_single, List.length_append]; exact h
theorem Own.grows {w W0 w1 : World} {B : Nat} {v v' : Value} {cs : List C7} {c : C7} (hB : Below B w W0) (hsz : B ≤ W0.heap.size) (hlt : ∀ k, v.ownBlock = some k → B ≤ k)
    (hown' : w1.ownsRow B 34 7 v' (cs.length + 1) (flat cs ++ c.cells)) (hg : W0.grownBy w1 v.ownBlock) : Own w1 B v' (cs ++ [c]) ∧ Below B w w1 :=
  ⟨Own.more hown', hB.grown hg hsz hlt⟩

theorem new_cell {W : World} {c : C7} {g : Nat} (hg : g = W.heap.size) : ∀ (j : Nat) u, c.cells[j]? = some u → (W.alloc (.cells #[.int .i64 c.i, .int .i64 c.k, .int .i64 c.s, .int .i64 c.t, .int .i64 c.d, .int .i64 c.p, .int .i64 c.q] 34)).cell? ((⟨g, 0, none⟩ : Addr).add j) = some u := by
  intro j u hj
  subst hg
  rw [show (⟨W.heap.size, 0, none⟩ : Addr).add j = ⟨W.heap.size, j, none⟩ from by unfold Addr.add; split <;> simp_all, World.cell?_alloc_new, List.getElem?_toArray]
  exact hj
theorem cells_one (c : C7) : ∀ u ∈ c.cells, u.oneCell' = true := by
  intro u hu; simp at hu; rcases hu with rfl | rfl | rfl | rfl | rfl | rfl | rfl <;> rfl

set_option maxHeartbeats 600000 in
set_option maxRecDepth 100000 in
theorem rMinus {v v2 : Value} {cs ds : List C7} {w : World} (h : Sl w v cs) (h2 : Sl w v2 ds) (hl : cs.length ≤ 100000) (hl2 : ds.length ≤ 100000) : Calls Try.prog 14 #[v, v2] w fun e w' => ∃ r, e = .returned r ∧ Own w' w.heap.size r (minusL cs ds) ∧ Below w.heap.size w w' := by
  obtain ⟨b, o, cap, a, rfl, hn, ha, hc, hb⟩ := h
  obtain ⟨i0, hi, hz0, hz1, hz2⟩ := info_parts Try.infoC
  have H2 := hid h2
  clear h2
  go_enter Try.func14, Try.ntmps14
  go_wp2
  go_loopw [5, 6] (fun u i wr => ∃ k : Nat, k ≤ cs.length ∧ i = .int .i64 k ∧ Own wr w.heap.size u (minusL (cs.take k) ds) ∧ Below w.heap.size w wr) (fun _ i _ => cs.length - (intOf i).toNat)
  case atStart => exact ⟨0, Nat.zero_le _, rfl, Own.nil _ _, Below.refl _ _⟩
  case round =>
    obtain ⟨k, hk, rfl, hown, hB⟩ := hrel
    have hsz := hB.size
    by_cases hlt : k < cs.length
    · obtain rfl := ha (by omega)
      obtain ⟨c, hcc⟩ : ∃ c, cs[k]? = some c := ⟨cs[k], List.getElem?_eq_getElem hlt⟩
      have hbw := hb (by omega)
      obtain ⟨c0, c1, c2, c3, c4, c5, c6⟩ := (hc.on hB hbw).at hcc
      have hF := rFind (H2.out.on hB) hl2 c.i
      have hml : (minusL (cs.take k) ds).length ≤ k := Nat.le_trans (minus_len _ _) (by simp; omega)
      have HC := hid hcc
      have HB := hid hB
      clear hcc hB
      rcases hp : placeI ds c.i with _ | j
      · rw [placeV_none hp] at hF
        have HP := hid hp
        have HO := hid hown
        clear hp
        go_wp2_with (first | (go_at_call 12; refine hF.mono ?_; rintro e w' ⟨rfl, rfl⟩) | (at_builtin; refine wpList_append_own _ rfl _ _ 22 rfl w.heap.size 34 i0 _ 7 56 Try.underlying22 hi hz0 hz1 hz2 rfl (by decide) _ _ _ rfl (hown.alloc _) ⟨wr.heap.size, 0, none⟩ 1 1 c.cells rfl rfl ?c1 ?c2 ?c3 ?c4 ?c5 ?_))
        case c1 => exact new_cell rfl
        case c2 => exact cells_one c
        case c3 => unfold maxLen; omega
        case c4 => omega
        case c5 => simp; omega
        intro v' w1 hown' hgrow _
        have R := Own.grows (HB.out.alloc hsz _) (by simp; omega) (fun k hk => (HO.out.lt k hk).1) hown' hgrow
        rw [← minus_keep (HC.out) HP.out] at R
        clear hown' hgrow hown
        go_wp2
        go_roundw
        case rel => exact ⟨k + 1, by omega, by go_num, R.1, R.2⟩
        case measure => simp [intOf]; omega
      · rw [placeV_some hp] at hF
        rw [← minus_drop HC.out hp] at hown
        have HR := hid hown
        clear hp hown
        go_wp2_with (go_at_call 12; refine hF.mono ?_; rintro e w' ⟨rfl, rfl⟩)
        go_roundw
        case rel => exact ⟨k + 1, by omega, by go_num, HR.out, HB.out⟩
        case measure => simp [intOf]; omega
    · rw [List.take_of_length_le (by omega)] at hown
      have HR := hid hown
      clear hown
      go_wp2
      go_ret
      exact ⟨_, rfl, HR.out, hB⟩
end Go.Proofs.Ytpocfhcdffobhaa

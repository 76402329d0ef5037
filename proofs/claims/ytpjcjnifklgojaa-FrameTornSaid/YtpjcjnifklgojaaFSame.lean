/- Whether two lists of bytes are one: the document's Same. -/
import Derived.Test.YtpjcjnifklgojaaFRScan
namespace Go.Proofs.Ytpjcjnifklgojaa
set_option linter.unusedVariables false
open Go.RowKit
open Go.Lib (hid)

theorem take_more {α : Type} {a b : List α} {k : Nat} {x : α} (h : a.take k = b.take k) (ha : a[k]? = some x) (hb : b[k]? = some x) : a.take (k + 1) = b.take (k + 1) := by rw [takeN_snoc ha, takeN_snoc hb, h]
theorem lists_no {a b : List (List UInt8)} {k : Nat} {x y : List UInt8} (ha : a[k]? = some x) (hb : b[k]? = some y) (h : x ≠ y) : (a == b) = false := by
  rw [beq_eq_false_iff_ne]
  intro hh; subst hh
  rw [ha] at hb; exact h (Option.some.inj hb)
theorem lists_short {a b : List (List UInt8)} (h : a.length ≠ b.length) : (a == b) = false := by
  rw [beq_eq_false_iff_ne]; intro hh; subst hh; exact h rfl
theorem lists_yes {a b : List (List UInt8)} {k : Nat} (h : a.take k = b.take k) (h1 : a.length ≤ k) (h2 : b.length ≤ k) : (a == b) = true := by
  rw [List.take_of_length_le h1, List.take_of_length_le h2] at h
  rw [h]; exact beq_self_eq_true _

set_option maxHeartbeats 1600000 in
set_option maxRecDepth 100000 in
theorem rSame {va vb : Value} {xs ys : List (List UInt8)} {w : World} (ha : SlL w va xs) (hb : SlL w vb ys) (hl : xs.length ≤ 1000000) (hl2 : ys.length ≤ 1000000) : Calls Try.prog 11 #[va, vb] w fun e w' => e = .returned (.bool (xs == ys)) ∧ Below w.heap.size w w' := by
  obtain ⟨b1, o1, cap1, a1, ps, hps, rfl, hcap1, ha1, hr1, hl1⟩ := ha
  obtain ⟨b2, o2, cap2, a2, qs, hqs, rfl, hcap2, ha2, hr2, hl22⟩ := hb
  have hpl : ps.length = xs.length := by rw [← hps, List.length_map]
  have hql : qs.length = ys.length := by rw [← hqs, List.length_map]
  have HP := hid hps
  have HQ := hid hqs
  have HR1 := hid hr1
  have HR2 := hid hr2
  clear hps hqs hr1 hr2
  by_cases hll : xs.length = ys.length
  · have hll2 : (xs.length : Int) = (ys.length : Int) := by omega
    obtain ⟨n, hn⟩ : ∃ n, n = xs.length := ⟨_, rfl⟩
    rw [← hll, ← hn] at ha2 hl22 hcap2 hl2 ⊢
    rw [← hn] at ha1 hl1 hcap1 hl
    have HN := hid hn
    have HLL := hid hll
    clear hll hll2 hn
    go_enter Try.func11, Try.ntmps11
    go_wp2
    go_loopw [5] (fun i wr => ∃ k : Nat, k ≤ n ∧ i = .int .i64 k ∧ Hid (xs.take k = ys.take k) ∧ Below w.heap.size w wr) (fun i _ => n - (intOf i).toNat)
    case atStart => exact ⟨0, Nat.zero_le _, rfl, hid rfl, Below.refl _ _⟩
    case round =>
      obtain ⟨k, hk, rfl, hat, hB⟩ := hrel
      have HB := hid hB
      by_cases hlt : k < n
      · have hlt2 : (k : Int) < (n : Int) := by omega
        obtain rfl := ha1 (by omega)
        obtain rfl := ha2 (by omega)
        obtain ⟨p, hp⟩ : ∃ p, ps[k]? = some p := ⟨ps[k]'(by have := HN.out; omega), List.getElem?_eq_getElem (by have := HN.out; omega)⟩
        obtain ⟨q, hq⟩ : ∃ q, qs[k]? = some q := ⟨qs[k]'(by have := HN.out; have := HLL.out; omega), List.getElem?_eq_getElem (by have := HN.out; have := HLL.out; omega)⟩
        obtain ⟨⟨pa, pn, pc⟩, x⟩ := p
        obtain ⟨⟨qa, qn, qc⟩, y⟩ := q
        have hax : xs[k]? = some x := by rw [← HP.out, List.getElem?_map, hp]; rfl
        have hby : ys[k]? = some y := by rw [← HQ.out, List.getElem?_map, hq]; rfl
        have h1 := HR1.out k _ hp
        have h2 := HR2.out k _ hq
        have hbw1 := hl1 (by omega)
        have hbw2 := hl22 (by omega)
        have hbs1 : b1 < wr.heap.size := by have := hB.size; omega
        have hbs2 : b2 < wr.heap.size := by have := hB.size; omega
        have c0 : wr.cell? ⟨b1, o1 + k, none⟩ = some (.slice pa pn pc) := (hB.cell (p := ⟨b1, o1 + k, none⟩) hbw1).trans h1.1
        have c1 : wr.cell? ⟨b2, o2 + k, none⟩ = some (.slice qa qn qc) := (hB.cell (p := ⟨b2, o2 + k, none⟩) hbw2).trans h2.1
        have hv1 : ∀ m, (convert 22 9 (.slice pa pn pc)).run Try.prog (wr.drewN m) = .ok (strB x) (wr.drewN m) := fun m => convB (SlB.drewN m (h1.2.on HB.out))
        have hv2 : ∀ m, (convert 22 9 (.slice qa qn qc)).run Try.prog (wr.drewN m) = .ok (strB y) (wr.drewN m) := fun m => convB (SlB.drewN m (h2.2.on HB.out))
        have HAX := hid hax
        have HBY := hid hby
        clear h1 h2 hax hby hp hq hB
        rcases Decidable.em (x = y) with hxy | hxy
        · subst hxy
          have HT := hid (take_more hat.out HAX.out HBY.out)
          go_wp2
          go_quiet (fail)
          go_wp2
          go_roundw
          case rel => exact ⟨k + 1, by omega, by go_num, HT, belowDrewN _ HB.out⟩
          case measure => simp [RowKit.intOf]; omega
        · have hne : (x == y) = false := beq_eq_false_iff_ne.2 hxy
          have HT := hid (lists_no HAX.out HBY.out hxy)
          go_wp2
          go_quiet (fail)
          go_wp2
          go_ret
          exact ⟨ret_bool HT.out.symm, belowDrewN _ HB.out⟩
      · have hlt2 : ¬ (k : Int) < (n : Int) := by omega
        have HT := hid (lists_yes hat.out (by have := HN.out; omega) (by have := HN.out; have := HLL.out; omega))
        clear hB
        go_wp2
        go_ret
        exact ⟨ret_bool HT.out.symm, HB.out⟩
  · have HT := hid (lists_short hll)
    have hll2 : ¬ (xs.length : Int) = (ys.length : Int) := by omega
    clear hll
    go_enter Try.func11, Try.ntmps11
    go_wp2
    go_ret
    exact ⟨ret_bool HT.out.symm, Below.refl _ _⟩
end Go.Proofs.Ytpjcjnifklgojaa

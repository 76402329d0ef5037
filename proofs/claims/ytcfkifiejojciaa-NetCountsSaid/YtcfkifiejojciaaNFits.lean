/- Acts in memory; how many are gone through: Fits. -/
import Derived.Test.YtcfkifiejojciaaNAll
import Derived.Deep.LoopGhost
namespace Go.Proofs.Ytcfkifiejojciaa
set_option linter.unusedVariables false
open Go.RowKit
open Go.Lib (hid)

/-- An act: its kind, its frames' slice, its frames, its number. -/
structure Av where
  k : Nat
  s : Sv
  qs : Ps
  i : Int
abbrev Av.arr (x : Av) : Array Value := #[.int .u8 x.k, x.s.v, .int .i64 x.i]
/-- Acts behind an address, three cells each. -/
def RowsA (w : World) (B b o : Nat) (xs : List Av) : Prop := ∀ j x, xs[j]? = some x → w.cell? ⟨b, o + j * 3, none⟩ = some (.int .u8 x.k) ∧ w.cell? ⟨b, o + j * 3 + 1, none⟩ = some x.s.v ∧ w.cell? ⟨b, o + j * 3 + 2, none⟩ = some (.int .i64 x.i) ∧ Sr w B x.s.v x.qs ∧ x.k < 256 ∧ -9223372036854775808 ≤ x.i ∧ x.i ≤ 9223372036854775807
def SlA (w : World) (B : Nat) (v : Value) (xs : List Av) : Prop :=
  ∃ (b o cap : Nat) (a : Option Addr), v = .slice a xs.length cap ∧ xs.length ≤ cap ∧ (0 < xs.length → a = some ⟨b, o, none⟩) ∧ RowsA w B b o xs ∧ (0 < xs.length → b < w.heap.size)
/-- How much the frames are. -/
def szQ (qs : Ps) : Nat := (qs.map fun q => 1 + q.2.length).sum
theorem szQ_next {qs : Ps} {j : Nat} {q : Sv × List UInt8} (h : qs[j]? = some q) : szQ (qs.take (j + 1)) = szQ (qs.take j) + (1 + q.2.length) := by
  unfold szQ; rw [List.take_add_one, h]; simp
theorem szQ_ge (qs : Ps) : qs.length ≤ szQ qs := by
  induction qs with
  | nil => simp [szQ]
  | cons q r ih => unfold szQ at *; simp only [List.map_cons, List.sum_cons, List.length_cons]; omega
theorem szQ_mem {qs : Ps} {q : Sv × List UInt8} (h : q ∈ qs) : q.2.length ≤ szQ qs := by
  induction qs with
  | nil => simp at h
  | cons a r ih =>
    unfold szQ at *
    simp only [List.map_cons, List.sum_cons]
    rcases List.mem_cons.1 h with h | h
    · subst h; omega
    · have := ih h; omega
def szA (xs : List Av) : Nat := (xs.map fun x => szQ x.qs).sum
theorem szA_next {xs : List Av} {j : Nat} {x : Av} (h : xs[j]? = some x) : szA (xs.take (j + 1)) = szA (xs.take j) + szQ x.qs := by
  unfold szA; rw [List.take_add_one, h]; simp
theorem szA_le (xs : List Av) (j : Nat) : szA (xs.take j) ≤ szA xs := by
  have h : xs = xs.take j ++ xs.drop j := (List.take_append_drop j xs).symm
  have : szA (xs.take j ++ xs.drop j) = szA (xs.take j) + szA (xs.drop j) := by unfold szA; rw [List.map_append, List.sum_append]
  rw [← h] at this
  omega

def FitsPost (xs : List Av) (w : World) (e : Ending) (w' : World) : Prop := ∃ r, e = .returned (.bool r) ∧ (r = true → xs.length ≤ 80 ∧ szA xs ≤ 3000) ∧ w = w'
theorem fits_no {xs : List Av} {w : World} : FitsPost xs w (.returned (.bool false)) w := ⟨false, rfl, (fun h => by cases h), rfl⟩
set_option maxHeartbeats 1600000 in
set_option maxRecDepth 100000 in
theorem cFits {w : World} {B : Nat} {v : Value} {xs : List Av} (h : SlA w B v xs) : Calls Try.prog 5 #[v] w (FitsPost xs w) := by
  obtain ⟨b, o, cap, a, rfl, hcap, ha, hr, hlt⟩ := h
  obtain ⟨n, hn⟩ : ∃ n, n = xs.length := ⟨_, rfl⟩
  rw [← hn] at hcap ha hlt ⊢
  have HN := hid hn
  have HR := hid hr
  have HA := hid (And.intro ha hlt)
  have HCAP := hid hcap
  clear hr hn ha hlt hcap
  go_enter Try.func5, Try.ntmps5
  go_wp2
  go_loopg [3, 4] n (fun g s i wr => ∃ j : Nat, j ≤ n ∧ g = n - j ∧ i = .int .i64 j ∧ s = .int .i64 (szA (xs.take j)) ∧ szA (xs.take j) ≤ 3000 ∧ j ≤ 81 ∧ wr = w)
  case atStart => exact ⟨0, Nat.zero_le _, rfl, rfl, rfl, by simp [szA], by omega, rfl⟩
  case round =>
    obtain ⟨j, hj, rfl, rfl, rfl, hle, hj81, rfl⟩ := hrel
    obtain ⟨L, hL⟩ : ∃ L, L = szA (xs.take j) := ⟨_, rfl⟩
    have HL := hid hL
    rw [← hL] at hle ⊢
    clear hL
    by_cases hlt : j < n
    · have hlt2 : (j : Int) < (n : Int) := by omega
      by_cases h80 : j ≤ 80
      · have h80' : (j : Int) ≤ 80 := by omega
        obtain ⟨x, hx⟩ : ∃ x, xs[j]? = some x := ⟨xs[j]'(by rw [← HN.out]; exact hlt), List.getElem?_eq_getElem (by rw [← HN.out]; exact hlt)⟩
        obtain ⟨k0, k1, k2, hs, _⟩ := HR.out j x hx
        obtain ⟨rfl, hbl⟩ : a = some ⟨b, o, none⟩ ∧ b < wr.heap.size := ⟨HA.out.1 (by omega), HA.out.2 (by omega)⟩
        have hnx := szA_next hx
        have hcl : (n : Int) ≤ (cap : Int) := by have := HCAP.out; omega
        obtain ⟨kk, ss, qs, zi⟩ := x
        dsimp only at hnx hs k0 k1 k2
        obtain ⟨bq, oq, capq, aq, e1, hcapq, _, haq, hcq, hblq, hbtq⟩ := hs
        obtain ⟨m, hm⟩ : ∃ m, m = qs.length := ⟨_, rfl⟩
        rw [← hm] at e1 hcapq haq hblq
        rw [e1] at k1
        have HM := hid hm
        have HNX := hid hnx
        have HQ := hid (And.intro haq (And.intro hblq (And.intro hcq hbtq)))
        clear hnx hx haq hblq hcq hbtq hm e1 k0 k2
        by_cases hm80 : 80 < m
        · have hm80' : (80 : Int) < (m : Int) := by omega
          go_wp2
          go_ret
          exact fits_no
        · have hm80' : ¬ (80 : Int) < (m : Int) := by omega
          have hcapq2 : (m : Int) ≤ (capq : Int) := by omega
          go_wp2
          obtain ⟨wo, hwo⟩ : ∃ wo : World, wo = wr := ⟨_, rfl⟩
          go_loopg [3, 5] m (fun g s i W => ∃ t : Nat, t ≤ m ∧ g = m - t ∧ i = .int .i64 t ∧ s = .int .i64 (L + szQ (qs.take t) : Nat) ∧ L + szQ (qs.take t) ≤ 3000 ∧ W = wo)
          case atStart => exact ⟨0, Nat.zero_le _, rfl, rfl, rfl, by simp [szQ]; omega, hwo.symm⟩
          case round =>
            obtain ⟨t, ht, rfl, rfl, rfl, hle2, rfl⟩ := hrel
            subst hwo
            obtain ⟨L2, hL2⟩ : ∃ L2, L2 = L + szQ (qs.take t) := ⟨_, rfl⟩
            have HL2 := hid hL2
            rw [← hL2] at hle2 ⊢
            clear hL2
            by_cases htm : t < m
            · have htm2 : (t : Int) < (m : Int) := by omega
              obtain ⟨q, hq⟩ : ∃ q, qs[t]? = some q := ⟨qs[t]'(by rw [← HM.out]; exact htm), List.getElem?_eq_getElem (by rw [← HM.out]; exact htm)⟩
              obtain rfl := HQ.out.1 (by omega)
              have d0 := HQ.out.2.2.1 t q hq
              have hlen := (HQ.out.2.2.2 q (List.mem_of_getElem? hq)).1.len
              have hnx := szQ_next hq
              obtain ⟨⟨qa, qn, qc⟩, ql⟩ := q
              dsimp only at d0 hlen hnx
              rw [← hlen] at hnx
              have HNX2 := hid hnx
              clear hq hlen hnx
              by_cases hb3 : 3000 < qn
              · have hb3' : (3000 : Int) < (qn : Int) := by omega
                go_wp2
                go_ret
                exact fits_no
              · have hb3' : ¬ (3000 : Int) < (qn : Int) := by omega
                have hq3 : qn ≤ 3000 := by omega
                by_cases hs3 : 3000 < L2 + 1 + qn
                · have hs3' : (3000 : Int) < (L2 : Int) + 1 + (qn : Int) := by omega
                  go_wp2
                  go_ret
                  exact fits_no
                · have hs3' : ¬ (3000 : Int) < (L2 : Int) + 1 + (qn : Int) := by omega
                  have HE := hid (show L + szQ (qs.take (t + 1)) = L2 + 1 + qn by have h1 := HNX2.out; have h2 := HL2.out; omega)
                  go_wp2
                  go_roundg (m - (t + 1))
                  case measure => omega
                  case rel => exact ⟨t + 1, by omega, rfl, by go_num, by rw [HE.out]; exact congrArg (Value.int .i64) (by omega), by rw [HE.out]; omega, rfl⟩
            · have htm2 : ¬ (t : Int) < (m : Int) := by omega
              have HE := hid (show szA (xs.take (j + 1)) = L2 by have h1 := HNX.out; have h2 := HL2.out; have h3 := HL.out; rw [List.take_of_length_le (by have := HM.out; omega)] at h2; omega)
              go_wp2
              go_roundg (n - (j + 1))
              case measure => omega
              case rel => exact ⟨j + 1, by omega, rfl, by go_num, by rw [HE.out], by rw [HE.out]; omega, by omega, rfl⟩
      · have h80' : ¬ (j : Int) ≤ 80 := by omega
        have hn80 : ¬ (n : Int) ≤ 80 := by omega
        go_wp2
        go_ret
        exact fits_no
    · have hlt2 : ¬ (j : Int) < (n : Int) := by omega
      have hall : xs.take j = xs := List.take_of_length_le (by have := HN.out; omega)
      have HE := hid (show szA xs ≤ 3000 by have h1 := HL.out; rw [hall] at h1; omega)
      clear hall
      by_cases c1 : n ≤ 80
      · have c2 : (n : Int) ≤ 80 := by omega
        go_wp2
        go_ret
        exact ⟨true, rfl, fun _ => ⟨by have := HN.out; omega, HE.out⟩, rfl⟩
      · have c2 : ¬ (n : Int) ≤ 80 := by omega
        go_wp2
        go_ret
        exact fits_no
end Go.Proofs.Ytcfkifiejojciaa

/- The document's Number: the number of figures, or one below 0. -/
import Derived.Test.YtobndmolnliejaaDoorCmdWorld
import Derived.Outline
import Derived.Deep.Light
namespace Go.Proofs.YtobndmolnliejaaDoor
open Go.RowKit

/-- The number that digits spell; below 0: one is none. -/
def numF (l : List UInt8) : Int := match Lib.decFrom 0 l with | some n => n | none => -1
def noNum (l : List UInt8) : Bool := l.isEmpty || decide (9 < l.length) || (decide (1 < l.length) && l.head? == some 48)
def rNumI (l : List UInt8) : Int := if noNum l then -1 else numF l

theorem dec_lt (l : List UInt8) (n : Nat) (h : Lib.decFrom 0 l = some n) (hl : l.length ≤ 9) : n < 1000000000 := by
  have := Lib.decFrom_lt l 0 n h
  have hp : 10 ^ l.length ≤ 10 ^ 9 := Nat.pow_le_pow_right (by decide) hl
  have e : (10 : Nat) ^ 9 = 1000000000 := by decide
  omega
theorem numF_bad (l : List UInt8) (k : Nat) (hk : k < l.length) (h : ¬ (48 ≤ l[k].toNat ∧ l[k].toNat ≤ 57)) : numF l = -1 := by
  unfold numF
  cases hd : Lib.decFrom 0 l with
  | none => rfl
  | some n =>
    obtain ⟨d, hd2⟩ := Lib.digit_of_decFrom l 0 n hd k l[k] (List.getElem?_eq_getElem hk)
    unfold Lib.digitVal at hd2
    rw [if_neg h] at hd2
    cases hd2

theorem lead {s : ByteArray} (h : noNum s.data.toList = true) (h0 : s.data.toList ≠ []) (h1 : s.size ≤ 9) : 1 < s.size ∧ ∀ hp : 0 < s.size, ((s[0].toNat : Int) == 48) = true := by
  obtain ⟨⟨l⟩⟩ := s
  simp only at h h0
  have h1' : l.length ≤ 9 := h1
  cases l with
  | nil => exact absurd rfl h0
  | cons b r =>
    unfold noNum at h
    simp at h
    simp at h1'
    have hr : r ≠ [] ∧ b = 48 := by
      rcases h with h | h
      · omega
      · exact ⟨fun e => by simp [e] at h, h.2⟩
    obtain ⟨hr, rfl⟩ := hr
    refine ⟨?_, fun _ => rfl⟩
    show 1 < (48 :: r).length
    have := List.length_pos_iff.2 hr
    simp; omega
set_option maxRecDepth 100000 in
theorem rNumber_no (s : ByteArray) (hs : s.size ≤ 1000) (w : World) (h : noNum s.data.toList = true) : Calls Tryd.prog 32 #[.string s] w fun e w' => e = .returned (.int .i64 (-1)) ∧ w = w' := by
  have hsz : s.size = s.data.toList.length := rfl
  by_cases h0 : s.size = 0
  · obtain rfl : s = ⟨#[]⟩ := by
      obtain ⟨⟨l⟩⟩ := s
      have : l = [] := List.length_eq_zero_iff.1 h0
      rw [this]
    clear h h0 hsz hs
    go_enter Tryd.func32, Tryd.ntmps32
    go_wp2
    go_ret
    exact ⟨rfl, rfl⟩
  · have t0 : s.toList = [] ↔ False := by
      rw [Go.ByteArray.toList_eq, iff_false]
      intro e; rw [hsz, e] at h0; exact h0 rfl
    by_cases h1 : 9 < s.size
    · clear h h0 hsz
      go_enter Tryd.func32, Tryd.ntmps32
      go_wp2
      go_ret
      exact ⟨rfl, rfl⟩
    · obtain ⟨h2, h3'⟩ := lead h (by intro e; rw [hsz, e] at h0; exact h0 rfl) (by omega)
      have hp : 0 < s.size := by omega
      have h3 := h3' hp
      clear h3'
      clear h h0 hsz
      go_enter Tryd.func32, Tryd.ntmps32
      go_wp2
      go_ret
      exact ⟨rfl, rfl⟩

theorem take_next (s : ByteArray) (k : Nat) (h : k < s.size) : s.data.toList.take (k + 1) = s.data.toList.take k ++ [s[k]] := by
  rw [List.take_succ_eq_append_getElem (by simpa using h)]; rfl
theorem dec_step {l : List UInt8} {m : Nat} {c : UInt8} (h : Lib.decFrom 0 l = some m) (h0 : 48 ≤ c.toNat) (h1 : c.toNat ≤ 57) : Lib.decFrom 0 (l ++ [c]) = some (m * 10 + (c.toNat - 48)) := by
  rw [decFrom_append _ _ _ _ h]
  simp only [Lib.decFrom, Lib.digitVal]
  rw [if_pos ⟨h0, h1⟩]

theorem val_step {m : Nat} {c : Nat} (h0 : 48 ≤ (c : Int)) (h1 : (c : Int) ≤ 57) : Value.int .i64 (10 * (m : Int) + ((c : Int) - 48)) = .int .i64 ((m * 10 + (c - 48) : Nat) : Int) := by
  congr 1; omega
set_option maxHeartbeats 600000 in
set_option maxRecDepth 100000 in
theorem rNumber_go (s : ByteArray) (hp : 0 < s.size) (hs : s.size ≤ 9) (hz : s.size = 1 ∨ ((s[0].toNat : Int) == 48) = false) (w : World) : Calls Tryd.prog 32 #[.string s] w fun e w' => e = .returned (.int .i64 (numF s.data.toList)) ∧ w = w' := by
  have t0 : s.toList = [] ↔ False := by
    rw [Go.ByteArray.toList_eq, iff_false]
    intro e
    have hsz : s.size = s.data.toList.length := rfl
    rw [hsz, e] at hp; exact Nat.lt_irrefl _ hp
  have e1 : s.toList.isEmpty = false := by rw [List.isEmpty_eq_false_iff]; exact t0.1
  have e2 : (!s.toList.isEmpty) = true := by rw [e1]; rfl
  have h9 : ¬ 9 < s.size := by omega
  by_cases h2 : 1 < s.size
  · have h1 : ((s[0].toNat : Int) == 48) = false := by
      rcases hz with h | h
      · omega
      · exact h
    clear hz
    go_enter Tryd.func32, Tryd.ntmps32
    go_wp2
    go_loop [3, 4] (fun n i => ∃ k m : Nat, k ≤ s.size ∧ i = .int .i64 k ∧ n = .int .i64 m ∧ Hid (Lib.decFrom 0 (s.data.toList.take k) = some m)) (fun _ i => s.size - (intOf i).toNat)
    case atStart => exact ⟨0, 0, Nat.zero_le _, rfl, rfl, rfl⟩
    case round =>
      obtain ⟨k, m, hk, rfl, rfl, hd⟩ := hrel
      have hm : m < 1000000000 := dec_lt _ _ hd.out (by have := List.length_take_le k s.data.toList; omega)
      by_cases hlt : k < s.size
      · by_cases hc0 : 48 ≤ (s[k].toNat : Int)
        · by_cases hc1 : (s[k].toNat : Int) ≤ 57
          · have HD : Hid (Lib.decFrom 0 (s.data.toList.take (k + 1)) = some (m * 10 + (s[k].toNat - 48))) := by
              show _ = _
              rw [take_next s k hlt]
              exact dec_step hd.out (by omega) (by omega)
            go_wp2
            go_round
            case rel => exact ⟨k + 1, _, by omega, by go_num, val_step (by omega) (by omega), HD⟩
            case measure => simp [intOf]; omega
          · have HB := hid (numF_bad s.data.toList k hlt (fun e => hc1 (by have := e.2; show (s.data.toList[k].toNat : Int) ≤ 57; omega)))
            go_wp2
            go_ret
            exact ⟨by rw [HB.out]; rfl, rfl⟩
        · have HB := hid (numF_bad s.data.toList k hlt (fun e => hc0 (by have := e.1; show 48 ≤ (s.data.toList[k].toNat : Int); omega)))
          go_wp2
          go_ret
          exact ⟨by rw [HB.out]; rfl, rfl⟩
      · have HE : Hid (numF s.data.toList = m) := by
          show _ = _
          have e : s.data.toList.take k = s.data.toList := List.take_of_length_le (by show s.size ≤ k; omega)
          have := hd.out
          rw [e] at this
          unfold numF; rw [this]
        go_wp2
        go_ret
        exact ⟨by rw [HE.out]; rfl, rfl⟩
  · clear hz
    go_enter Tryd.func32, Tryd.ntmps32
    go_wp2
    go_loop [3, 4] (fun n i => ∃ k m : Nat, k ≤ s.size ∧ i = .int .i64 k ∧ n = .int .i64 m ∧ Hid (Lib.decFrom 0 (s.data.toList.take k) = some m)) (fun _ i => s.size - (intOf i).toNat)
    case atStart => exact ⟨0, 0, Nat.zero_le _, rfl, rfl, rfl⟩
    case round =>
      obtain ⟨k, m, hk, rfl, rfl, hd⟩ := hrel
      have hm : m < 1000000000 := dec_lt _ _ hd.out (by have := List.length_take_le k s.data.toList; omega)
      by_cases hlt : k < s.size
      · by_cases hc0 : 48 ≤ (s[k].toNat : Int)
        · by_cases hc1 : (s[k].toNat : Int) ≤ 57
          · have HD : Hid (Lib.decFrom 0 (s.data.toList.take (k + 1)) = some (m * 10 + (s[k].toNat - 48))) := by
              show _ = _
              rw [take_next s k hlt]
              exact dec_step hd.out (by omega) (by omega)
            go_wp2
            go_round
            case rel => exact ⟨k + 1, _, by omega, by go_num, val_step (by omega) (by omega), HD⟩
            case measure => simp [intOf]; omega
          · have HB := hid (numF_bad s.data.toList k hlt (fun e => hc1 (by have := e.2; show (s.data.toList[k].toNat : Int) ≤ 57; omega)))
            go_wp2
            go_ret
            exact ⟨by rw [HB.out]; rfl, rfl⟩
        · have HB := hid (numF_bad s.data.toList k hlt (fun e => hc0 (by have := e.1; show 48 ≤ (s.data.toList[k].toNat : Int); omega)))
          go_wp2
          go_ret
          exact ⟨by rw [HB.out]; rfl, rfl⟩
      · have HE : Hid (numF s.data.toList = m) := by
          show _ = _
          have e : s.data.toList.take k = s.data.toList := List.take_of_length_le (by show s.size ≤ k; omega)
          have := hd.out
          rw [e] at this
          unfold numF; rw [this]
        go_wp2
        go_ret
        exact ⟨by rw [HE.out]; rfl, rfl⟩

theorem rNumber (s : ByteArray) (hs : s.size ≤ 1000) (w : World) : Calls Tryd.prog 32 #[.string s] w fun e w' => e = .returned (.int .i64 (rNumI s.data.toList)) ∧ w = w' := by
  rcases h : noNum s.data.toList with _ | _
  · have hr : rNumI s.data.toList = numF s.data.toList := by unfold rNumI; rw [h]; rfl
    rw [hr]
    have hsz : s.size = s.data.toList.length := rfl
    unfold noNum at h
    simp at h
    obtain ⟨⟨h0, h1⟩, h2⟩ := h
    have hp : 0 < s.size := by
      rcases Nat.eq_zero_or_pos s.size with e | e
      · exact absurd (by rw [← Array.size_eq_zero_iff]; exact e) h0
      · exact e
    refine rNumber_go s hp h1 ?_ w
    by_cases h3 : s.size = 1
    · exact Or.inl h3
    · right
      rw [beq_eq_false_iff_ne]
      intro e
      have h4 : 1 < s.size := by omega
      have e48 : s[0] = 48 := UInt8.toNat_inj.1 (by simp only [UInt8.reduceToNat]; omega)
      refine h2 h4 ?_
      rw [List.head?_eq_getElem?, List.getElem?_eq_getElem (by rw [← hsz]; exact hp)]
      exact congrArg some e48
  · have hr : rNumI s.data.toList = -1 := by unfold rNumI; rw [h]; rfl
    rw [hr]
    exact rNumber_no s hs w h
end Go.Proofs.YtobndmolnliejaaDoor

/- The laws' small functions: what rests, what fills took, whether a buy meets a sell; the document's Meets. -/
import Derived.Test.YtolbgmihphonbaaBOps
namespace Go.Proofs.Ytolbgmihphonbaa
set_option linter.unusedVariables false
open Go.RowKit
open Go.Lib (hid)

theorem vint {a b : Int} (h : a = b) : Value.int .i64 a = .int .i64 b := by rw [h]
theorem sumO_take {l : List Od} {k : Nat} {o : Od} (h : l[k]? = some o) : sumO (l.take (k + 1)) = sumO (l.take k) + o.n := by
  rw [List.take_add_one, h, sumO_append]; simp [sumO]
theorem sumF_take {l : List Fl} {k : Nat} {o : Fl} (h : l[k]? = some o) : sumF (l.take (k + 1)) = sumF (l.take k) + o.q := by
  rw [List.take_add_one, h, sumF_append]; simp [sumF]
theorem take_bound {s : Int} {l : List Od} (h : AllO s l) (k : Nat) : 0 ≤ sumO (l.take k) ∧ sumO (l.take k) ≤ l.length * 1048576 := by
  have h1 := sum_bound (l := l.take k) fun o ho => h o (List.mem_of_mem_take ho)
  have h2 : (l.take k).length ≤ l.length := by rw [List.length_take]; omega
  omega

set_option maxHeartbeats 6400000 in
set_option maxRecDepth 100000 in
theorem cLeft {w : World} {B p : Nat} {va vb : Value} {bs ss : List Od} (h : BkA w B p va vb bs ss) (hF : FineB bs ss) :
    Calls Try.prog 7 #[ptr p] w fun e w' => e = .returned (.int .i64 (sumO bs + sumO ss)) ∧ Below w.heap.size w w' := by
  have HO0 : Hid (∀ W, Below w.heap.size w W → Calls Try.prog 12 #[ptr p, .int .i64 0] W fun e w' => ∃ r, e = .returned r ∧ OwnO w' W.heap.size r bs ∧ Below W.heap.size W w') := hid fun W hW => cOrders0 (h.on hW) hF.lens
  have HO1 : Hid (∀ W, Below w.heap.size w W → Calls Try.prog 12 #[ptr p, .int .i64 1] W fun e w' => ∃ r, e = .returned r ∧ OwnO w' W.heap.size r ss ∧ Below W.heap.size W w') := hid fun W hW => cOrders1 (h.on hW) hF.lens
  have hb1 : 0 ≤ sumO bs ∧ sumO bs ≤ 8388608 := by have h1 := sum_bound hF.fb; have h2 := hF.len; omega
  have hb2 : 0 ≤ sumO ss ∧ sumO ss ≤ 8388608 := by have h1 := sum_bound hF.fs; have h2 := hF.len; omega
  clear h
  go_enter Try.func7, Try.ntmps7
  go_wp2_with fail
  go_loopg [3, 4, 5, 6] 2 (fun gg s3 s4 s5 s6 wr => ∃ k : Nat, k ≤ 2 ∧ 2 - k ≤ gg ∧ s4 = .int .i64 k ∧ s3 = .int .i64 (if k = 0 then 0 else if k = 1 then sumO bs else sumO bs + sumO ss) ∧ Hid (Below w.heap.size w wr))
  case atStart => exact ⟨0, by omega, by omega, rfl, rfl, hid (Below.refl _ _)⟩
  case round =>
    obtain ⟨k, hk, hg, rfl, rfl, HW⟩ := hrel
    obtain rfl | rfl | rfl : k = 0 ∨ k = 1 ∨ k = 2 := by omega
    · go_wp2_with (go_at_call 12; refine (HO0.out _ HW.out).mono ?_; rintro e w1 ⟨v, rfl, hO, hB1⟩; have HB1 := hid (HW.out.trans (hB1.mono HW.out.size)); have HO' := hid hO; obtain ⟨a, cap, n, rfl, hn⟩ := hO.asSlice; have HN := hid hn; clear hO hB1 hn)
      have hn8 : n ≤ 8 := by have := HN.out; have := hF.len; omega
      obtain ⟨l, hl⟩ : ∃ l, l = bs := ⟨_, rfl⟩
      rw [← hl] at HO' HN
      have hbd : ∀ k, 0 ≤ sumO (l.take k) ∧ sumO (l.take k) ≤ 8388608 := fun k => by rw [hl]; have h1 := take_bound hF.fb k; have h2 := hF.len; omega
      have HBD := hid hbd
      have HL := hid hl
      have hsh : ∀ k x, l[k]? = some x → ∃ g, a = some ⟨g, 0, none⟩ ∧ g < w1.heap.size ∧ w1.cell? ⟨g, k * 4 + 3, none⟩ = some (.int .i64 x.n) := fun k x hk => by
        rcases HO'.out.shape with ⟨_, e⟩ | ⟨g, cap', e, _, _, _, hg, hc, _⟩
        · rw [e] at hk; simp at hk
        · injection e with e2 e3 e4
          exact ⟨g, e2, hg, (hc k x hk).2.2.2⟩
      have HSH := hid hsh
      clear hbd hl hsh
      go_loopg [3, 6] n (fun gg s3 s6 wi => ∃ j : Nat, j ≤ n ∧ n - j ≤ gg ∧ s6 = .int .i64 j ∧ s3 = .int .i64 (0 + sumO (l.take j)) ∧ wi = w1)
      case atStart => exact ⟨0, by omega, by omega, rfl, by simp [sumO], rfl⟩
      case round =>
        obtain ⟨j, hj, hgg, rfl, rfl, rfl⟩ := hrel
        by_cases hlt : j < n
        · have hltz : (j : Int) < (n : Int) := by omega
          obtain ⟨x, hx⟩ : ∃ x, l[j]? = some x := ⟨l[j]'(by rw [← HN.out]; exact hlt), List.getElem?_eq_getElem (by rw [← HN.out]; exact hlt)⟩
          obtain ⟨g, rfl, hg, k3⟩ := HSH.out j x hx
          have e1 := sumO_take hx
          have b1 := HBD.out j
          have b2 := HBD.out (j + 1)
          obtain ⟨sj, hsj⟩ : ∃ sj, sj = sumO (l.take j) := ⟨_, rfl⟩
          rw [← hsj] at e1 b1 ⊢
          rw [e1] at b2
          have hx1 : 0 ≤ x.n + sj := by omega
          have E1 := hid e1
          clear hx e1 hsj
          go_wp2
          go_roundg (n - (j + 1))
          case measure => omega
          case rel => exact ⟨j + 1, by omega, by omega, by go_num, vint (by have := E1.out; omega), rfl⟩
        · have hltz : ¬ (j : Int) < (n : Int) := by omega
          have hE : sumO (l.take j) = sumO bs := by rw [List.take_of_length_le (by have := HN.out; omega), HL.out]
          rw [hE]
          go_wp2
          go_roundg 1
          case measure => omega
          case rel => exact ⟨1, by omega, by omega, by go_num, by simp, HB1⟩
    · go_wp2_with (go_at_call 12; refine (HO1.out _ HW.out).mono ?_; rintro e w1 ⟨v, rfl, hO, hB1⟩; have HB1 := hid (HW.out.trans (hB1.mono HW.out.size)); have HO' := hid hO; obtain ⟨a, cap, n, rfl, hn⟩ := hO.asSlice; have HN := hid hn; clear hO hB1 hn)
      have hn8 : n ≤ 8 := by have := HN.out; have := hF.len; omega
      obtain ⟨l, hl⟩ : ∃ l, l = ss := ⟨_, rfl⟩
      rw [← hl] at HO' HN
      have hbd : ∀ k, 0 ≤ sumO (l.take k) ∧ sumO (l.take k) ≤ 8388608 := fun k => by rw [hl]; have h1 := take_bound hF.fs k; have h2 := hF.len; omega
      have HBD := hid hbd
      have HL := hid hl
      have hsh : ∀ k x, l[k]? = some x → ∃ g, a = some ⟨g, 0, none⟩ ∧ g < w1.heap.size ∧ w1.cell? ⟨g, k * 4 + 3, none⟩ = some (.int .i64 x.n) := fun k x hk => by
        rcases HO'.out.shape with ⟨_, e⟩ | ⟨g, cap', e, _, _, _, hg, hc, _⟩
        · rw [e] at hk; simp at hk
        · injection e with e2 e3 e4
          exact ⟨g, e2, hg, (hc k x hk).2.2.2⟩
      have HSH := hid hsh
      clear hbd hl hsh
      go_loopg [3, 6] n (fun gg s3 s6 wi => ∃ j : Nat, j ≤ n ∧ n - j ≤ gg ∧ s6 = .int .i64 j ∧ s3 = .int .i64 (sumO bs + sumO (l.take j)) ∧ wi = w1)
      case atStart => exact ⟨0, by omega, by omega, rfl, by simp [sumO], rfl⟩
      case round =>
        obtain ⟨j, hj, hgg, rfl, rfl, rfl⟩ := hrel
        by_cases hlt : j < n
        · have hltz : (j : Int) < (n : Int) := by omega
          obtain ⟨x, hx⟩ : ∃ x, l[j]? = some x := ⟨l[j]'(by rw [← HN.out]; exact hlt), List.getElem?_eq_getElem (by rw [← HN.out]; exact hlt)⟩
          obtain ⟨g, rfl, hg, k3⟩ := HSH.out j x hx
          have e1 := sumO_take hx
          have b1 := HBD.out j
          have b2 := HBD.out (j + 1)
          obtain ⟨sj, hsj⟩ : ∃ sj, sj = sumO (l.take j) := ⟨_, rfl⟩
          rw [← hsj] at e1 b1 ⊢
          rw [e1] at b2
          have hx1 : 0 ≤ x.n + sj := by omega
          have E1 := hid e1
          clear hx e1 hsj
          go_wp2
          go_roundg (n - (j + 1))
          case measure => omega
          case rel => exact ⟨j + 1, by omega, by omega, by go_num, vint (by have := E1.out; omega), rfl⟩
        · have hltz : ¬ (j : Int) < (n : Int) := by omega
          have hE : sumO (l.take j) = sumO ss := by rw [List.take_of_length_le (by have := HN.out; omega), HL.out]
          rw [hE]
          go_wp2
          go_roundg 0
          case measure => omega
          case rel => exact ⟨2, by omega, by omega, by go_num, by simp, HB1⟩
    · go_wp2
      go_ret
      exact ⟨rfl, HW.out⟩

set_option maxHeartbeats 3200000 in
set_option maxRecDepth 100000 in
theorem cFilled {w : World} {C : Nat} {vf : Value} {fs : List Fl} (h : OwnF w C vf fs) (hl : fs.length ≤ 8) (hq : ∀ k, 0 ≤ sumF (fs.take k) ∧ sumF (fs.take k) ≤ 8388608) (e0 n0 : Int) :
    Calls Try.prog 10 #[rpV e0 vf n0] w fun e w' => e = .returned (.int .i64 (sumF fs)) ∧ Below w.heap.size w w' := by
  have hsh : ∀ k x, fs[k]? = some x → ∃ g a cap, vf = .slice (some ⟨g, 0, none⟩) a cap ∧ g < w.heap.size ∧ w.cell? ⟨g, k * 3 + 2, none⟩ = some (.int .i64 x.q) := fun k x hk => by
    rcases h.shape with ⟨_, e⟩ | ⟨g, cap', e, _, _, _, hg, hc, _⟩
    · rw [e] at hk; simp at hk
    · exact ⟨g, _, cap', e, hg, (hc k x hk).2.2⟩
  obtain ⟨a, cap, n, rfl, hn⟩ := h.asSlice
  have HSH := hid hsh
  have HN := hid hn
  have HQ := hid hq
  have hn8 : n ≤ 8 := by omega
  have hal : Below w.heap.size w (w.alloc (.cells #[.int .i64 e0, .slice a n cap, .int .i64 n0] 37)) := (Below.refl _ w).alloc (Nat.le_refl _) _
  have HAL := hid hal
  clear h hsh hn hq hl hal
  go_enter Try.func10, Try.ntmps10
  go_wp2_with fail
  go_loopg [3, 4] n (fun gg s3 s4 wr => ∃ j : Nat, j ≤ n ∧ n - j ≤ gg ∧ s4 = .int .i64 j ∧ s3 = .int .i64 (sumF (fs.take j)) ∧ wr = w.alloc (.cells #[.int .i64 e0, .slice a n cap, .int .i64 n0] 37))
  case atStart => exact ⟨0, by omega, by omega, rfl, by simp [sumF], rfl⟩
  case round =>
    obtain ⟨j, hj, hgg, rfl, rfl, rfl⟩ := hrel
    by_cases hlt : j < n
    · have hltz : (j : Int) < (n : Int) := by omega
      obtain ⟨x, hx⟩ : ∃ x, fs[j]? = some x := ⟨fs[j]'(by rw [← HN.out]; exact hlt), List.getElem?_eq_getElem (by rw [← HN.out]; exact hlt)⟩
      obtain ⟨g, a2, cap2, e2, hg, k3⟩ := HSH.out j x hx
      injection e2 with e3 e4 e5
      subst e3
      have e1 := sumF_take hx
      have b1 := HQ.out j
      have b2 := HQ.out (j + 1)
      obtain ⟨sj, hsj⟩ : ∃ sj, sj = sumF (fs.take j) := ⟨_, rfl⟩
      rw [← hsj] at e1 b1 ⊢
      rw [e1] at b2
      have E1 := hid e1
      have HE := hid (And.intro e4 e5)
      clear hx e1 hsj e4 e5
      go_wp2
      go_roundg (n - (j + 1))
      case measure => omega
      case rel => exact ⟨j + 1, by omega, by omega, by go_num, by rw [E1.out], rfl⟩
    · have hltz : ¬ (j : Int) < (n : Int) := by omega
      have hE : sumF (fs.take j) = sumF fs := by rw [List.take_of_length_le (by have := HN.out; omega)]
      rw [hE]
      go_wp2
      go_ret
      exact ⟨rfl, HAL.out⟩

set_option maxHeartbeats 1600000 in
set_option maxRecDepth 100000 in
theorem rMeets0 (i p n j q m : Int) (w : World) : Calls Try.prog 14 #[.agg #[.int .i64 i, .int .i64 0, .int .i64 p, .int .i64 n], .agg #[.int .i64 j, .int .i64 1, .int .i64 q, .int .i64 m]] w fun e w' => e = .returned (.bool (meetsB 0 p q)) ∧ Below w.heap.size w w' := by
  have hb := ((Below.refl _ w).alloc (Nat.le_refl _) (.cells #[.int .i64 i, .int .i64 0, .int .i64 p, .int .i64 n] 49)).alloc (by simp) (.cells #[.int .i64 j, .int .i64 1, .int .i64 q, .int .i64 m] 49)
  have hm : meetsB 0 p q = decide (q ≤ p) := by unfold meetsB; rw [if_pos rfl]
  rw [hm]; clear hm
  by_cases h : q ≤ p
  · go_enter Try.func14, Try.ntmps14
    go_wp2
    go_ret
    exact ⟨ret_bool (by simp [h]), hb⟩
  · go_enter Try.func14, Try.ntmps14
    go_wp2
    go_ret
    exact ⟨ret_bool (by simp [h]), hb⟩
set_option maxHeartbeats 1600000 in
set_option maxRecDepth 100000 in
theorem rMeets1 (i p n j q m : Int) (w : World) : Calls Try.prog 14 #[.agg #[.int .i64 i, .int .i64 1, .int .i64 p, .int .i64 n], .agg #[.int .i64 j, .int .i64 0, .int .i64 q, .int .i64 m]] w fun e w' => e = .returned (.bool (meetsB 1 p q)) ∧ Below w.heap.size w w' := by
  have hb := ((Below.refl _ w).alloc (Nat.le_refl _) (.cells #[.int .i64 i, .int .i64 1, .int .i64 p, .int .i64 n] 49)).alloc (by simp) (.cells #[.int .i64 j, .int .i64 0, .int .i64 q, .int .i64 m] 49)
  have hm : meetsB 1 p q = decide (p ≤ q) := by unfold meetsB; rw [if_neg (by decide)]
  rw [hm]; clear hm
  by_cases h : p ≤ q
  · go_enter Try.func14, Try.ntmps14
    go_wp2
    go_ret
    exact ⟨ret_bool (by simp [h]), hb⟩
  · go_enter Try.func14, Try.ntmps14
    go_wp2
    go_ret
    exact ⟨ret_bool (by simp [h]), hb⟩
end Go.Proofs.Ytolbgmihphonbaa

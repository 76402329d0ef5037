import Derived.Test.YtbcmhnaiabifjaaG00
import Derived.Deep.Light
import Derived.Deep.QuietTactic
import Derived.BigQuiet
import Derived.Outline
namespace Go.Proofs.Ytbcmhnaiabifjaa
open Go.RowKit
theorem boxed (w : World) (xs : Array Value) (T : TypeId) : Below w.heap.size w (w.alloc (.cells xs T)) := (Below.refl _ _).alloc (Nat.le_refl _) _
set_option maxRecDepth 100000 in
theorem rOne_pre (i k s t d p q : Int) (h : namedB i = false ∨ withinB s 3 = false) (w : World) : Calls Try.prog 51 #[cmV i k s t d p q] w fun e w' => e = .returned (.bool false) ∧ Below w.heap.size w w' := by
  rcases hn : namedB i with _ | _
  · go_enter Try.func51, Try.ntmps51
    go_wp2_with (first | (go_at_call 70; refine (rNamed _ _).mono ?_; rintro e w' ⟨rfl, rfl⟩) | (go_at_call 71; refine (rIn _ _).mono ?_; rintro e w' ⟨rfl, rfl⟩))
    go_ret
    exact ⟨rfl, boxed _ _ _⟩
  · have hs : withinB s 3 = false := by simpa [hn] using h
    rw [within_false] at hs
    clear h
    by_cases h0 : s < 0
    · go_enter Try.func51, Try.ntmps51
      go_wp2_with (first | (go_at_call 70; refine (rNamed _ _).mono ?_; rintro e w' ⟨rfl, rfl⟩) | (go_at_call 71; refine (rIn _ _).mono ?_; rintro e w' ⟨rfl, rfl⟩))
      go_ret
      exact ⟨rfl, boxed _ _ _⟩
    · have h1 : 3 < s := by omega
      go_enter Try.func51, Try.ntmps51
      go_wp2_with (first | (go_at_call 70; refine (rNamed _ _).mono ?_; rintro e w' ⟨rfl, rfl⟩) | (go_at_call 71; refine (rIn _ _).mono ?_; rintro e w' ⟨rfl, rfl⟩))
      go_ret
      exact ⟨rfl, boxed _ _ _⟩
def restB (k t d p q : Int) : Bool :=
  if k = 0 then decide (t = 0) && (decide (d = 0) || decide (d = 1)) && withinB p 1048576 && withinB q 1048576
  else if k = 1 then namedB t && decide (d = 0) && decide (p = 0) && decide (q = 0)
  else if k = 2 then namedB t && decide (d = 0) && decide (p = 0) && withinB q 1048576
  else false
set_option maxRecDepth 100000 in
theorem rOne_k0 (i s t d p q : Int) (hn : namedB i = true) (h0 : 0 ≤ s) (h1 : s ≤ 3) (w : World) : Calls Try.prog 51 #[cmV i 0 s t d p q] w fun e w' => e = .returned (.bool (restB 0 t d p q)) ∧ Below w.heap.size w w' := by
  go_enter Try.func51, Try.ntmps51
  go_wp2_with (first | (go_at_call 70; refine (rNamed _ _).mono ?_; rintro e w' ⟨rfl, rfl⟩) | (go_at_call 71; refine (rIn _ _).mono ?_; rintro e w' ⟨rfl, rfl⟩))
  all_goals
    go_ret
    refine ⟨ret_bool ?_, boxed _ _ _⟩
    go_light
    first | (simp_all [restB]; done) | (simp_all [restB]; rw [Bool.eq_iff_iff]; simp; done) | (simp_all [restB]; omega)
set_option maxRecDepth 100000 in
theorem rOne_k1 (i s t d p q : Int) (hn : namedB i = true) (h0 : 0 ≤ s) (h1 : s ≤ 3) (w : World) : Calls Try.prog 51 #[cmV i 1 s t d p q] w fun e w' => e = .returned (.bool (restB 1 t d p q)) ∧ Below w.heap.size w w' := by
  go_enter Try.func51, Try.ntmps51
  go_wp2_with (first | (go_at_call 70; refine (rNamed _ _).mono ?_; rintro e w' ⟨rfl, rfl⟩) | (go_at_call 71; refine (rIn _ _).mono ?_; rintro e w' ⟨rfl, rfl⟩))
  all_goals
    go_ret
    refine ⟨ret_bool ?_, boxed _ _ _⟩
    go_light
    first | (simp_all [restB]; done) | (simp_all [restB]; rw [Bool.eq_iff_iff]; simp; done) | (simp_all [restB]; omega)
set_option maxRecDepth 100000 in
theorem rOne_k2 (i s t d p q : Int) (hn : namedB i = true) (h0 : 0 ≤ s) (h1 : s ≤ 3) (w : World) : Calls Try.prog 51 #[cmV i 2 s t d p q] w fun e w' => e = .returned (.bool (restB 2 t d p q)) ∧ Below w.heap.size w w' := by
  go_enter Try.func51, Try.ntmps51
  go_wp2_with (first | (go_at_call 70; refine (rNamed _ _).mono ?_; rintro e w' ⟨rfl, rfl⟩) | (go_at_call 71; refine (rIn _ _).mono ?_; rintro e w' ⟨rfl, rfl⟩))
  all_goals
    go_ret
    refine ⟨ret_bool ?_, boxed _ _ _⟩
    go_light
    first | (simp_all [restB]; done) | (simp_all [restB]; rw [Bool.eq_iff_iff]; simp; done) | (simp_all [restB]; omega)
set_option maxRecDepth 100000 in
theorem rOne_no (i k s t d p q : Int) (k0 : k ≠ 0) (k1 : k ≠ 1) (k2 : k ≠ 2) (hn : namedB i = true) (h0 : 0 ≤ s) (h1 : s ≤ 3) (w : World) : Calls Try.prog 51 #[cmV i k s t d p q] w fun e w' => e = .returned (.bool (restB k t d p q)) ∧ Below w.heap.size w w' := by
  go_enter Try.func51, Try.ntmps51
  go_wp2_with (first | (go_at_call 70; refine (rNamed _ _).mono ?_; rintro e w' ⟨rfl, rfl⟩) | (go_at_call 71; refine (rIn _ _).mono ?_; rintro e w' ⟨rfl, rfl⟩))
  all_goals
    go_ret
    refine ⟨ret_bool ?_, boxed _ _ _⟩
    go_light
    first | (simp_all [restB]; done) | (simp_all [restB]; rw [Bool.eq_iff_iff]; simp; done) | (simp_all [restB]; omega)
theorem zero_within (x : Int) : withinB x 0 = decide (x = 0) := by
  unfold withinB; congr 1; apply propext; omega
theorem one_within (x : Int) : withinB x 1 = (decide (x = 0) || decide (x = 1)) := by
  unfold withinB; rw [Bool.eq_iff_iff]; simp; omega
theorem rOne (i k s t d p q : Int) (w : World) : Calls Try.prog 51 #[cmV i k s t d p q] w fun e w' => e = .returned (.bool (oneB i k s t d p q)) ∧ Below w.heap.size w w' := by
  rcases hn : namedB i with _ | _
  · simpa [oneB, hn] using rOne_pre i k s t d p q (Or.inl hn) w
  rcases hs : withinB s 3 with _ | _
  · simpa [oneB, hs] using rOne_pre i k s t d p q (Or.inr hs) w
  have hb : oneB i k s t d p q = restB k t d p q := by
    unfold oneB restB; rw [hn, hs]; simp only [zero_within, one_within, Bool.true_and]; rfl
  obtain ⟨h0, h1⟩ := within_true.mp hs
  rw [hb]
  by_cases k0 : k = 0
  · subst k0; exact rOne_k0 i s t d p q hn h0 h1 w
  by_cases k1 : k = 1
  · subst k1; exact rOne_k1 i s t d p q hn h0 h1 w
  by_cases k2 : k = 2
  · subst k2; exact rOne_k2 i s t d p q hn h0 h1 w
  exact rOne_no i k s t d p q k0 k1 k2 hn h0 h1 w
end Go.Proofs.Ytbcmhnaiabifjaa
namespace Go.Proofs.Ytbcmhnaiabifjaa
open Go.RowKit
open Go.Lib (hid)
structure C7 where
  i : Int
  k : Int
  s : Int
  t : Int
  d : Int
  p : Int
  q : Int
abbrev C7.cells (c : C7) : List Value := [.int .i64 c.i, .int .i64 c.k, .int .i64 c.s, .int .i64 c.t, .int .i64 c.d, .int .i64 c.p, .int .i64 c.q]
def C7.ok (c : C7) : Bool := oneB c.i c.k c.s c.t c.d c.p c.q
def CmsAt (w : World) (b o : Nat) (cs : List C7) : Prop :=
  ∀ (j : Nat) c, cs[j]? = some c → ∀ (f : Nat) v, c.cells[f]? = some v → w.cell? ⟨b, o + (j * 7 + f), none⟩ = some v
theorem CmsAt.on {w w' : World} {b o B : Nat} {cs : List C7} (h : CmsAt w b o cs) (hb : Below B w w') (hB : b < B) : CmsAt w' b o cs := fun j c hc f v hv => by
  rw [hb.cell (p := ⟨b, o + (j * 7 + f), none⟩) hB]; exact h j c hc f v hv
theorem CmsAt.at {w : World} {b o : Nat} {cs : List C7} (h : CmsAt w b o cs) {j : Nat} {c : C7} (hc : cs[j]? = some c) :
    w.cell? ⟨b, o + j * 7, none⟩ = some (.int .i64 c.i) ∧ w.cell? ⟨b, o + j * 7 + 1, none⟩ = some (.int .i64 c.k) ∧ w.cell? ⟨b, o + j * 7 + 2, none⟩ = some (.int .i64 c.s) ∧ w.cell? ⟨b, o + j * 7 + 3, none⟩ = some (.int .i64 c.t) ∧
    w.cell? ⟨b, o + j * 7 + 4, none⟩ = some (.int .i64 c.d) ∧ w.cell? ⟨b, o + j * 7 + 5, none⟩ = some (.int .i64 c.p) ∧ w.cell? ⟨b, o + j * 7 + 6, none⟩ = some (.int .i64 c.q) :=
  ⟨h j c hc 0 _ rfl, h j c hc 1 _ rfl, h j c hc 2 _ rfl, h j c hc 3 _ rfl, h j c hc 4 _ rfl, h j c hc 5 _ rfl, h j c hc 6 _ rfl⟩
theorem ok_next {cs : List C7} {k : Nat} {c : C7} (h : (cs.take k).all C7.ok = true) (hc : cs[k]? = some c) (h2 : c.ok = true) : (cs.take (k + 1)).all C7.ok = true := by
  rw [List.take_add_one, hc]; simp only [Option.toList_some, List.all_append, h, List.all_cons, h2, List.all_nil]; rfl
theorem ok_no {cs : List C7} {k : Nat} {c : C7} (hc : cs[k]? = some c) (h2 : c.ok = false) : cs.all C7.ok = false := by
  rw [List.all_eq_false]
  exact ⟨c, List.mem_of_getElem? hc, by simp [h2]⟩
set_option maxHeartbeats 600000 in
set_option maxRecDepth 100000 in
theorem cRight (b o cap : Nat) (a : Option Addr) (cs : List C7) (ha : 0 < cs.length → a = some ⟨b, o, none⟩) (hl : cs.length ≤ 100000) (w : World) (h : CmsAt w b o cs) (hb : 0 < cs.length → b < w.heap.size) : Calls Try.prog 48 #[.slice a cs.length cap] w fun e w' => e = .returned (.bool (cs.all C7.ok)) ∧ Below w.heap.size w w' := by
  go_enter Try.func48, Try.ntmps48
  go_wp2
  go_loopw [7] (fun i wr => ∃ k : Nat, k ≤ cs.length ∧ i = .int .i64 k ∧ Hid ((cs.take k).all C7.ok = true) ∧ Below w.heap.size w wr) (fun i _ => cs.length - (intOf i).toNat)
  case atStart => exact ⟨0, Nat.zero_le _, rfl, rfl, Below.refl _ _⟩
  case round =>
    obtain ⟨k, hk, rfl, hak, hB⟩ := hrel
    by_cases hlt : k < cs.length
    · obtain rfl := ha (by omega)
      obtain ⟨c, hc⟩ : ∃ c, cs[k]? = some c := ⟨cs[k], List.getElem?_eq_getElem hlt⟩
      have hbw := hb (by omega)
      obtain ⟨c0, c1, c2, c3, c4, c5, c6⟩ := (h.on hB hbw).at hc
      have HC := hid hc
      clear hc
      rcases hm : c.ok with _ | _
      · have hM := fun W => cMayBe c.i c.k c.s c.t c.d c.p c.q W
        rw [show oneB c.i c.k c.s c.t c.d c.p c.q = false from hm] at hM
        have HM := hid hm
        clear hm
        go_wp2_with (go_at_call 64; refine (hM _).mono ?_; rintro e w1 ⟨rfl, hb1⟩)
        go_ret
        exact ⟨ret_bool (ok_no HC.out HM.out).symm, (hB.alloc hB.size _).trans (hb1.mono (by have := hB.size; simp; omega))⟩
      · have hM := fun W => cMayBe c.i c.k c.s c.t c.d c.p c.q W
        rw [show oneB c.i c.k c.s c.t c.d c.p c.q = true from hm] at hM
        have HM := hid hm
        clear hm
        go_wp2_with (go_at_call 64; refine (hM _).mono ?_; rintro e w1 ⟨rfl, hb1⟩)
        go_roundw
        case rel => exact ⟨k + 1, by omega, by go_num, ok_next hak.out HC.out HM.out, (hB.alloc hB.size _).trans (hb1.mono (by have := hB.size; simp; omega))⟩
        case measure => simp [intOf]; omega
    · have HE : Hid (cs.all C7.ok = true) := by
        have := hak.out
        rw [List.take_of_length_le (by omega)] at this
        exact this
      go_wp2
      go_ret
      exact ⟨ret_bool HE.out.symm, hB⟩
set_option maxHeartbeats 600000 in
set_option maxRecDepth 100000 in
theorem rRights (b o cap : Nat) (a : Option Addr) (cs : List C7) (ha : 0 < cs.length → a = some ⟨b, o, none⟩) (hl : cs.length ≤ 100000) (w : World) (h : CmsAt w b o cs) (hb : 0 < cs.length → b < w.heap.size) : Calls Try.prog 57 #[.slice a cs.length cap] w fun e w' => e = .returned (.bool (cs.all C7.ok)) ∧ Below w.heap.size w w' := by
  go_enter Try.func57, Try.ntmps57
  go_wp2
  go_loopw [3] (fun i wr => ∃ k : Nat, k ≤ cs.length ∧ i = .int .i64 k ∧ Hid ((cs.take k).all C7.ok = true) ∧ Below w.heap.size w wr) (fun i _ => cs.length - (intOf i).toNat)
  case atStart => exact ⟨0, Nat.zero_le _, rfl, rfl, Below.refl _ _⟩
  case round =>
    obtain ⟨k, hk, rfl, hak, hB⟩ := hrel
    by_cases hlt : k < cs.length
    · obtain rfl := ha (by omega)
      obtain ⟨c, hc⟩ : ∃ c, cs[k]? = some c := ⟨cs[k], List.getElem?_eq_getElem hlt⟩
      have hbw := hb (by omega)
      obtain ⟨c0, c1, c2, c3, c4, c5, c6⟩ := (h.on hB hbw).at hc
      have HC := hid hc
      clear hc
      rcases hm : c.ok with _ | _
      · have hM := fun W => rOne c.i c.k c.s c.t c.d c.p c.q W
        rw [show oneB c.i c.k c.s c.t c.d c.p c.q = false from hm] at hM
        have HM := hid hm
        clear hm
        go_wp2_with (go_at_call 51; refine (hM _).mono ?_; rintro e w1 ⟨rfl, hb1⟩)
        go_ret
        exact ⟨ret_bool (ok_no HC.out HM.out).symm, hB.trans (hb1.mono hB.size)⟩
      · have hM := fun W => rOne c.i c.k c.s c.t c.d c.p c.q W
        rw [show oneB c.i c.k c.s c.t c.d c.p c.q = true from hm] at hM
        have HM := hid hm
        clear hm
        go_wp2_with (go_at_call 51; refine (hM _).mono ?_; rintro e w1 ⟨rfl, hb1⟩)
        go_roundw
        case rel => exact ⟨k + 1, by omega, by go_num, ok_next hak.out HC.out HM.out, hB.trans (hb1.mono hB.size)⟩
        case measure => simp [intOf]; omega
    · have HE : Hid (cs.all C7.ok = true) := by
        have := hak.out
        rw [List.take_of_length_le (by omega)] at this
        exact this
      go_wp2
      go_ret
      exact ⟨ret_bool HE.out.symm, hB⟩
end Go.Proofs.Ytbcmhnaiabifjaa

/- Whether commands are a set: the program's Right, and the document's. -/
import Derived.Test.YtmndjdaiailgmaaMem
import Derived.Deep.QuietTactic
import Derived.BigQuiet
namespace Go.Proofs.Ytmndjdaiailgmaa
set_option linter.unusedVariables false
open Go.RowKit
open Go.Lib (hid)

theorem rise_next {cs : List C7} {k : Nat} {x y : C7} (h : RiseTo cs k) (hx : cs[k - 1]? = some x) (hy : cs[k]? = some y) (hlt : x.i < y.i) : RiseTo cs (k + 1) := fun j h1 hj u z hu hz => by
  by_cases e : j = k
  · subst e; rw [hx] at hu; rw [hy] at hz; rw [← Option.some.inj hu, ← Option.some.inj hz]; exact hlt
  · exact h j h1 (by omega) u z hu hz
theorem rise_short {cs : List C7} (h : cs.length ≤ 1) : risesB cs = true := RiseTo.yes fun j h1 hj => by omega
theorem rise_one (cs : List C7) : RiseTo cs 1 := fun j h1 hj => by omega
theorem CmsAt.prev {w : World} {b o : Nat} {cs : List C7} (h : CmsAt w b o cs) {j : Nat} {c : C7} (hj : 1 ≤ j) (hc : cs[j - 1]? = some c) : w.cell? ⟨b, o + (j - 1) * 7, none⟩ = some (.int .i64 c.i) := (h.at hc).1

set_option maxHeartbeats 600000 in
set_option maxRecDepth 100000 in
theorem cSetRight {v : Value} {cs : List C7} {w : World} (h : Sl w v cs) (hl : cs.length ≤ 1024) : Calls Try.prog 66 #[v] w fun e w' => e = .returned (.bool (setB cs)) ∧ Below w.heap.size w w' := by
  have hR := cRight' h (by omega)
  obtain ⟨b, o, cap, a, rfl, hn, ha, hc, hb⟩ := h
  rcases hok : cs.all C7.ok with _ | _
  · rw [hok] at hR
    have HS := hid (show setB cs = false from by unfold setB; rw [hok]; simp)
    clear hok
    go_enter Try.func66, Try.ntmps66
    go_wp2_with (go_at_call 17; refine hR.mono ?_; rintro e w' ⟨rfl, hB⟩)
    go_ret
    exact ⟨ret_bool HS.out.symm, hB⟩
  · rw [hok] at hR
    have HS := hid (show setB cs = risesB cs from by unfold setB; rw [hok, decide_eq_true hl]; simp)
    clear hok
    go_enter Try.func66, Try.ntmps66
    go_wp2_with (go_at_call 17; refine hR.mono ?_; rintro e w' ⟨rfl, hB'⟩)
    go_loopw [3] (fun i wr => ∃ k : Nat, 1 ≤ k ∧ (k ≤ cs.length ∨ k = 1) ∧ i = .int .i64 k ∧ Hid (RiseTo cs k) ∧ Below w.heap.size w wr) (fun i _ => cs.length - (intOf i).toNat)
    case atStart => exact ⟨1, Nat.le_refl _, .inr rfl, rfl, rise_one _, hB'⟩
    case round =>
      clear hB'
      obtain ⟨k, h1k, hk, rfl, hak, hB⟩ := hrel
      by_cases hlt : k < cs.length
      · obtain rfl := ha (by omega)
        obtain ⟨m, rfl⟩ : ∃ m, k = m + 1 := ⟨k - 1, by omega⟩
        obtain ⟨x, hx⟩ : ∃ x, cs[m]? = some x := ⟨cs[m], List.getElem?_eq_getElem (by omega)⟩
        obtain ⟨y, hy⟩ : ∃ y, cs[m + 1]? = some y := ⟨cs[m + 1], List.getElem?_eq_getElem hlt⟩
        have hbw := hb (by omega)
        have c0 := ((hc.on hB hbw).at hx).1
        have d0 := ((hc.on hB hbw).at hy).1
        have HX := hid (And.intro hx hy)
        have HB := hid hB
        clear hx hy hB
        by_cases hxy : x.i < y.i
        · have HI := hid hxy
          go_wp2
          go_quiet (fail)
          go_wp2
          go_roundw
          case rel => exact ⟨m + 1 + 1, by omega, .inl (by omega), by go_num, rise_next hak.out HX.out.1 HX.out.2 HI.out, Below.drewN' HB.out _⟩
          case measure => simp [intOf]; omega
        · have HI := hid hxy
          go_wp2
          go_quiet (fail)
          go_wp2
          go_ret
          exact ⟨ret_bool (HS.out.trans (rises_no (k := m + 1) HX.out.1 HX.out.2 (by omega) HI.out)).symm, Below.drewN' HB.out _⟩
      · have HE : Hid (risesB cs = true) := by
          rcases hk with hk | hk
          · have : k = cs.length := by omega
            exact RiseTo.yes (this ▸ hak.out)
          · exact rise_short (by omega)
        clear hk
        go_wp2
        go_ret
        exact ⟨ret_bool (HS.out.trans HE.out).symm, hB⟩

set_option maxHeartbeats 600000 in
set_option maxRecDepth 100000 in
theorem rSetRight {v : Value} {cs : List C7} {w : World} (h : Sl w v cs) (hl : cs.length ≤ 1024) : Calls Try.prog 77 #[v] w fun e w' => e = .returned (.bool (setB cs)) ∧ Below w.heap.size w w' := by
  have HH := hid h
  obtain ⟨b, o, cap, a, rfl, hn, ha, hc, hb⟩ := h
  go_enter Try.func77, Try.ntmps77
  go_wp2
  go_loopw [3] (fun i wr => ∃ k : Nat, 1 ≤ k ∧ (k ≤ cs.length ∨ k = 1) ∧ i = .int .i64 k ∧ Hid (RiseTo cs k) ∧ Below w.heap.size w wr) (fun i _ => cs.length - (intOf i).toNat)
  case atStart => exact ⟨1, Nat.le_refl _, .inr rfl, rfl, rise_one _, Below.refl _ _⟩
  case round =>
    obtain ⟨k, h1k, hk, rfl, hak, hB⟩ := hrel
    by_cases hlt : k < cs.length
    · obtain rfl := ha (by omega)
      obtain ⟨m, rfl⟩ : ∃ m, k = m + 1 := ⟨k - 1, by omega⟩
      obtain ⟨x, hx⟩ : ∃ x, cs[m]? = some x := ⟨cs[m], List.getElem?_eq_getElem (by omega)⟩
      obtain ⟨y, hy⟩ : ∃ y, cs[m + 1]? = some y := ⟨cs[m + 1], List.getElem?_eq_getElem hlt⟩
      have hbw := hb (by omega)
      have c0 := ((hc.on hB hbw).at hx).1
      have d0 := ((hc.on hB hbw).at hy).1
      have HX := hid (And.intro hx hy)
      have HB := hid hB
      clear hx hy hB
      by_cases hxy : x.i < y.i
      · have HI := hid hxy
        go_wp2
        go_quiet (fail)
        go_wp2
        go_roundw
        case rel => exact ⟨m + 1 + 1, by omega, .inl (by omega), by go_num, rise_next hak.out HX.out.1 HX.out.2 HI.out, Below.drewN' HB.out _⟩
        case measure => simp [intOf]; omega
      · have HI := hid hxy
        go_wp2
        go_quiet (fail)
        go_wp2
        go_ret
        exact ⟨ret_bool (by unfold setB; rw [rises_no (k := m + 1) HX.out.1 HX.out.2 (by omega) HI.out]; simp), Below.drewN' HB.out _⟩
    · have HE : Hid (risesB cs = true) := by
        rcases hk with hk | hk
        · have : k = cs.length := by omega
          exact RiseTo.yes (this ▸ hak.out)
        · exact rise_short (by omega)
      clear hk
      have hR := rRights' (HH.out.on hB) (by omega)
      rcases hok : cs.all C7.ok with _ | _
      · rw [hok] at hR
        have HS := hid (show setB cs = false from by unfold setB; rw [hok]; simp)
        clear hok
        go_wp2_with (go_at_call 87; refine hR.mono ?_; rintro e w' ⟨rfl, hB'⟩)
        go_ret
        exact ⟨ret_bool HS.out.symm, hB.trans (hB'.mono hB.size)⟩
      · rw [hok] at hR
        have HS := hid (show setB cs = true from by unfold setB; rw [hok, HE.out, decide_eq_true hl]; rfl)
        clear hok
        go_wp2_with (go_at_call 87; refine hR.mono ?_; rintro e w' ⟨rfl, hB'⟩)
        go_ret
        exact ⟨ret_bool (by rw [HS.out]; exact decide_eq_true (by omega)), hB.trans (hB'.mono hB.size)⟩
end Go.Proofs.Ytmndjdaiailgmaa

/- The contracts of Find, the document's and the program's. -/
import Derived.Test.YtpocfhcdffobhaaMem
namespace Go.Proofs.Ytpocfhcdffobhaa
open Go.RowKit
open Go.Lib (hid)

theorem place_none {l : List C7} {k : Nat} (hk : l.length ≤ k) {id : Int} (h : ∀ j, j < k → ∀ c, l[j]? = some c → c.i ≠ id) : placeI l id = none := placeI_nowhere fun j hj => h j (by omega)
theorem not_next {l : List C7} {k : Nat} {id : Int} (h : ∀ j, j < k → ∀ c, l[j]? = some c → c.i ≠ id) {c : C7} (hc : l[k]? = some c) (hi : ¬ c.i = id) : ∀ j, j < k + 1 → ∀ c, l[j]? = some c → c.i ≠ id := fun j hj d hd => by
  by_cases e : j = k
  · subst e; rw [hc] at hd; rw [← Option.some.inj hd]; exact hi
  · exact h j (by omega) d hd

theorem placeV_some {l : List C7} {id : Int} {k : Nat} (h : placeI l id = some k) : placeV l id = (k : Int) := by unfold placeV; rw [h]
theorem placeV_none {l : List C7} {id : Int} (h : placeI l id = none) : placeV l id = -1 := by unfold placeV; rw [h]

set_option maxHeartbeats 600000 in
set_option maxRecDepth 100000 in
theorem rFind {v : Value} {cs : List C7} {w : World} (h : Sl w v cs) (hl : cs.length ≤ 100000) (id : Int) : Calls Try.prog 12 #[v, .int .i64 id] w fun e w' => e = .returned (.int .i64 (placeV cs id)) ∧ w = w' := by
  obtain ⟨b, o, cap, a, rfl, hn, ha, hc, hb⟩ := h
  go_enter Try.func12, Try.ntmps12
  go_wp2
  go_loopw [5] (fun i wr => ∃ k : Nat, k ≤ cs.length ∧ i = .int .i64 k ∧ Hid (∀ j, j < k → ∀ c, cs[j]? = some c → c.i ≠ id) ∧ wr = w) (fun i _ => cs.length - (intOf i).toNat)
  case atStart => exact ⟨0, Nat.zero_le _, rfl, fun j hj => absurd hj (by omega), rfl⟩
  case round =>
    obtain ⟨k, hk, rfl, hak, rfl⟩ := hrel
    by_cases hlt : k < cs.length
    · obtain rfl := ha (by omega)
      obtain ⟨c, hcc⟩ : ∃ c, cs[k]? = some c := ⟨cs[k], List.getElem?_eq_getElem hlt⟩
      have hbw := hb (by omega)
      obtain ⟨c0, _, _, _, _, _, _⟩ := hc.at hcc
      have HC := hid hcc
      clear hcc
      by_cases hi : c.i = id
      · have HI := hid hi
        have HS : Hid (placeV cs id = (k : Int)) := placeV_some (placeI_first hak.out HC.out hi)
        go_wp2
        go_ret
        exact ⟨ret_int HS.out.symm, rfl⟩
      · have HI := hid hi
        go_wp2
        go_roundw
        case rel => exact ⟨k + 1, by omega, by go_num, not_next hak.out HC.out HI.out, by first | rfl | trivial⟩
        case measure => simp [intOf]; omega
    · have HS : Hid (placeV cs id = -1) := placeV_none (place_none (by omega) hak.out)
      go_wp2
      go_ret
      exact ⟨ret_int HS.out.symm, rfl⟩

def foundC (cs : List C7) (id : Int) : C7 := match placeI cs id with | some k => (cs[k]?).getD default | none => default
def foundB (cs : List C7) (id : Int) : Bool := (placeI cs id).isSome
theorem found_some {cs : List C7} {id : Int} {k : Nat} {c : C7} (h : placeI cs id = some k) (hc : cs[k]? = some c) : foundC cs id = c ∧ foundB cs id = true := by
  unfold foundC foundB; rw [h]; simp [hc]
theorem found_none {cs : List C7} {id : Int} (h : placeI cs id = none) : foundC cs id = default ∧ foundB cs id = false := by
  unfold foundC foundB; rw [h]; simp

theorem box7 {w wr : World} (hB : Below (w.heap.size + 1) (w.alloc (.cells #[.int .i64 0, .int .i64 0, .int .i64 0, .int .i64 0, .int .i64 0, .int .i64 0, .int .i64 0] 34)) wr) :
    (w.heap.size < wr.heap.size) ∧ (∀ f, f < 7 → wr.cell? ⟨w.heap.size, f, none⟩ = some (.int .i64 0)) ∧ (∀ f, wr.frozen? ⟨w.heap.size, f, none⟩ = false) := by
  have hs := hB.size
  refine ⟨by simp at hs; omega, fun f hf => ?_, fun f => ?_⟩
  · rw [hB.cell (p := ⟨w.heap.size, f, none⟩) (by show w.heap.size < w.heap.size + 1; omega)]
    match f, hf with
    | 0, _ => simp [go_sem]
    | 1, _ => simp [go_sem]
    | 2, _ => simp [go_sem]
    | 3, _ => simp [go_sem]
    | 4, _ => simp [go_sem]
    | 5, _ => simp [go_sem]
    | 6, _ => simp [go_sem]
  · rw [hB.frozen (p := ⟨w.heap.size, f, none⟩) (by show w.heap.size < w.heap.size + 1; omega)]
    simp [go_sem]
abbrev cmB (c : C7) (b : Bool) : Value := .tuple #[c.v, .bool b]
set_option maxHeartbeats 600000 in
set_option maxRecDepth 100000 in
theorem cFind {v : Value} {cs : List C7} {w : World} (h : Sl w v cs) (hl : cs.length ≤ 100000) (id : Int) : Calls Try.prog 11 #[v, .int .i64 id] w fun e w' => e = .returned (cmB (foundC cs id) (foundB cs id)) ∧ Below w.heap.size w w' := by
  obtain ⟨b, o, cap, a, rfl, hn, ha, hc, hb⟩ := h
  go_enter Try.func11, Try.ntmps11
  go_wp2
  go_loopw [10] (fun i wr => ∃ k : Nat, k ≤ cs.length ∧ i = .int .i64 k ∧ Hid (∀ j, j < k → ∀ c, cs[j]? = some c → c.i ≠ id) ∧ Below (w.heap.size + 1) (w.alloc (.cells #[.int .i64 0, .int .i64 0, .int .i64 0, .int .i64 0, .int .i64 0, .int .i64 0, .int .i64 0] 34)) wr) (fun i _ => cs.length - (intOf i).toNat)
  case atStart => exact ⟨0, Nat.zero_le _, rfl, fun j hj => absurd hj (by omega), Below.refl _ _⟩
  case round =>
    obtain ⟨k, hk, rfl, hak, hB⟩ := hrel
    obtain ⟨hsz, hcell, hfr⟩ := box7 hB
    have k0 := hcell 0 (by omega); have k1 := hcell 1 (by omega); have k2 := hcell 2 (by omega); have k3 := hcell 3 (by omega); have k4 := hcell 4 (by omega); have k5 := hcell 5 (by omega); have k6 := hcell 6 (by omega)
    clear hcell
    by_cases hlt : k < cs.length
    · obtain rfl := ha (by omega)
      obtain ⟨c, hcc⟩ : ∃ c, cs[k]? = some c := ⟨cs[k], List.getElem?_eq_getElem hlt⟩
      have hbw := hb (by omega)
      obtain ⟨c0, c1, c2, c3, c4, c5, c6⟩ := (hc.on (w' := wr) (B := w.heap.size) (((Below.refl _ w).alloc (Nat.le_refl _) _).trans (hB.mono (by omega))) hbw).at hcc
      have HC := hid hcc
      clear hcc
      by_cases hi : c.i = id
      · have HI := hid hi
        have HF : Hid (foundC cs id = c ∧ foundB cs id = true) := found_some (placeI_first hak.out HC.out hi) HC.out
        have HW := hid (((Below.refl w.heap.size w).alloc (Nat.le_refl _) (.cells #[.int .i64 0, .int .i64 0, .int .i64 0, .int .i64 0, .int .i64 0, .int .i64 0, .int .i64 0] 34)).trans (hB.mono (by omega)))
        go_wp2
        refine bodyPost_ret (v := cmB ⟨id, c.k, c.s, c.t, c.d, c.p, c.q⟩ true) (by simp [results, Try.results11, go_sem, hsz, World.size_setCell, k0, k1, k2, k3, k4, k5, k6]) rfl ⟨?_, ?_⟩
        · rw [HF.out.1, HF.out.2, ← HI.out]
        · exact Below.alloc (((((((HW.out.setCell (Nat.le_refl _) _).setCell (Nat.le_refl _) _).setCell (Nat.le_refl _) _).setCell (Nat.le_refl _) _).setCell (Nat.le_refl _) _).setCell (Nat.le_refl _) _).setCell (Nat.le_refl _) _) (by simp; omega) _
      · have HI := hid hi
        go_wp2
        go_roundw
        case rel => exact ⟨k + 1, by omega, by go_num, not_next hak.out HC.out HI.out, hB.alloc (by omega) _⟩
        case measure => simp [intOf]; omega
    · have HF : Hid (foundC cs id = default ∧ foundB cs id = false) := found_none (place_none (by omega) hak.out)
      have HW := hid (((Below.refl w.heap.size w).alloc (Nat.le_refl _) (.cells #[.int .i64 0, .int .i64 0, .int .i64 0, .int .i64 0, .int .i64 0, .int .i64 0, .int .i64 0] 34)).trans (hB.mono (by omega)))
      go_wp2
      refine bodyPost_ret (v := cmB ⟨0, 0, 0, 0, 0, 0, 0⟩ false) (by simp [results, Try.results11, go_sem, k0, k1, k2, k3, k4, k5, k6]) rfl ⟨?_, ?_⟩
      · rw [HF.out.1, HF.out.2]; rfl
      · exact ((((((HW.out.setCell (Nat.le_refl _) _).setCell (Nat.le_refl _) _).setCell (Nat.le_refl _) _).setCell (Nat.le_refl _) _).setCell (Nat.le_refl _) _).setCell (Nat.le_refl _) _).setCell (Nat.le_refl _) _
end Go.Proofs.Ytpocfhcdffobhaa

/- Whether two commands, and two lists of them, are the same: the model's comparison of commands; the document's Same, the program's, and has. -/
import Derived.Test.YtpocfhcdffobhaaMem
import Derived.Laws.StructEq
import Derived.Deep.QuietTactic
import Derived.BigQuiet
namespace Go.Proofs.Ytpocfhcdffobhaa
open Go.RowKit
open Go.Lib (hid)

theorem equalC (a b : C7) (w : World) : Sem.run Try.prog (Op.equalIn 10000 34 a.v b.v) w = .ok (a.same b) w := by
  have u3 := Try.underlying3
  have a3 := Try.isAgg3
  have z3 := Try.sizeOf3
  have u31 := Try.underlying31
  have a31 := Try.isAgg31
  have z31 := Try.sizeOf31
  have u32 := Try.underlying32
  have a32 := Try.isAgg32
  have z32 := Try.sizeOf32
  have hS : Try.prog.underlying 34 = some (.struct (Try.prog.fieldsOf 34)) := by kernel_rfl
  have hp : Try.prog.stoodInHeld 34 = false := by kernel_rfl
  simp only [C7.v, cmV]
  rw [show (10000 : Nat) = 9999 + 1 from rfl, run_equalIn_agg w 9999 34 _ _ hS hp]
  simp only [Program.fieldsOf, Try.underlying34]
  go_simp
  unfold C7.same
  by_cases h1 : a.i = b.i
  · by_cases h2 : a.k = b.k
    · by_cases h3 : a.s = b.s
      · by_cases h4 : a.t = b.t
        · by_cases h5 : a.d = b.d
          · by_cases h6 : a.p = b.p
            · by_cases h7 : a.q = b.q
              · simp [h1, h2, h3, h4, h5, h6, h7]
              · simp [h1, h2, h3, h4, h5, h6, h7]
            · simp [h1, h2, h3, h4, h5, h6]
          · simp [h1, h2, h3, h4, h5]
        · simp [h1, h2, h3, h4]
      · simp [h1, h2, h3]
    · simp [h1, h2]
  · simp [h1]

theorem eqlC {a b : C7} {r : Bool} (h : a.same b = r) (w : World) : Sem.run Try.prog (binOp .eql 34 a.v b.v) w = .ok (.bool r) w := by
  rw [C7.v, C7.v, cmV, cmV, run_eql_struct]
  have := equalC a b w
  rw [C7.v, C7.v, cmV, cmV] at this
  rw [this, h]; rfl
theorem neqC {a b : C7} {r : Bool} (h : a.same b = r) (w : World) : Sem.run Try.prog (binOp .neq 34 a.v b.v) w = .ok (.bool (!r)) w := by
  rw [C7.v, C7.v, cmV, cmV, run_neq_struct]
  have := equalC a b w
  rw [C7.v, C7.v, cmV, cmV] at this
  rw [this, h]; rfl
theorem guardC (op : BinOp) (x y : Operand) (a b : C7) (w : World) : Sem.run Try.prog (eqGuard op 34 x y a.v b.v) w = .ok () w := run_eqGuard_agg w op 34 x y _ _ (by kernel_rfl)

/-- The commands from an address on, one of them. -/
theorem Sl.open {w : World} {v : Value} {cs : List C7} (h : Sl w v cs) : ∃ (b o cap : Nat) (a : Option Addr), v = .slice a cs.length cap ∧ (0 < cs.length → a = some ⟨b, o, none⟩) ∧ CmsAt w b o cs ∧ (0 < cs.length → b < w.heap.size) := by
  obtain ⟨b, o, cap, a, hv, _, ha, hc, hb⟩ := h
  exact ⟨b, o, cap, a, hv, ha, hc, hb⟩

def hasB (cs : List C7) (c : C7) : Bool := cs.any fun x => x.same c
theorem has_iff {cs : List C7} {c : C7} : hasB cs c = true ↔ c ∈ cs := by
  unfold hasB
  rw [List.any_eq_true]
  exact ⟨fun ⟨x, hx, h⟩ => C7.same_iff.1 h ▸ hx, fun h => ⟨c, h, C7.same_iff.2 rfl⟩⟩
theorem has_yes {cs : List C7} {k : Nat} {x c : C7} (hx : cs[k]? = some x) (h : x.same c = true) : hasB cs c = true := List.any_eq_true.2 ⟨x, List.mem_of_getElem? hx, h⟩
theorem has_no {cs : List C7} {k : Nat} {c : C7} (hk : cs.length ≤ k) (h : ∀ j, j < k → ∀ x, cs[j]? = some x → x.same c = false) : hasB cs c = false := by
  unfold hasB
  rw [List.any_eq_false]
  intro x hx
  obtain ⟨j, hj⟩ := List.getElem?_of_mem hx
  rw [h j (by have := (List.getElem?_eq_some_iff.1 hj).1; omega) x hj]; simp
theorem unlike_next {l : List C7} {k : Nat} {P : Nat → C7 → Prop} (h : ∀ j, j < k → ∀ c, l[j]? = some c → P j c) {c : C7} (hc : l[k]? = some c) (hi : P k c) : ∀ j, j < k + 1 → ∀ c, l[j]? = some c → P j c := fun j hj d hd => by
  by_cases e : j = k
  · subst e; rw [hc] at hd; rw [← Option.some.inj hd]; exact hi
  · exact h j (by omega) d hd

set_option maxHeartbeats 600000 in
set_option maxRecDepth 100000 in
theorem rHas {v : Value} {cs : List C7} {w : World} (h : Sl w v cs) (hl : cs.length ≤ 100000) (c : C7) : Calls Try.prog 21 #[v, c.v] w fun e w' => e = .returned (.bool (hasB cs c)) ∧ Below w.heap.size w w' := by
  obtain ⟨b, o, cap, a, rfl, ha, hc, hb⟩ := h.open
  clear h
  go_enter Try.func21, Try.ntmps21
  go_wp2
  go_loopw [5] (fun i wr => ∃ k : Nat, k ≤ cs.length ∧ i = .int .i64 k ∧ Hid (∀ j, j < k → ∀ x, cs[j]? = some x → x.same c = false) ∧ Below (w.alloc (.cells c.cells.toArray 34)).heap.size (w.alloc (.cells c.cells.toArray 34)) wr) (fun i _ => cs.length - (intOf i).toNat)
  case atStart => exact ⟨0, Nat.zero_le _, rfl, fun j hj => absurd hj (by omega), Below.refl _ _⟩
  case round =>
    obtain ⟨k, hk, rfl, hak, hB0⟩ := hrel
    obtain ⟨hcell, hz, hB⟩ := box_cells hB0
    by_cases hlt : k < cs.length
    · obtain rfl := ha (by omega)
      obtain ⟨x, hxx⟩ : ∃ x, cs[k]? = some x := ⟨cs[k], List.getElem?_eq_getElem hlt⟩
      have hbw := hb (by omega)
      obtain ⟨c0, c1, c2, c3, c4, c5, c6⟩ := (hc.on hB hbw).at hxx
      have k0 : wr.cell? ⟨w.heap.size, 0, none⟩ = some (.int .i64 c.i) := hcell 0
      have k1 : wr.cell? ⟨w.heap.size, 1, none⟩ = some (.int .i64 c.k) := hcell 1
      have k2 : wr.cell? ⟨w.heap.size, 2, none⟩ = some (.int .i64 c.s) := hcell 2
      have k3 : wr.cell? ⟨w.heap.size, 3, none⟩ = some (.int .i64 c.t) := hcell 3
      have k4 : wr.cell? ⟨w.heap.size, 4, none⟩ = some (.int .i64 c.d) := hcell 4
      have k5 : wr.cell? ⟨w.heap.size, 5, none⟩ = some (.int .i64 c.p) := hcell 5
      have k6 : wr.cell? ⟨w.heap.size, 6, none⟩ = some (.int .i64 c.q) := hcell 6
      have HX := hid hxx
      have HB := hid (And.intro hB0 hB)
      clear hxx hcell hB0 hB
      rcases hs : x.same c with _ | _
      · have hE := eqlC hs
        have hG := fun op p q W => guardC op p q x c W
        have HS := hid hs
        clear hs
        go_wp2
        go_quiet (fail)
        go_wp2
        go_roundw
        case rel => exact ⟨k + 1, by omega, by go_num, unlike_next hak.out HX.out HS.out, Below.drewN' HB.out.1 _⟩
        case measure => simp [intOf]; omega
      · have hE := eqlC hs
        have hG := fun op p q W => guardC op p q x c W
        have HS := hid hs
        clear hs
        go_wp2
        go_quiet (fail)
        go_wp2
        go_ret
        exact ⟨ret_bool (has_yes HX.out HS.out).symm, Below.drewN' HB.out.2 _⟩
    · have HS : Hid (hasB cs c = false) := has_no (by omega) hak.out
      go_wp2
      go_ret
      exact ⟨ret_bool HS.out.symm, hB⟩
end Go.Proofs.Ytpocfhcdffobhaa

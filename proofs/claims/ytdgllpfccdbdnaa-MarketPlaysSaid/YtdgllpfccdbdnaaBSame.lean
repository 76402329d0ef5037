/- The document's SameReply, of two replies that are the same. -/
import Derived.Test.YtdgllpfccdbdnaaBOps
import Derived.Laws.StructEq
namespace Go.Proofs.Ytdgllpfccdbdnaa
set_option linter.unusedVariables false
open Go.RowKit
theorem belowDrewN {B : Nat} {w W : World} (h : Below B w W) (n : Nat) : Below B w (W.drewN n) := ⟨h.1, h.2, h.3, h.4, h.5⟩
open Go.Lib (hid)

theorem equalF (a : Fl) (w : World) : Sem.run Try.prog (Op.equalIn 10000 55 a.v a.v) w = .ok true w := by
  have u3 := Try.underlying3
  have a3 := Try.isAgg3
  have z3 := Try.sizeOf3
  have hS : Try.prog.underlying 55 = some (.struct (Try.prog.fieldsOf 55)) := by kernel_rfl
  have hp : Try.prog.stoodInHeld 55 = false := by kernel_rfl
  simp only [Fl.v]
  rw [show (10000 : Nat) = 9999 + 1 from rfl, run_equalIn_agg w 9999 55 _ _ hS hp]
  simp only [Program.fieldsOf, Try.underlying55]
  go_simp
theorem neqF (a : Fl) (w : World) : Sem.run Try.prog (binOp .neq 55 a.v a.v) w = .ok (.bool false) w := by
  rw [Fl.v, run_neq_struct]
  have := equalF a w
  rw [Fl.v] at this
  rw [this]; rfl
theorem guardF (op : BinOp) (x y : Operand) (a b : Fl) (w : World) : Sem.run Try.prog (eqGuard op 55 x y a.v b.v) w = .ok () w := run_eqGuard_agg w op 55 x y _ _ (by kernel_rfl)

set_option maxHeartbeats 3200000 in
set_option maxRecDepth 100000 in
theorem rSame {w : World} {C D : Nat} {v1 v2 : Value} {fs : List Fl} (h1 : OwnF w C v1 fs) (h2 : OwnF w D v2 fs) (hl : fs.length ≤ 8) (e n : Int) :
    Calls Try.prog 9 #[rpV e v1 n, rpV e v2 n] w fun e w' => e = .returned (.bool true) ∧ Below w.heap.size w w' := by
  have sh : ∀ {C : Nat} {v : Value}, OwnF w C v fs → ∀ k x, fs[k]? = some x → ∃ g a cap, v = .slice (some ⟨g, 0, none⟩) a cap ∧ g < w.heap.size ∧ w.cell? ⟨g, k * 3, none⟩ = some (.int .i64 x.i) ∧ w.cell? ⟨g, k * 3 + 1, none⟩ = some (.int .i64 x.p) ∧ w.cell? ⟨g, k * 3 + 2, none⟩ = some (.int .i64 x.q) := fun h k x hk => by
    rcases h.shape with ⟨_, e⟩ | ⟨g, cap', e, _, _, _, hg, hc, _⟩
    · rw [e] at hk; simp at hk
    · exact ⟨g, _, cap', e, hg, hc k x hk⟩
  have S1 := hid (sh h1)
  have S2 := hid (sh h2)
  obtain ⟨a, cap, m, rfl, hm⟩ := h1.asSlice
  obtain ⟨a2, cap2, m2, rfl, hm2⟩ := h2.asSlice
  obtain rfl : m2 = m := by omega
  have HM := hid hm
  have hm8 : m2 ≤ 8 := by omega
  obtain ⟨W, hW⟩ : ∃ W, W = (w.alloc (.cells #[.int .i64 e, .slice a m2 cap, .int .i64 n] 37)).alloc (.cells #[.int .i64 e, .slice a2 m2 cap2, .int .i64 n] 37) := ⟨_, rfl⟩
  have HB : Hid (Below w.heap.size w W) := hid (by rw [hW]; exact ((Below.refl _ w).alloc (Nat.le_refl _) _).alloc (by simp) _)
  have b1 : W.heap[w.heap.size]? = some (.cells #[.int .i64 e, .slice a m2 cap, .int .i64 n] 37 (0, 0)) := by rw [hW]; exact obAlloc (heap_alloc_new w _)
  have b2 : W.heap[w.heap.size + 1]? = some (.cells #[.int .i64 e, .slice a2 m2 cap2, .int .i64 n] 37 (0, 0)) := by
    rw [hW, show w.heap.size + 1 = (w.alloc (.cells #[.int .i64 e, .slice a m2 cap, .int .i64 n] 37)).heap.size by simp]; exact heap_alloc_new _ _
  have k0 := cellAt' b1 0; have k1 := cellAt' b1 1; have k2 := cellAt' b1 2
  have j0 := cellAt' b2 0; have j1 := cellAt' b2 1; have j2 := cellAt' b2 2
  simp at k0 k1 k2 j0 j1 j2
  have hz := (Array.getElem?_eq_some_iff.1 b2).1
  have HW := hid hW
  clear h1 h2 sh hm hl hm2 b1 b2 hW
  go_enter Try.func9, Try.ntmps9
  go_wp2_with fail
  go_loopg [5] m2 (fun gg s5 wr => ∃ (j q : Nat), j ≤ m2 ∧ m2 - j ≤ gg ∧ s5 = .int .i64 j ∧ wr = W.drewN q)
  case atStart => exact ⟨0, 0, by omega, by omega, rfl, by rw [HW.out]; rfl⟩
  case round =>
    obtain ⟨j, q, hj, hgg, rfl, rfl⟩ := hrel
    by_cases hlt : j < m2
    · have hltz : (j : Int) < (m2 : Int) := by omega
      obtain ⟨x, hx⟩ : ∃ x, fs[j]? = some x := ⟨fs[j]'(by rw [← HM.out]; exact hlt), List.getElem?_eq_getElem (by rw [← HM.out]; exact hlt)⟩
      obtain ⟨g, a', c', e1, hg, x0, x1, x2⟩ := S1.out j x hx
      obtain ⟨g', a2', c2', e2, hg', y0, y1, y2⟩ := S2.out j x hx
      injection e1 with e3 _ _
      injection e2 with e4 _ _
      subst e3 e4
      have d0 := (HB.out.cell (p := ⟨g, j * 3, none⟩) hg).trans x0
      have d1 := (HB.out.cell (p := ⟨g, j * 3 + 1, none⟩) hg).trans x1
      have d2 := (HB.out.cell (p := ⟨g, j * 3 + 2, none⟩) hg).trans x2
      have f0 := (HB.out.cell (p := ⟨g', j * 3, none⟩) hg').trans y0
      have f1 := (HB.out.cell (p := ⟨g', j * 3 + 1, none⟩) hg').trans y1
      have f2 := (HB.out.cell (p := ⟨g', j * 3 + 2, none⟩) hg').trans y2
      have hE := neqF x
      have hG := fun op p q W => guardF op p q x x W
      clear hx x0 x1 x2 y0 y1 y2
      go_wp2_with fail
      go_quiet (fail)
      go_wp2_with fail
      go_roundg (m2 - (j + 1))
      case measure => omega
      case rel => exact ⟨j + 1, _, by omega, by omega, by go_num, rfl⟩
    · have hltz : ¬ (j : Int) < (m2 : Int) := by omega
      go_wp2_with fail
      go_ret
      exact ⟨rfl, belowDrewN HB.out _⟩
end Go.Proofs.Ytdgllpfccdbdnaa

/- What fills turn over, as floats. -/
import Derived.Test.YtdgllpfccdbdnaaKClone
import Derived.Test.YtdgllpfccdbdnaaKFloat
namespace Go.Proofs.Ytdgllpfccdbdnaa
set_option linter.unusedVariables false
open Go.RowKit
open Go.Lib (hid)

abbrev cxV (a b : Nat) : Value := .complex .f64 (FN a) (FN b)
theorem run_cadd {a b c d : Nat} (h : a + c < 9007199254740992) (k : b + d < 9007199254740992) (w : World) : (binOp .add 57 (cxV a b) (cxV c d)).run Try.prog w = .ok (cxV (a + c) (b + d)) w :=
  run_complex_sum w .add (.inl rfl) _ .f64 _ _ _ _ _ _ (by unfold cSumBits; rw [fn_add h, fn_add k]; rfl)
theorem run_toI {a : Nat} (h : a < 9007199254740992) (w : World) : (convert 77 3 (.float .f64 (FN a))).run Try.prog w = .ok (.int .i64 a) w :=
  run_convert_float_int w _ _ .f64 .i64 (FN a) a (by kernel_rfl) Try.underlying3 (fn_int h)
theorem run_toF {x : Int} (h : 0 ≤ x) (w : World) : (convert 3 77 (.int .i64 x)).run Try.prog w = .ok (.float .f64 (FN x.toNat)) w := by
  have := run_convert_int_float (P := Try.prog) w 3 77 .i64 .f64 x (by kernel_rfl) (by kernel_rfl)
  rw [this, ← floatOfInt_nat]
  rw [show ((x.toNat : Nat) : Int) = x by omega]
theorem wp_max_run {P : Program} (w : World) {o : Oper} {a : Act} {K : Act → World → Prop} {Q : Exit → Act → World → Prop} (d s : Operand) (t t' : TypeId)
    (ho : o.op = .call { callee := .builtin .max, args := #[d, s], argTypes := #[t, t'] }) (v u : Value) (hd : a.eval d = v) (hs : a.eval s = u) {v' : Value} {w' : World}
    (hr : (Builtin.max_ #[t, t'] o.type #[v, u]).run P w = .ok v' w') (h : K (a.put o.dst v') w') : o.wp P a w K Q := by
  unfold Oper.wp execOp
  simp only [ho, resolve, invoke, builtin, Sem.run_bind, Sem.run_pure, Result.andThen_ok, List.map_toArray, List.map_cons, List.map_nil, hd, hs, hr]
  exact h
theorem wpList_max_run {P : Program} (w : World) {ops : Array Oper} {rest : List Oper} {o : Oper} {a : Act} {Q : Exit → Act → World → Prop} (hgd : o.guard = none) (d s : Operand) (t t' : TypeId)
    (ho : o.op = .call { callee := .builtin .max, args := #[d, s], argTypes := #[t, t'] }) (v u : Value) (hd : a.eval d = v) (hs : a.eval s = u) {v' : Value} {w' : World}
    (hr : (Builtin.max_ #[t, t'] o.type #[v, u]).run P w = .ok v' w') (h : wpList P ops Q rest (a.put o.dst v') w') : wpList P ops Q (o :: rest) a w :=
  wpList_plain hgd fun _ hK => wp_max_run w d s t t' ho v u hd hs hr (hK _ _ h)
def overB (a b : Nat) : Bool := decide (1099511627776 < a ∨ 1099511627776 < b)
theorem run_over {a b : Nat} (ha : a < 9007199254740992) (hb : b < 9007199254740992) : (FloatKind.f64.format.order (FN (max a b)) 4787326403894837248 == some .gt) = overB a b := by
  rw [← fn_most, fn_order (by omega) (by omega)]
  unfold overB
  by_cases h : 1099511627776 < max a b
  · rw [Nat.compare_eq_gt.2 h, decide_eq_true (by omega)]; rfl
  · rw [decide_eq_false (by omega)]
    rcases Nat.lt_or_eq_of_le (Nat.le_of_not_lt h) with h1 | h1
    · rw [Nat.compare_eq_lt.2 h1]; rfl
    · rw [Nat.compare_eq_eq.2 h1]; rfl

set_option maxHeartbeats 1600000 in
set_option maxRecDepth 100000 in
theorem cOver (q a b : Nat) (ha : a < 9007199254740992) (hb : b < 9007199254740992) (w : World) : Calls Try.prog 22 #[.agg #[ptr q, cxV a b]] w fun e w' => e = .returned (.bool (overB a b)) ∧ Below w.heap.size w w' := by
  have HG := hid (run_over ha hb)
  have hM := (fun t w => run_max_fn (P := Try.prog) #[77, 77] t a b ha hb w)
  clear ha hb
  go_enter Try.func22, Try.ntmps22
  go_wp2_with fail
  go_ret
  exact ⟨ret_bool HG.out, (Below.refl _ _).alloc (Nat.le_refl _) _⟩

/-- Fills that may be. -/
def FlOk (fs : List Fl) : Prop := ∀ f ∈ fs, 1 ≤ f.p ∧ f.p ≤ 1048576 ∧ 1 ≤ f.q ∧ f.q ≤ 1048576
def volF (fs : List Fl) : Nat := (fs.map fun f => f.q.toNat).sum
def valF (fs : List Fl) : Nat := (fs.map fun f => (f.p * f.q).toNat).sum
theorem mul_bound {p q : Int} (h1 : 1 ≤ p) (h2 : p ≤ 1048576) (h3 : 1 ≤ q) (h4 : q ≤ 1048576) : 0 ≤ p * q ∧ p * q ≤ 1099511627776 := by
  have a : 0 ≤ p * q := Int.mul_nonneg (by omega) (by omega)
  have b : p * q ≤ 1048576 * 1048576 := Int.mul_le_mul h2 h4 (by omega) (by omega)
  omega
theorem vol_bound : ∀ {fs : List Fl}, FlOk fs → volF fs ≤ fs.length * 1048576 ∧ valF fs ≤ fs.length * 1099511627776
  | [], _ => by simp [volF, valF]
  | f :: fs, h => by
    have h1 := h f (by simp)
    have h2 := vol_bound (fs := fs) fun g hg => h g (by simp [hg])
    have h3 := mul_bound h1.1 h1.2.1 h1.2.2.1 h1.2.2.2
    simp only [volF, valF, List.map_cons, List.sum_cons, List.length_cons] at h2 ⊢
    omega
theorem vol_take {fs : List Fl} {k : Nat} {f : Fl} (h : fs[k]? = some f) : volF (fs.take (k + 1)) = volF (fs.take k) + f.q.toNat ∧ valF (fs.take (k + 1)) = valF (fs.take k) + (f.p * f.q).toNat := by
  rw [List.take_add_one, h]
  simp [volF, valF]

set_option maxHeartbeats 3200000 in
set_option maxRecDepth 100000 in
theorem cTurns {w : World} {C : Nat} {v : Value} {fs : List Fl} (h : OwnF w C v fs) (hl : fs.length ≤ 8) (ho : FlOk fs) :
    Calls Try.prog 21 #[v] w fun e w' => e = .returned (cxV (volF fs) (valF fs)) ∧ Below w.heap.size w w' := by
  have S1 : Hid (∀ k x, fs[k]? = some x → ∃ g a cap, v = .slice (some ⟨g, 0, none⟩) a cap ∧ g < w.heap.size ∧ w.cell? ⟨g, k * 3, none⟩ = some (.int .i64 x.i) ∧ w.cell? ⟨g, k * 3 + 1, none⟩ = some (.int .i64 x.p) ∧ w.cell? ⟨g, k * 3 + 2, none⟩ = some (.int .i64 x.q)) := hid fun k x hk => by
    rcases h.shape with ⟨_, e⟩ | ⟨g, cap', e, _, _, _, hg, hc, _⟩
    · rw [e] at hk; simp at hk
    · exact ⟨g, _, cap', e, hg, hc k x hk⟩
  obtain ⟨a, cap, m, rfl, hm⟩ := h.asSlice
  have HM := hid hm
  have hm8 : m ≤ 8 := by omega
  have HO := hid ho
  have hz : FN 0 = 0 := by decide
  have HZ := hid hz
  clear h hm hl ho hz
  go_enter Try.func21, Try.ntmps21
  go_wp2_with fail
  go_loopg [3, 5, 8] m (fun gg s3 s5 s8 wr => ∃ j : Nat, j ≤ m ∧ m - j ≤ gg ∧ s8 = .int .i64 j ∧ s3 = cxV (volF (fs.take j)) (valF (fs.take j)) ∧ Hid (Below w.heap.size w wr))
  case atStart => exact ⟨0, by omega, by omega, rfl, by simp [volF, valF, cxV, HZ.out], hid (Below.refl _ _)⟩
  case round =>
    obtain ⟨j, hj, hgg, rfl, rfl, BW⟩ := hrel
    by_cases hlt : j < m
    · have hltz : (j : Int) < (m : Int) := by omega
      obtain ⟨x, hx⟩ : ∃ x, fs[j]? = some x := ⟨fs[j]'(by rw [← HM.out]; exact hlt), List.getElem?_eq_getElem (by rw [← HM.out]; exact hlt)⟩
      obtain ⟨g, a', c', e1, hg, x0, x1, x2⟩ := S1.out j x hx
      injection e1 with e3 _ _
      subst e3
      have d0 := (BW.out.cell (p := ⟨g, j * 3, none⟩) hg).trans x0
      have d1 := (BW.out.cell (p := ⟨g, j * 3 + 1, none⟩) hg).trans x1
      have d2 := (BW.out.cell (p := ⟨g, j * 3 + 2, none⟩) hg).trans x2
      have hok := HO.out x (List.mem_of_getElem? hx)
      have hmb := mul_bound hok.1 hok.2.1 hok.2.2.1 hok.2.2.2
      have hbd := vol_bound (fs := fs.take j) fun f hf => HO.out f (List.mem_of_mem_take hf)
      have hlen : (fs.take j).length ≤ 8 := by rw [List.length_take]; have := HM.out; omega
      have hvt := vol_take hx
      obtain ⟨va, hva⟩ : ∃ va, va = volF (fs.take j) := ⟨_, rfl⟩
      obtain ⟨vb, hvb⟩ : ∃ vb, vb = valF (fs.take j) := ⟨_, rfl⟩
      rw [← hva, ← hvb] at hbd hvt ⊢
      have hf1 := run_toF (x := x.q) (by omega)
      have hf2 := run_toF (x := x.p * x.q) (by omega)
      have hwr : IntKind.i64.wrap (x.p * x.q) = x.p * x.q := by rw [IntKind.wrap_i64]; omega
      have hadd := run_cadd (a := va) (b := vb) (c := x.q.toNat) (d := (x.p * x.q).toNat) (by omega) (by omega)
      have HV := hid hvt
      clear hx x0 x1 x2 hok hmb hbd hlen hvt hva hvb
      go_wp2_with fail
      go_roundg (m - (j + 1))
      case measure => omega
      case rel => exact ⟨j + 1, by omega, by omega, by go_num, by rw [HV.out.1, HV.out.2], hid (BW.out.alloc BW.out.size _)⟩
    · have hltz : ¬ (j : Int) < (m : Int) := by omega
      have HT : Hid (fs.take j = fs) := hid (List.take_of_length_le (by have := HM.out; omega))
      go_wp2_with fail
      go_ret
      refine ⟨?_, BW.out⟩
      show Ending.returned (cxV (volF (fs.take j)) (valF (fs.take j))) = _
      rw [HT.out]
end Go.Proofs.Ytdgllpfccdbdnaa

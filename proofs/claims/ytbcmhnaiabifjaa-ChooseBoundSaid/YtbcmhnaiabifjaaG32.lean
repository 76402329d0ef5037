import Derived.Test.YtbcmhnaiabifjaaG31
import Derived.Test.YtbcmhnaiabifjaaG28
namespace Go.Proofs.Ytbcmhnaiabifjaa
set_option linter.unusedVariables false
open Go.RowKit
open Go.Lib (hid)
set_option maxHeartbeats 4000000 in
set_option maxRecDepth 100000 in
theorem cFitsMs {v : Value} {l : List Ms} {w : World} (h : SlM w v (mgs l)) (hA : ∀ m ∈ l, m.at w) (hl : l.length ≤ 9223372036854775807) : Calls Try.prog 6 #[v] w fun e w' => (e = .returned (.bool false) ∨ (e = .returned (.bool true) ∧ l.length ≤ 20 ∧ ∀ m ∈ l, m.short 100)) ∧ Below w.heap.size w w' := by
  obtain ⟨b, o, cap, a, rfl, ha, hc, hb⟩ := h
  have hlm : (mgs l).length = l.length := by unfold mgs; rw [List.length_map]
  rw [hlm] at ha hb ⊢
  have HA := hid hA
  have HCC := hid hc
  obtain ⟨m, hm⟩ : ∃ m, m = l.length := ⟨_, rfl⟩
  rw [← hm] at ha hb hl ⊢
  have HN := hid hm
  clear hm hA hc hlm
  go_enter Try.func6, Try.ntmps6
  go_wp2_with fail
  go_loopw [3] (fun i wr => ∃ (k : Nat), k ≤ m ∧ k ≤ 21 ∧ i = .int .i64 k ∧ Hid (∀ y ∈ l.take k, fitsM y = true) ∧ Below w.heap.size w wr) (fun i _ => m - (RowKit.intOf i).toNat)
  case atStart => exact ⟨0, Nat.zero_le _, by omega, rfl, hid (by simp), Below.refl _ _⟩
  case round =>
    obtain ⟨k, hk, hk41, rfl, HALL, hB⟩ := hrel
    have HB := hid hB
    clear hB
    by_cases hlt : k < m
    · by_cases h40 : k ≤ 20
      · obtain rfl := ha (by omega)
        obtain ⟨y, hy⟩ : ∃ y, l[k]? = some y := ⟨l[k]'(by rw [← HN.out]; exact hlt), List.getElem?_eq_getElem (by rw [← HN.out]; exact hlt)⟩
        have hbw := hb (by omega)
        have HC : Hid (wr.rangeAt b (o + k * 20) y.m.list) := hid ((HCC.out.on HB.out fun _ => hbw) k y.m (at_mgs hy))
        have HE := hid hy
        have hF := cFitsM ((HA.out y (List.mem_of_getElem? hy)).on HB.out)
        obtain ⟨rt, hrt⟩ : ∃ rt, rt = fitsM y := ⟨_, rfl⟩
        rw [← hrt] at hF
        have HRT := hid hrt
        clear hy hrt
        rcases rt with _ | _
        · go_wp2_with (first
            | ((with_reducible refine loadMl (x := ?lx1) (b := ?lb1) (o := ?lo1) y.m ?lg1 ?lp1 ?lxx1 ?lc1 ?_); (case lg1 => rfl); (case lp1 => rfl); (case lxx1 => rfl); (case lc1 => exact HC.out))
            | (go_at_call 18; refine hF.mono ?_; rintro q w1 ⟨rfl, hB1⟩; have HB1 := hid (HB.out.trans (hB1.mono HB.out.size)); clear hB1)
            | fail)
          go_ret
          exact ⟨.inl rfl, HB1.out⟩
        · go_wp2_with (first
            | ((with_reducible refine loadMl (x := ?lx2) (b := ?lb2) (o := ?lo2) y.m ?lg2 ?lp2 ?lxx2 ?lc2 ?_); (case lg2 => rfl); (case lp2 => rfl); (case lxx2 => rfl); (case lc2 => exact HC.out))
            | (go_at_call 18; refine hF.mono ?_; rintro q w1 ⟨rfl, hB1⟩; have HB1 := hid (HB.out.trans (hB1.mono HB.out.size)); clear hB1)
            | fail)
          go_roundw
          case rel => exact ⟨k + 1, by omega, by omega, by go_num, hid (fun z hz => by rw [List.take_add_one, HE.out] at hz; rcases List.mem_append.1 hz with hz | hz; exact HALL.out z hz; simp at hz; subst hz; exact HRT.out.symm), HB1.out⟩
          case measure => simp [RowKit.intOf]; omega
      · have hm40 : ¬ m ≤ 20 := by omega
        go_wp2_with fail
        go_ret
        exact ⟨.inl (ret_bool (decide_eq_false (by omega))), HB.out⟩
    · have hkk : k = m := by omega
      subst hkk
      by_cases hm40 : k ≤ 20
      · have HF : Hid (∀ y ∈ l, y.short 100) := hid (fun y hy => fitsM_short (by have := HALL.out; rw [HN.out, List.take_length] at this; exact this y hy))
        have HM := hid hm40
        go_wp2_with fail
        go_ret
        exact ⟨.inr ⟨ret_bool (decide_eq_true (by have := HM.out; omega)), HM.out, HF.out⟩, HB.out⟩
      · go_wp2_with fail
        go_ret
        exact ⟨.inl (ret_bool (decide_eq_false (by omega))), HB.out⟩
end Go.Proofs.Ytbcmhnaiabifjaa
namespace Go.Proofs.Ytbcmhnaiabifjaa
set_option linter.unusedVariables false
open Go.RowKit
open Go.Lib (hid)
theorem onW_congr {g g' : Nat → Ms → Ms} {L : List Ms} {k : Nat} (h : ∀ j, j < k → g' j = g j) : onW g' L k = onW g L k := by
  unfold onW
  apply List.map_congr_left
  intro j hj
  rcases L[j]? with _ | x
  · rfl
  · show (if j < k then g' j x else x) = if j < k then g j x else x
    by_cases hjk : j < k
    · rw [if_pos hjk, if_pos hjk, h j hjk]
    · rw [if_neg hjk, if_neg hjk]
theorem votes_app (l : List Ms) (x y : Ms) : votesF (l ++ [x]) y = votesF l y + if sameF x y = true then 1 else 0 := by
  unfold votesF; rw [List.countP_append]; simp [List.countP_cons]
theorem storeR1 {ops : Array Oper} {rest : List Oper} {op : Oper} {c : Act} {w : World} {Q : Exit → Act → World → Prop} {x y : Operand} {B g cap n i off : Nat} {ms : List Mg} {m m' : Mg} (ty : TypeId) (v : Value) (hi : (Try.prog.info? ty).map (·.size) = some 1) (h1 : v.oneCell' = true) (hgd : op.guard = none) (ho : op.op = .store ty x y)
    (hx : c.eval x = .pointer (some ⟨g, i * 20 + off, none⟩)) (hy : c.eval y = v) (hO : OwnM w B (.slice (some ⟨g, 0, none⟩) n cap) ms) (hm : ms[i]? = some m) (he : splice m.list off [v] = m'.list) (hof : off + 1 ≤ 20)
    (h : ∀ W, OwnM W B (.slice (some ⟨g, 0, none⟩) n cap) (ms.set i m') → Upd g w W → wpList Try.prog ops Q rest (c.put op.dst undef) W) : wpList Try.prog ops Q (op :: rest) c w :=
  wpList_plain hgd fun _ hK => by
    have hat := (own_at hO hm).2.2.1 off 1 hof
    have e := run_storeCells_cells (P := Try.prog) g (i * 20 + off) [v] 0 w (fun j hj => by simpa using (hat j (by simpa using hj)).1) (fun j hj => by simpa using (hat j (by simpa using hj)).2) (fun u hu => by simp at hu; subst hu; exact h1)
    have hc : v.cells = #[v] := by cases v <;> first | rfl | cases h1
    have hst : (storeVar ty ⟨g, i * 20 + off, none⟩ v).run Try.prog w = .ok () (w.setCells g (i * 20 + off) [v]) := by
      cases hq : Try.prog.info? ty with
      | none => simp [hq] at hi
      | some i' =>
        have hs : i'.size = 1 := by simpa [hq] using hi
        simp only [Nat.add_zero] at e
        simp [storeVar, sizeOf, typeInfo, hq, hc, hs, e]
    unfold Oper.wp execOp
    simp only [ho, hx, hy, Instr.storeAt, Instr.sureAddr, Sem.run_bind, Sem.run_pure, Result.andThen_ok, hst]
    exact hK _ _ (h _ (own_setM hO hm he hof (fun u hu => by simp at hu; subst hu; exact h1)) (setsUpd' w g (i * 20 + off) _))
theorem info1b : (Try.prog.info? 4).map (·.size) = some 1 := by show _ = some 1; kernel_rfl
theorem info1i : (Try.prog.info? 3).map (·.size) = some 1 := by show _ = some 1; kernel_rfl
abbrev whoO (a0 a1 : Int) : Obj := .cells #[.int .u16 a0, .int .u16 a1] 42
end Go.Proofs.Ytbcmhnaiabifjaa

import Derived.Test.YtogoibigabpkhaaGreatG30
import Derived.Test.YtogoibigabpkhaaGreatG31
/- The document's Learn. -/
namespace Go.Proofs.YtogoibigabpkhaaGreat
set_option linter.unusedVariables false
open Go.RowKit
open Go.Lib (hid)

set_option maxRecDepth 100000 in
theorem run_buildN (c : C7) (w : World) : (Instr.build 74 #[(0, c.v)]).run Tryz.prog w = .ok (.agg (newE c).arr) w := by kernel_rfl
theorem wpList_buildN {ops : Array Oper} {rest : List Oper} {op : Oper} {a : Act} {w : World} {Q : Exit → Act → World → Prop} {x : Operand} (c : C7) (hgd : op.guard = none) (ho : op.op = .build 74 #[(0, x)]) (hx : a.eval x = .agg #[.int .i64 c.i, .int .i64 c.k, .int .i64 c.s, .int .i64 c.t, .int .i64 c.d, .int .i64 c.p, .int .i64 c.q])
    (h : wpList Tryz.prog ops Q rest (a.put op.dst (.agg (newE c).arr)) w) : wpList Tryz.prog ops Q (op :: rest) a w := by
  refine wpList_plain hgd fun _ hK' => ?_
  unfold Oper.wp execOp
  have hb := run_buildN c w
  simp only [ho, List.map_toArray, List.map_cons, List.map_nil, hx, Sem.run_bind]
  rw [show (Instr.build 74 #[(0, .agg #[.int .i64 c.i, .int .i64 c.k, .int .i64 c.s, .int .i64 c.t, .int .i64 c.d, .int .i64 c.p, .int .i64 c.q])]).run Tryz.prog w = .ok (.agg (newE c).arr) w from hb]
  simp only [Result.andThen_ok]
  exact hK' _ _ h
theorem has_append (a b : List En) (i : Int) : hasE (a ++ b) i = (hasE a i || hasE b i) := by
  unfold hasE
  rw [look_append]
  cases lookG En.id a i <;> cases lookG En.id b i <;> rfl
theorem clash_ne {cs : List C7} (h : clashB cs = true) : 0 < cs.length := by
  rcases cs with _ | ⟨c, cs⟩
  · simp [clashB] at h
  · simp
set_option maxHeartbeats 8000000 in
set_option maxRecDepth 100000 in
theorem rILearn {w : World} {p : Nat} {nd c0 : Int} {v u : Value} {xs : List En} {ids : List Int} (h : Rx w p nd c0 v u (keptE xs) (upI ids)) (hlx : xs.length ≤ 10000) (hli : ids.length ≤ 10000) {vs : Value} {cs : List C7} (hv : Sl w vs cs) (hcs : cs.length ≤ 1000) {r : Int} (hr : r = learnE xs cs) :
    Calls Tryz.prog 36 #[ptr p, vs] w fun e w' => e = .returned (.int .i64 r) ∧ (if r = 0 then ∃ v' u', Rx w' p nd c0 v' u' (keptE (xs ++ freshF xs cs)) (upI (ids ++ (freshF xs cs).map En.id)) else Rx w' p nd c0 v u (keptE xs) (upI ids)) ∧ Tch (fun k => k = p) w w' := by
  have hO := rSetOf hv (by omega)
  have hRi := fun W (hW : Below w.heap.size w W) => rRights' (hv.on hW) (by omega)
  obtain ⟨b, o, cap, a, rfl, ha, hca, hb⟩ := hv.open
  obtain ⟨m, hm⟩ : ∃ m, m = cs.length := ⟨_, rfl⟩
  rw [← hm] at ha hb hcs hO hRi ⊢
  have HN := hid hm
  have HCM := hid hca
  have HJ := hid h
  have HL := hid h.lt
  have HR := hid hr
  have HLX := hid (show (keptE xs).length ≤ 20000 from Nat.le_trans (keptE_len xs) (by omega))
  obtain ⟨okb, hok⟩ : ∃ k, k = cs.all C7.ok := ⟨_, rfl⟩
  rw [← hok] at hRi
  have HOK := hid hok
  obtain ⟨eo, heo⟩ : ∃ k, k = ofE cs := ⟨_, rfl⟩
  rw [← heo] at hO
  have HEO := hid heo
  clear h hv hm hr hok hca heo
  go_enter Tryz.func36, Tryz.ntmps36
  go_wp2_with fail
  go_at_call 75
  refine hO.mono ?_
  rintro q w1 ⟨rs, rfl, -, hB1⟩
  have HB1 := hid hB1
  have hRi1 := hRi w1 hB1
  clear hB1 hO hRi
  rcases okb with _ | _
  · obtain rfl : r = 1 := by have := HR.out; unfold learnE at this; rw [← HOK.out] at this; simpa using this
    go_wp2_with (first
      | (go_at_call 76; refine hRi1.mono ?_; rintro y w2 ⟨rfl, hB2⟩; have HB2 := hid (HB1.out.trans (hB2.mono HB1.out.size)); clear hB2)
      | fail)
    go_ret
    exact ⟨rfl, HJ.out.on HB2.out, Tch.ofBelow HB2.out⟩
  go_wp2_with (first
    | (go_at_call 76; refine hRi1.mono ?_; rintro y w2 ⟨rfl, hB2⟩; have HB2 := hid (HB1.out.trans (hB2.mono HB1.out.size)); clear hB2)
    | fail)
  have HJ2 := hid (HJ.out.on HB2.out)
  clear hRi1 HB1
  go_loopw [8] (fun i wr => ∃ (k : Nat), k ≤ m ∧ i = .int .i64 k ∧ Hid (Rx wr p nd c0 v u (keptE xs) (upI ids)) ∧ Hid (∀ j, j < k → ∀ c, cs[j]? = some c → hasE xs c.i = true → (lookE xs c.i).c = c) ∧ Hid (0 < k → eo ≠ 6) ∧ Hid (Below w.heap.size w wr)) (fun i _ => m - (RowKit.intOf i).toNat)
  case atStart => exact ⟨0, Nat.zero_le _, rfl, HJ2, hid fun j hj => by omega, hid fun h => by omega, HB2⟩
  case round =>
    obtain ⟨k, hk, rfl, HI, HFI, HE6, HB⟩ := hrel
    clear HJ2 HB2
    by_cases hlt : k < m
    · obtain rfl := ha (by omega)
      obtain ⟨c, hc⟩ : ∃ c, cs[k]? = some c := ⟨cs[k]'(by rw [← HN.out]; exact hlt), List.getElem?_eq_getElem (by rw [← HN.out]; exact hlt)⟩
      have hbw := hb (by omega)
      obtain ⟨z0, z1, z2, z3, z4, z5, z6⟩ := (HCM.out.on HB.out hbw).at hc
      have HC := hid hc
      clear hc
      have hA := rAt HI.out HLX.out c.i
      obtain ⟨-, -, k2, -⟩ := HI.out.cells
      obtain ⟨bb, oo, cap2, aa, hvv, haa, hcc, hbb⟩ := OwnG.slG kE HI.out.es
      by_cases he6 : eo = 6
      · have hnf : ¬ FineL xs cs := fun h => by have := HEO.out; rw [he6] at this; rw [(of_fine HOK.out.symm h.1).1] at this; omega
        obtain rfl : r = 6 := by rw [HR.out]; unfold learnE; rw [if_pos HOK.out.symm, if_neg hnf]
        have hq6 : (eo == 6) = true := by simpa using he6
        clear hnf haa hcc hbb hvv
        obtain ⟨z, hz⟩ : ∃ z, z = atE (keptE xs) c.i := ⟨_, rfl⟩
        rw [← hz] at hA
        clear hz
        subst he6
        go_wp2_with fail
        go_at_call 31
        refine hA.mono ?_
        rintro q w' ⟨rfl, rfl⟩
        go_wp2_with fail
        go_quiet (fail)
        obtain ⟨W3, hW3⟩ : ∃ W, W = wr.drewN nq := ⟨_, rfl⟩
        rw [← hW3]
        have HBQ : Hid (Below wr.heap.size wr W3) := hid (by rw [hW3]; exact belowDrewN (Below.refl _ wr) nq)
        clear hW3
        go_wp2_with fail
        go_ret
        exact ⟨rfl, HI.out.on HBQ.out, Tch.ofBelow (HB.out.trans (HBQ.out.mono HB.out.size))⟩
      · have hq6 : (eo == 6) = false := by simpa using he6
        have he6' := he6
        have HE := hid he6
        clear he6
        obtain ⟨d1, hd1⟩ : ∃ d, d = hasE xs c.i := ⟨_, rfl⟩
        have HD := hid hd1
        clear hd1
        rcases d1 with _ | _
        · rw [at_kept_no HD.out.symm] at hA
          clear haa hcc hbb hvv
          go_wp2_with fail
          go_at_call 31
          refine hA.mono ?_
          rintro q w' ⟨rfl, rfl⟩
          go_wp2_with fail
          go_quiet (fail)
          obtain ⟨W3, hW3⟩ : ∃ W, W = wr.drewN nq := ⟨_, rfl⟩
          rw [← hW3]
          have HBQ : Hid (Below wr.heap.size wr W3) := hid (by rw [hW3]; exact belowDrewN (Below.refl _ wr) nq)
          clear hW3
          have HI3 := hid (HI.out.on HBQ.out)
          have HB3 := hid (HB.out.trans (HBQ.out.mono HB.out.size))
          go_wp2_with fail
          go_roundw
          case rel => exact ⟨k + 1, by omega, by go_num, HI3, hid fun j hj d hd hh => (Nat.lt_succ_iff_lt_or_eq.1 hj).elim (fun hj => HFI.out j hj d hd hh) (fun e => by subst e; rw [HC.out] at hd; cases hd; rw [← HD.out] at hh; cases hh), hid fun _ => HE.out, HB3⟩
          case measure => simp [RowKit.intOf]; omega
        · obtain ⟨kk, hk1, hk2⟩ := at_kept_yes HD.out.symm
          rw [hk1] at hA
          have hlt2 := (List.getElem?_eq_some_iff.1 hk2).1
          obtain rfl := haa (by omega)
          have hrow := hcc kk _ hk2
          rw [hvv] at k2
          obtain ⟨e1, he1⟩ : ∃ e, e = lookE xs c.i := ⟨_, rfl⟩
          rw [← he1] at hrow
          have HE1 := hid he1
          have u0 : wr.cell? ⟨bb, oo + kk * 19, none⟩ = some (.int .i64 e1.c.i) := hrow 0 _ rfl
          have u1 : wr.cell? ⟨bb, oo + kk * 19 + 1, none⟩ = some (.int .i64 e1.c.k) := hrow 1 _ rfl
          have u2 : wr.cell? ⟨bb, oo + kk * 19 + 2, none⟩ = some (.int .i64 e1.c.s) := hrow 2 _ rfl
          have u3 : wr.cell? ⟨bb, oo + kk * 19 + 3, none⟩ = some (.int .i64 e1.c.t) := hrow 3 _ rfl
          have u4 : wr.cell? ⟨bb, oo + kk * 19 + 4, none⟩ = some (.int .i64 e1.c.d) := hrow 4 _ rfl
          have u5 : wr.cell? ⟨bb, oo + kk * 19 + 5, none⟩ = some (.int .i64 e1.c.p) := hrow 5 _ rfl
          have u6 : wr.cell? ⟨bb, oo + kk * 19 + 6, none⟩ = some (.int .i64 e1.c.q) := hrow 6 _ rfl
          have hkz : decide ((kk : Int) < 0) = false := decide_eq_false (by omega)
          have hkp : (0 : Int) ≤ (kk : Int) := by omega
          generalize hm2 : (keptE xs).length = m2 at hlt2 k2
          have HM2 := hid hm2
          clear hk1 hk2 haa hcc hbb hrow he1 hm2 hvv
          rcases hsame : e1.c.same c with _ | _
          · have hnf : ¬ FineL xs cs := fun h => same_no' hsame (by rw [HE1.out]; exact h.2 c (List.mem_of_getElem? HC.out) HD.out.symm)
            obtain rfl : r = 6 := by rw [HR.out]; unfold learnE; rw [if_pos HOK.out.symm, if_neg hnf]
            have q1 := fun W => neqC hsame W
            have q2 := fun W => guardC .neq (.tmp 46) (.tmp 50) e1.c c W
            clear hsame hnf
            go_wp2_with fail
            go_at_call 31
            refine hA.mono ?_
            rintro q w' ⟨rfl, rfl⟩
            go_wp2_with fail
            go_quiet (fail)
            obtain ⟨W3, hW3⟩ : ∃ W, W = wr.drewN nq := ⟨_, rfl⟩
            rw [← hW3]
            have HBQ : Hid (Below wr.heap.size wr W3) := hid (by rw [hW3]; exact belowDrewN (Below.refl _ wr) nq)
            clear hW3
            have HI3 := hid (HI.out.on HBQ.out)
            have HB3 := hid (HB.out.trans (HBQ.out.mono HB.out.size))
            go_wp2_with fail
            go_ret
            exact ⟨rfl, HI3.out, Tch.ofBelow HB3.out⟩
          · have HSM := hid (C7.same_iff.1 hsame)
            have q1 := fun W => neqC hsame W
            have q2 := fun W => guardC .neq (.tmp 46) (.tmp 50) e1.c c W
            clear hsame
            go_wp2_with fail
            go_at_call 31
            refine hA.mono ?_
            rintro q w' ⟨rfl, rfl⟩
            go_wp2_with fail
            go_quiet (fail)
            obtain ⟨W3, hW3⟩ : ∃ W, W = wr.drewN nq := ⟨_, rfl⟩
            rw [← hW3]
            have HBQ : Hid (Below wr.heap.size wr W3) := hid (by rw [hW3]; exact belowDrewN (Below.refl _ wr) nq)
            clear hW3
            have HI3 := hid (HI.out.on HBQ.out)
            have HB3 := hid (HB.out.trans (HBQ.out.mono HB.out.size))
            go_wp2_with fail
            go_roundw
            case rel => exact ⟨k + 1, by omega, by go_num, HI3, hid fun j hj d hd hh => (Nat.lt_succ_iff_lt_or_eq.1 hj).elim (fun hj => HFI.out j hj d hd hh) (fun e => by subst e; rw [HC.out] at hd; cases hd; rw [← HE1.out]; exact HSM.out), hid fun _ => HE.out, HB3⟩
            case measure => simp [RowKit.intOf]; omega
    · have hkm : k = m := by omega
      have HFN : Hid (FineL xs cs) := hid (by
          refine ⟨?_, fun c hc hh => ?_⟩
          · rcases hcl : clashB cs with _ | _
            · rfl
            · exfalso
              have h1 := clash_ne hcl
              exact HE6.out (by have := HN.out; omega) (by rw [HEO.out]; exact (of_clash HOK.out.symm hcl).1)
          · obtain ⟨j, hj⟩ := List.getElem?_of_mem hc
            exact HFI.out j (by have := (List.getElem?_eq_some_iff.1 hj).1; have := HN.out; omega) c hj hh)
      obtain rfl : r = 0 := by rw [HR.out]; unfold learnE; rw [if_pos HOK.out.symm, if_pos HFN.out]
      subst hkm
      go_wp2_with fail
      go_loopw [10] (fun i wz => ∃ (j : Nat) (v' u' : Value), j ≤ k ∧ i = .int .i64 j ∧ Hid (Rx wz p nd c0 v' u' (keptE (xs ++ freshF xs (cs.take j))) (upI (ids ++ (freshF xs (cs.take j)).map En.id))) ∧ Hid (Tch (fun k => k = p) w wz)) (fun i _ => k - (RowKit.intOf i).toNat)
      case atStart => exact ⟨0, v, u, Nat.zero_le _, rfl, by simpa [freshF] using HI, hid (Tch.ofBelow HB.out)⟩
      case round =>
        obtain ⟨j, v2, u2, hj, rfl, HI2, HT⟩ := hrel
        clear HI HB
        by_cases hlj : j < k
        · obtain rfl := ha (by omega)
          obtain ⟨c, hc⟩ : ∃ c, cs[j]? = some c := ⟨cs[j]'(by rw [← HN.out]; exact hlj), List.getElem?_eq_getElem (by rw [← HN.out]; exact hlj)⟩
          have hbw := hb (by omega)
          have HCT : Hid (∀ W, Tch (fun k => k = p) w W → CmsAt W b o cs) := hid fun W hW i d hd f x hx => by
            have h7 := HCM.out i d hd f x hx
            have hne : ¬ b = p := fun e => by
              have h6 := HCM.out i d hd 6 _ rfl
              rw [e, HJ.out.nocell p rfl (o + (i * 7 + 6)) (by omega)] at h6; cases h6
            rw [cell_of_heap (hW.block b hbw hne)]; exact h7
          obtain ⟨z0, z1, z2, z3, z4, z5, z6⟩ := (HCT.out wr HT.out).at hc
          have HC := hid hc
          clear hc
          have HLE : Hid ((freshF xs (cs.take j)).length ≤ 1000) := hid (by have := fresh_len xs (cs.take j); rw [List.length_take] at this; have := HN.out; omega)
          have hA := rAt HI2.out (Nat.le_trans (keptE_len _) (by have := HLE.out; rw [List.length_append]; omega)) c.i
          obtain ⟨d1, hd1⟩ : ∃ d, d = hasE (xs ++ freshF xs (cs.take j)) c.i := ⟨_, rfl⟩
          have HD := hid hd1
          clear hd1
          rcases d1 with _ | _
          · rw [at_kept_no HD.out.symm] at hA
            go_wp2_with (first
              | (go_at_call 31; refine hA.mono ?_; rintro q w' ⟨rfl, rfl⟩)
              | ((with_reducible refine wpList_buildN (x := ?bx) c ?bg ?bo ?bv ?_); (case bg => rfl); (case bo => rfl); (case bv => rfl))
              | fail)
            go_at_call 32
            refine (rSet HI2.out (Nat.le_trans (keptE_len _) (by have := HLE.out; rw [List.length_append]; omega))).mono ?_
            rintro q W3 ⟨rfl, ⟨v3, hJ3⟩, hT3⟩
            rw [← keptE_snoc (xs ++ freshF xs (cs.take j)) (newN c)] at hJ3
            have HJ3 := hid hJ3
            have HT3 := hid (HT.out.trans hT3)
            clear hJ3 hT3 z0 z1 z2 z3 z4 z5 z6 hA
            obtain ⟨z0, z1, z2, z3, z4, z5, z6⟩ := (HCT.out W3 HT3.out).at HC.out
            go_wp2_with fail
            go_at_call 77
            refine (rNote HJ3.out (Nat.le_trans (upI_len _) (by have := HLE.out; rw [List.length_append, List.length_map]; omega))).mono ?_
            rintro q W4 ⟨rfl, ⟨u4, hJ4⟩, hT4⟩
            rw [← upI_snoc] at hJ4
            have HJ4 := hid hJ4
            have HT4 := hid (HT3.out.trans hT4)
            clear hJ4 hT4 z0 z1 z2 z3 z4 z5 z6
            go_wp2_with fail
            go_roundw
            case rel => exact ⟨j + 1, v3, u4, by omega, by go_num, hid (by have := HJ4.out; rw [take_next HC.out, fresh_snoc, if_neg (by rw [← has_append, ← HD.out]; decide), List.map_append, ← List.append_assoc, ← List.append_assoc]; exact this), HT4⟩
            case measure => simp [RowKit.intOf]; omega
          · obtain ⟨kk, hk1, hk2⟩ := at_kept_yes HD.out.symm
            rw [hk1] at hA
            have hkz : decide ((kk : Int) < 0) = false := decide_eq_false (by omega)
            clear hk1 hk2
            go_wp2_with (first
              | (go_at_call 31; refine hA.mono ?_; rintro q w' ⟨rfl, rfl⟩)
              | fail)
            go_roundw
            case rel => exact ⟨j + 1, v2, u2, by omega, by go_num, hid (by rw [take_next HC.out, fresh_snoc, if_pos (by rw [← has_append, ← HD.out])]; exact HI2.out), HT⟩
            case measure => simp [RowKit.intOf]; omega
        · have hjk : j = k := by omega
          subst hjk
          rw [HN.out, List.take_length] at HI2
          go_wp2_with fail
          go_ret
          exact ⟨rfl, ⟨v2, u2, HI2.out⟩, HT.out⟩
end Go.Proofs.YtogoibigabpkhaaGreat

import Derived.Test.YtogoibigabpkhaaGreatQNewM
import Derived.Test.YtogoibigabpkhaaGreatQAsk2M
import Derived.Test.YtogoibigabpkhaaGreatQChgM
import Derived.Test.YtogoibigabpkhaaGreatQNoteM
import Derived.Test.YtogoibigabpkhaaGreatG22
/- The live question of layer 13. -/
namespace Go.Proofs.YtogoibigabpkhaaGreat
set_option linter.unusedVariables false
open Go.RowKit
open Go.Lib (hid)

abbrev cC : C7 := ⟨17, 1, 0, 16, 0, 0, 0⟩
abbrev aE : Ev := { newE aC with lo := 33, hi := 48 }
abbrev aN : En := ⟨aE, [], [], []⟩
theorem al_new : newR 1 0 [aN] = 0 := by decide
theorem al_fresh : freshF [aN] [cC] = [newN cC] := rfl
theorem al_learn : learnE [aN] [cC] = 0 := by
  unfold learnE
  rw [if_pos (by decide), if_pos]
  refine ⟨by decide, fun c hc h => ?_⟩
  simp at hc
  subst hc
  exact absurd h (by decide)
theorem al_see : seeN 0 [aN] = 3 := by decide
theorem al_pred : touchL [aN, newN cC] cC (fun y => aheadE y.e 40) = [aC] := rfl
theorem al_hold : touchL [aN, newN cC] cC (fun y => holdsE y.e 40) = [aC] := rfl
theorem al_chg : upI [17] = [17] := rfl
theorem slE_one {w : World} {q : Nat} {T : TypeId} {e : Ev} (h : Ob w q T e) : SlE w (.slice (some ⟨q, 0, none⟩) 1 1) [e] :=
  ⟨q, 0, 1, some ⟨q, 0, none⟩, rfl, fun _ => rfl, fun j x hx => by
    rcases j with _ | j
    · simp at hx; subst hx; exact h.range
    · simp at hx, fun _ => (Array.getElem?_eq_some_iff.1 h).1⟩
set_option maxRecDepth 100000 in
theorem run_buildAl (w : World) : (Instr.build 44 #[(0, aC.v), (2, .int .i64 33), (3, .int .i64 48)]).run Tryz.prog w = .ok (.agg aE.arr) w := by kernel_rfl
theorem wpList_buildAl {ops : Array Oper} {rest : List Oper} {op : Oper} {a : Act} {w : World} {Q : Exit → Act → World → Prop} {x y z : Operand} (hgd : op.guard = none) (ho : op.op = .build 44 #[(0, x), (2, y), (3, z)]) (hx : a.eval x = aC.v) (hy : a.eval y = .int .i64 33) (hz : a.eval z = .int .i64 48)
    (h : wpList Tryz.prog ops Q rest (a.put op.dst (.agg aE.arr)) w) : wpList Tryz.prog ops Q (op :: rest) a w := by
  refine wpList_plain hgd fun _ hK' => ?_
  unfold Oper.wp execOp
  have hb := run_buildAl w
  simp only [ho, List.map_toArray, List.map_cons, List.map_nil, hx, hy, hz, Sem.run_bind]
  rw [hb]
  simp only [Result.andThen_ok]
  exact hK' _ _ h
theorem aN_at (w : World) : aN.at w := ⟨nilS w, nilS w, nilS w⟩
theorem nN_at (c : C7) (w : World) : (newN c).at w := ⟨nilS w, nilS w, nilS w⟩
theorem aN_short : aN.short 1024 := ⟨Nat.zero_le _, Nat.zero_le _, Nat.zero_le _⟩
theorem nN_short (c : C7) : (newN c).short 1024 := ⟨Nat.zero_le _, Nat.zero_le _, Nat.zero_le _⟩
theorem two_all {P : En → Prop} {x y : En} (h : P x) (k : P y) : ∀ z ∈ [x, y], P z := fun z hz => by
  simp at hz
  rcases hz with rfl | rfl
  · exact h
  · exact k
set_option maxHeartbeats 8000000 in
set_option maxRecDepth 100000 in
theorem cIAlive (w : World) : Calls Tryz.prog 6 #[] w fun e w' => e = .returned (.bool true) ∧ Below w.heap.size w w' := by
  go_enter Tryz.func6, Tryz.ntmps6
  go_wp2_with (first
    | ((with_reducible refine wpList_buildAl (x := ?bx1) (y := ?bx2) (z := ?bx3) ?bg ?bo ?b1 ?b2 ?b3 ?bh); (case bg => rfl); (case bo => rfl); (case b1 => rfl); (case b2 => rfl); (case b3 => rfl))
    | ((with_reducible refine storeC (x := ?sx1) (y := ?sy1) (b := ?sb1) (T := 44) aE ?sg1 ?so1 ?sxx1 ?syy1 ?sc1 ?sh1); (case sg1 => rfl); (case so1 => rfl); (case sxx1 => rfl); (case syy1 => rfl); (case sc1 => exact Ob.room (e := zE) (laid1_0 w zeroEc)); intro W9 hO hU; have HO := hid hO; have hb0 := (laid1_b w zeroEc).trans (hU.below w.heap.size (Nat.le_refl _)); have HB0 := hid hb0; clear hO hU hb0)
    | ((with_reducible refine loadC (x := ?lx1) (b := ?lb1) (T := 44) aE ?lg1 ?lo1 ?lxx1 ?lc1 ?lh1); (case lg1 => rfl); (case lo1 => rfl); (case lxx1 => rfl); (case lc1 => exact HO.out))
    | ((with_reducible refine wpList_bsE (x := ?ex1) aE ?eg1 ?eo1 ?exx1 ?eh1); (case eg1 => rfl); (case eo1 => rfl); (case exx1 => rfl); intro W8 hO hU; have HO8 := hid hO; have HB8 := hid (HB0.out.trans (hU.mono HB0.out.size)); clear hO hU)
    | fail)
  go_at_call 7
  refine (cINew (l := [aN]) (slE_one (e := aE) HO8.out) (fun z hz => by simp at hz; subst hz; exact aN_at _) (fun z hz => by simp at hz; subst hz; exact aN_short) (by decide) 1 0 (r := 0) al_new.symm).mono ?_
  rintro q w1 ⟨hB1, hif⟩
  rw [if_pos rfl] at hif
  obtain ⟨x, b, b2, rfl, hI, hx, hb, hbb⟩ := hif
  have hb0 := HB8.out
  have hB := hb0.trans (hB1.mono hb0.size)
  have hx' := Nat.le_trans hb0.size hx
  have hb' := Nat.le_trans hb0.size hb
  have hbb' := Nat.le_trans hb0.size hbb
  have HS : Hid (∀ k, TI x b b2 k → w.heap.size ≤ k) := hid (by rintro k (rfl | rfl | rfl) <;> assumption)
  rw [al_see] at hI
  have HI := hid hI
  have HB := hid hB
  clear hb0 hB1 hI hx hb hbb hB hx' hb' hbb' HO8 HB8 HO HB0
  go_wp2_with fail
  go_at_call 24
  have hb0 := laid2_b w1 (.cells #[.int .i64 17, .int .i64 1, .int .i64 0, .int .i64 16, .int .i64 0, .int .i64 0, .int .i64 0] 40) (.cells #[.int .i64 17, .int .i64 1, .int .i64 0, .int .i64 16, .int .i64 0, .int .i64 0, .int .i64 0] 40)
  have hC := laid2_0 w1 (.cells #[.int .i64 17, .int .i64 1, .int .i64 0, .int .i64 16, .int .i64 0, .int .i64 0, .int .i64 0] 40) (.cells #[.int .i64 17, .int .i64 1, .int .i64 0, .int .i64 16, .int .i64 0, .int .i64 0, .int .i64 0] 40)
  refine (cLearn (HI.out.on hb0) (by decide) (Sl.madeC (c := cC) (by simp)) (by decide) al_learn.symm).mono ?_
  rintro q w2 ⟨rfl, hif, ht⟩
  rw [if_pos rfl, al_fresh] at hif
  have hb2 := ht.below HS.out (Nat.le_trans HB.out.size hb0.size)
  have HC : Hid (w2.heap[w1.heap.size]? = some (.cells #[.int .i64 17, .int .i64 1, .int .i64 0, .int .i64 16, .int .i64 0, .int .i64 0, .int .i64 0] 40)) := hid (ht.ob hC fun hk => by have := (HI.out.lt); rcases hk with h | h | h <;> omega)
  have HB2 := hid ((HB.out.trans (hb0.mono HB.out.size)).trans hb2)
  have HI2 := hid (show Ix w2 x b b2 2 1 3 ([aN] ++ [newN cC]) [17] from hif)
  clear hb0 hC hif ht hb2 HI HB
  go_wp2_with fail
  go_at_call 17
  refine (cTick HI2.out (by decide)).mono ?_
  rw [show mkV (3 + 1) 1 = 65 from by decide, show mkE (3 + 1) 1 = 0 from by decide]
  rintro q w3 ⟨rfl, hI, ht⟩
  rw [if_pos (by decide)] at hI
  have hb2 := ht.below (fun k hk => HS.out k (Or.inl hk)) HB2.out.size
  have HC3 : Hid (w3.heap[w1.heap.size]? = some (.cells #[.int .i64 17, .int .i64 1, .int .i64 0, .int .i64 16, .int .i64 0, .int .i64 0, .int .i64 0] 40)) := hid (ht.ob HC.out fun hk => by have := HC.out; have := HI2.out.ob; rw [← hk, HC.out] at this; cases this)
  have HB3 := hid (HB2.out.trans hb2)
  have HI3 := hid (show Ix w3 x b b2 2 1 4 [aN, newN cC] [17] from hI)
  clear HI2 hI ht HB2 hb2 HC
  have hA : ∀ W, AllAt W [aN, newN cC] := fun W => two_all (aN_at W) (nN_at cC W)
  have hs : ∀ y ∈ [aN, newN cC], y.short 1024 := two_all aN_short (nN_short cC)
  have hP := fun W (hW : Below w3.heap.size w3 W) => cPred (HI3.out.on hW) (by decide) (by decide) (hA _) hs cC 40
  have hH := fun W (hW : Below w3.heap.size w3 W) => cHolders (HI3.out.on hW) (by decide) (by decide) (hA _) hs cC 40
  have HP := hid hP
  have HH := hid hH
  clear hP hH hA hs
  have hc3 : ∀ i, i < 7 → w3.cell? ⟨w1.heap.size, i, none⟩ = #[Value.int .i64 17, .int .i64 1, .int .i64 0, .int .i64 16, .int .i64 0, .int .i64 0, .int .i64 0][i]? := fun i hi => (cellAt' HC3.out i).trans rfl
  have k0 := hc3 0 (by decide)
  have k1 := hc3 1 (by decide)
  have k2 := hc3 2 (by decide)
  have k3 := hc3 3 (by decide)
  have k4 := hc3 4 (by decide)
  have k5 := hc3 5 (by decide)
  have k6 := hc3 6 (by decide)
  simp only [List.getElem?_toArray, List.getElem?_cons_succ, List.getElem?_cons_zero] at k0 k1 k2 k3 k4 k5 k6
  clear hc3
  go_wp2_with fail
  go_at_call 19
  refine (HP.out w3 (Below.refl _ _)).mono ?_
  rintro q w4 ⟨v, rfl, hp, hB4⟩
  have HB4 := hid hB4
  obtain ⟨pb, po, pcap, pa, rfl, ha, hca, hbw⟩ := hp.open
  obtain rfl := ha (by rw [al_pred]; decide)
  rw [show (touchL [aN, newN cC] cC (fun y => aheadE y.e 40)).length = 1 from by rw [al_pred]; rfl] at hp ⊢
  have HC4 : Hid (w4.heap[w1.heap.size]? = some (.cells #[.int .i64 17, .int .i64 1, .int .i64 0, .int .i64 16, .int .i64 0, .int .i64 0, .int .i64 0] 40)) := hid (heapB HC3.out HB4.out (Array.getElem?_eq_some_iff.1 HC3.out).1)
  clear k0 k1 k2 k3 k4 k5 k6
  have hc4 : ∀ i, i < 7 → w4.cell? ⟨w1.heap.size, i, none⟩ = #[Value.int .i64 17, .int .i64 1, .int .i64 0, .int .i64 16, .int .i64 0, .int .i64 0, .int .i64 0][i]? := fun i hi => (cellAt' HC4.out i).trans rfl
  have k0 := hc4 0 (by decide)
  have k1 := hc4 1 (by decide)
  have k2 := hc4 2 (by decide)
  have k3 := hc4 3 (by decide)
  have k4 := hc4 4 (by decide)
  have k5 := hc4 5 (by decide)
  have k6 := hc4 6 (by decide)
  simp only [List.getElem?_toArray, List.getElem?_cons_succ, List.getElem?_cons_zero] at k0 k1 k2 k3 k4 k5 k6
  clear hc4
  have HQ := hid hp
  clear ha hca hbw hp hB4
  go_wp2_with fail
  go_at_call 20
  refine (HH.out w4 HB4.out).mono ?_
  rintro q w5 ⟨v, rfl, hh, hB5⟩
  rw [al_hold] at hh
  have HB5 := hid (HB4.out.trans (hB5.mono HB4.out.size))
  have HQ5 := hid (HQ.out.on hB5)
  have HLO := hid HB4.out.size
  have HI5 := hid (HI3.out.on HB5.out)
  have HD5 := hid (show OwnI w5 w3.heap.size v [16] from own_monoB hh HB4.out.size)
  have HW5 := hid (HB3.out.trans (HB5.out.mono HB3.out.size))
  have HL3 := hid HI3.out.lt
  clear hh hB5 HB4 HQ HB5 HLO HI3 HP HH HB3
  obtain ⟨vg, vc, vn, rfl, hvn⟩ := OwnI.asSlice' HD5.out
  obtain rfl : vn = 1 := hvn
  go_wp2_with fail
  go_at_call 23
  refine (cChanged HI5.out (by decide)).mono ?_
  rintro q w6 ⟨v, rfl, hh, hI, ht⟩
  rw [al_chg] at hh
  have HQ6 := hid (HQ5.out.tch ht HI5.out.nocell)
  have HD6 := hid (own_tch HD5.out ht fun k hk hT => by have := (HD5.out.lt k hk).1; have := HL3.out; rcases hT with h | h | h <;> omega)
  have hb6 := ht.below HS.out HW5.out.size
  have HW6 := hid (HW5.out.trans hb6)
  have HI6 := hid hI
  have HE6 := hid hh
  clear hh hI ht hb6 HQ5 HD5 HW5 HI5
  obtain ⟨eg, ec, en, rfl, hen⟩ := OwnI.asSlice' HE6.out
  obtain rfl : en = 1 := hen
  have hch := cChanged HI6.out (by decide)
  rw [show upI ([] : List Int) = [] from rfl] at hch
  have HCH := hid hch
  clear hch
  obtain ⟨qb, qo, qcap, qa, hqv, -, hqa, hqc, hqw⟩ := HQ6.out
  rw [al_pred] at hqa hqc hqw
  obtain rfl : some ⟨pb, po, none⟩ = qa := (by injection hqv)
  obtain ⟨rfl, rfl⟩ : pb = qb ∧ po = qo := by have := hqa (by decide); injection this with this; injection this with h1 h2; exact ⟨h1, h2⟩
  have z0 := (CmsAt.at (b := pb) (o := po) hqc (j := 0) (c := aC) rfl).1
  obtain ⟨db, d_o, dcap, da, hdv, hda, hdc, -⟩ := OwnI.sl HD6.out
  obtain ⟨eb, eo, ecap, ea, hev, hea, hec, -⟩ := OwnI.sl HE6.out
  obtain rfl := hda (by decide)
  obtain rfl := hea (by decide)
  obtain rfl : vg = some ⟨db, d_o, none⟩ := (by injection hdv)
  obtain rfl : eg = some ⟨eb, eo, none⟩ := (by injection hev)
  have z1 := hdc 0 16 rfl
  have z2 := hec 0 17 rfl
  simp only [Nat.zero_mul, Nat.add_zero] at z0 z1 z2
  clear hqa hqc hqw hqv hdv hda hdc hev hea hec
  go_wp2_with fail
  go_at_call 23
  refine HCH.out.mono ?_
  rintro q w7 ⟨v, rfl, hh, hI, ht⟩
  have HW7 := hid (HW6.out.trans (ht.below HS.out HW6.out.size))
  obtain ⟨fg, fc, fn, rfl, hfn⟩ := OwnI.asSlice' hh
  obtain rfl : fn = 0 := hfn
  clear hh hI ht
  go_wp2_with fail
  go_ret
  exact ⟨rfl, HW7.out⟩
end Go.Proofs.YtogoibigabpkhaaGreat

import Derived.Test.YtlehcaacfgocaaaGreatQMathZm
import Derived.Test.YtlehcaacfgocaaaGreatG17
namespace Go.Proofs.YtlehcaacfgocaaaGreat
set_option linter.unusedVariables false
open Go.RowKit Go.Maps
open Go.Lib (hid)
theorem ok_wf {c : C7} (h : c.ok = true) : (Lit.int .i64 c.i).wf = true := by
  unfold C7.ok oneB at h
  simp only [Bool.and_eq_true] at h
  have := named_true.1 h.1.1
  exact i64_wf (by omega)
theorem ranges_tch {S : Nat → Prop} {w w' : World} {b r n : Nat} {D : DataW Value} {left : Lit → Bool} {cnt : Nat} (h : w.ranges Tryz.prog 3 RE b r n D left cnt) (ht : Tch S w w') (hb' : ¬ S b) (hr' : ¬ S r) : w'.ranges Tryz.prog 3 RE b r n D left cnt := by
  obtain ⟨es, clock, since, seen, c0, hb, F, hs, hD, hr, rest⟩ := h
  exact ⟨es, clock, since, seen, c0, ht.ob hb hb', F, hs, hD, ht.ob hr hr', rest⟩
section
variable {md : Region.Mode} {S : World → Prop} {ops : Array Oper} {i : Nat} {o : Oper} {rs : List Nat} {fuel : Nat} {listed listed' : Array Bool} {a a' : Act} {w : World} {Q : Exit → Act → World → Prop}
theorem rh_put {m x v : Operand} {b n : Nat} {fs : List En} (y : En) (hi : ops[i]? = some o) (hl : listed.setIfInBounds i true = listed') (hg : o.guard = none) (ho : o.op = .mapUpdate 83 m x v)
    (hm : a.eval m = .map (some b)) (hx : a.eval x = .int .i64 y.id) (hv : a.eval v = .agg y.e.arr) (hd : o.dst = none) (hM : Mp w b n fs) (hn : n < maxLen) (hw : (Lit.int .i64 y.id).wf = true)
    (h : ∀ W, Mp W b (n + 1) (fs ++ [y]) → w.grownBy W (some b) → S W ∧ wpAnyH Tryz.prog md ops Q S fuel listed' a W) (hs : AllReadyH Tryz.prog md ops Q S fuel listed a w rs) : AllReadyH Tryz.prog md ops Q S fuel listed a w (i :: rs) := by
  subst hl
  refine rh_cons hi rfl hg (fun K hK => ?_) hs
  obtain ⟨D, hD, hS⟩ := hM
  obtain ⟨W, hrun, hD', hg'⟩ := hD.update (Maps.int_keyed Tryz.underlying3) Tryz.underlying83 hn (key := .int .i64 y.id) (Maps.keyOf_int_mk Tryz.underlying3 hw) (RE_mk y.e)
  obtain ⟨h1, h2⟩ := h W ⟨_, hD', hS.put (own_isMap hD) y⟩ hg'
  unfold Oper.wp
  simp [execOp, ho, hm, hx, hv, hrun, Result.andThen]
  exact hK.out _ _ h1 (by rw [show a.put o.dst undef = a by rw [hd]; rfl]; exact h2)
end
theorem Upd.tch {q : Nat} {w W : World} (h : Upd q w W) : Tch (fun k => k = q) w W := ⟨(h.below 0 (Nat.zero_le _)).os, (h.below 0 (Nat.zero_le _)).tape, (h.below 0 (Nat.zero_le _)).output, by rw [h.size]; exact Nat.le_refl _, fun k hk hne => h.other k hk hne⟩
theorem tch_below {S : Nat → Prop} {a b c : World} (h : Tch S a b) (k : Below a.heap.size b c) : Tch S a c := ⟨k.os.trans h.os, k.tape.trans h.tape, k.output.trans h.output, Nat.le_trans h.size k.size, fun i hi hn => (k.block i hi).trans (h.block i hi hn)⟩
theorem grownBelow' {w w' : World} {B : Nat} (hg : w.grownBy w' none) (hB : B ≤ w.heap.size) : Below B w w' := ⟨hg.os, hg.tape, hg.output, hg.size, fun k hk => hg.block k (Nat.lt_of_lt_of_le hk hB) (by simp)⟩
set_option maxHeartbeats 16000000 in
set_option maxRecDepth 100000 in
theorem cLearn {w : World} {x b b2 n : Nat} {nd c0 : Int} {xs : List En} {ids : List Int} (h : Ix w x b b2 n nd c0 xs ids) (hn : n ≤ 10000) {v : Value} {cs : List C7} (hv : Sl w v cs) (hcs : cs.length ≤ 1000) {r : Int} (hr : r = learnE xs cs) :
    Calls Tryz.prog 39 #[ptr x, v] w fun e w' => e = .returned (.int .i64 r) ∧ (if r = 0 then Ix w' x b b2 (n + cs.length) nd c0 (xs ++ freshF xs cs) (ids ++ (freshF xs cs).map En.id) else Ix w' x b b2 n nd c0 xs ids) ∧ Tch (TI x b b2) w w' := by
  have hM := cMade h
  have hRi := cRight' hv (by omega)
  obtain ⟨bb, o, cap, aa, rfl, ha, hca, hbb⟩ := hv.open
  obtain ⟨m, hm⟩ : ∃ m, m = cs.length := ⟨_, rfl⟩
  rw [← hm] at ha hbb hcs hRi ⊢
  have HN := hid hm
  have HJ := hid h
  have HL := hid h.lt
  have HNE := hid h.ne
  have HR := hid hr
  have HCM := hid hca
  obtain ⟨okb, hok⟩ : ∃ k, k = cs.all C7.ok := ⟨_, rfl⟩
  rw [← hok] at hRi
  have HOK := hid hok
  clear h hv hm hr hok hca
  rcases okb with _ | _
  · obtain rfl : r = 1 := by have := HR.out; unfold learnE at this; rw [← HOK.out] at this; simpa using this
    go_enter Tryz.func39, Tryz.ntmps39
    go_wp2_with (first
      | (go_at_call 48; refine hM.mono ?_; rintro y w' ⟨rfl, rfl⟩)
      | (go_at_call 64; refine hRi.mono ?_; rintro y w1 ⟨rfl, hB1⟩; have HB1 := hid hB1; clear hB1)
      | fail)
    go_ret
    exact ⟨rfl, HJ.out.on HB1.out, Tch.ofBelow HB1.out⟩
  · have HOKC : Hid (∀ c ∈ cs, c.ok = true) := hid fun c hc => List.all_eq_true.1 HOK.out.symm c hc
    have HR2 : Hid (∀ p : Prop, (FineL xs cs → p) → (¬ FineL xs cs → p) → p) := hid fun p h1 h2 => by by_cases h : FineL xs cs; exact h1 h; exact h2 h
    go_enter Tryz.func39, Tryz.ntmps39
    go_wp2_with (first
      | (go_at_call 48; refine hM.mono ?_; rintro y w' ⟨rfl, rfl⟩)
      | (go_at_call 64; refine hRi.mono ?_; rintro y w1 ⟨rfl, hB1⟩; have HB1 := hid hB1; clear hB1; have hmk : Sem.run Tryz.prog (Instr.makeMap 83 none) w1 = .ok (.map (some w1.heap.size)) (w1.alloc (.map #[] 0)) := run_makeMap _ _)
      | fail)
    have HMF : Hid (Mp (w1.alloc (.map #[] 0)) w1.heap.size 0 (freshF xs (cs.take 0))) := hid (Mp.made w1)
    have HB2 : Hid (Below w.heap.size w (w1.alloc (.map #[] 0))) := hid (HB1.out.alloc HB1.out.size _)
    have HSB : Hid (w.heap.size ≤ w1.heap.size) := hid HB1.out.size
    have HSB2 : Hid (w1.heap.size < (w1.alloc (.map #[] 0)).heap.size) := hid (by simp)
    obtain ⟨bf, hbf⟩ : ∃ bf, bf = w1.heap.size := ⟨_, rfl⟩
    rw [← hbf] at HMF HSB HSB2 ⊢
    obtain ⟨W1, hW1⟩ : ∃ W1, W1 = w1.alloc (.map #[] 0) := ⟨_, rfl⟩
    rw [← hW1] at HMF HB2 HSB2 ⊢
    have HJ1 := hid (HJ.out.on HB2.out)
    clear hmk hbf hW1 HB1 hM hRi
    go_loopw [23] (fun i wr => ∃ (k : Nat), k ≤ m ∧ i = .int .i64 k ∧ Hid (Ix wr x b b2 n nd c0 xs ids) ∧ Hid (Mp wr bf k (freshF xs (cs.take k))) ∧ Hid (FineL xs (cs.take k)) ∧ Hid (Below w.heap.size w wr)) (fun i _ => m - (intOf i).toNat)
    case atStart => exact ⟨0, Nat.zero_le _, rfl, HJ1, HMF, hid (fine_nil xs), HB2⟩
    case round =>
      obtain ⟨k, hk, rfl, HI, HF, HFI, HB⟩ := hrel
      clear HJ1 HMF HB2
      by_cases hlt : k < m
      · obtain rfl := ha (by omega)
        obtain ⟨c, hc⟩ : ∃ c, cs[k]? = some c := ⟨cs[k]'(by rw [← HN.out]; exact hlt), List.getElem?_eq_getElem (by rw [← HN.out]; exact hlt)⟩
        have hbw := hbb (by omega)
        obtain ⟨z0, z1, z2, z3, z4, z5, z6⟩ := (HCM.out.on HB.out hbw).at hc
        have hokc := HOKC.out c (List.mem_of_getElem? hc)
        have hwc := ok_wf hokc
        have HC := hid hc
        have HLT := hid hlt
        obtain ⟨fs, hfs⟩ : ∃ fs, fs = freshF xs (cs.take k) := ⟨_, rfl⟩
        rw [← hfs] at HF
        have HFS := hid hfs
        clear hc hfs
        have HBX : Hid (Below wr.heap.size wr (wr.alloc (.cells #[.int .i64 c.i, .int .i64 c.k, .int .i64 c.s, .int .i64 c.t, .int .i64 c.d, .int .i64 c.p, .int .i64 c.q] 45))) := hid ((Below.refl _ wr).alloc (Nat.le_refl _) _)
        have HCB : Hid ((wr.alloc (.cells #[.int .i64 c.i, .int .i64 c.k, .int .i64 c.s, .int .i64 c.t, .int .i64 c.d, .int .i64 c.p, .int .i64 c.q] 45)).heap[wr.heap.size]? = some (.cells #[.int .i64 c.i, .int .i64 c.k, .int .i64 c.s, .int .i64 c.t, .int .i64 c.d, .int .i64 c.p, .int .i64 c.q] 45 (0, 0))) := hid (heap_alloc_new wr _)
        go_wp2_with fail
        generalize wr.alloc (.cells #[.int .i64 c.i, .int .i64 c.k, .int .i64 c.s, .int .i64 c.t, .int .i64 c.d, .int .i64 c.p, .int .i64 c.q] 45) = W0 at HBX HCB ⊢
        clear z0 z1 z2 z3 z4 z5 z6 hbw
        have HJ0 := hid (HI.out.on HBX.out)
        have HF0 := hid (HF.out.on HBX.out)
        have HB0 := hid (HB.out.trans (HBX.out.mono HB.out.size))
        have HQ0 := hid (show wr.heap.size < W0.heap.size from (Array.getElem?_eq_some_iff.1 HCB.out).1)
        have HQB := hid (show bf < wr.heap.size from HF.out.lt)
        obtain ⟨e1, he1⟩ : ∃ e, e = lookE xs c.i := ⟨_, rfl⟩
        obtain ⟨d1, hd1⟩ : ∃ d, d = hasE xs c.i := ⟨_, rfl⟩
        have HE1 := hid (And.intro he1 hd1)
        have HFA : Hid (∀ W, Below W0.heap.size W0 W → W.cell? ⟨x, 2, none⟩ = some (Value.map (some b)) ∧ W.cell? ⟨wr.heap.size, 0, none⟩ = some (.int .i64 c.i) ∧ Sem.run Tryz.prog (Instr.lookup 83 (.map (some b)) (.int .i64 c.i) true) W = .ok (.tuple #[.agg e1.arr, .bool d1]) W) := hid fun W hW => ⟨(HJ0.out.on hW).cells.2.2.1, (cellAt' (heapB HCB.out hW HQ0.out) 0).trans rfl, by rw [he1, hd1]; exact run_look (HJ0.out.on hW).mp hwc⟩
        clear he1 hd1 HI HF HB
        refine rh_start (S := fun W => Below W0.heap.size W0 W) (n := 13) (listed := #[false, false, false, false, false, false, false, false, false, false, false, false, false]) (by kernel_rfl) rfl rfl ?_
        have HS0 : Hid (Below W0.heap.size W0 W0.drew) := hid (belowDrew (Below.refl _ W0))
        generalize World.drew W0 = wd at HS0 ⊢
        refine rh_takeS (i := 0) (o := ?o1) (v := ?v1) (listed' := ?l1) (a' := ?a1) ?hi1 (by kernel_rfl) (by kernel_rfl) (by kernel_rfl) ?hq1 ?hl1 ?hw1 ?hv1 ?ha1 HS0.out ?hh1
        case hi1 => (simp only [List.getElem?_toArray, List.getElem?_cons_zero]; try rfl)
        case hq1 => exact fun _ _ _ h => h
        case hl1 => (simp only [List.setIfInBounds_toArray, List.set_cons_zero]; try rfl)
        case hw1 => rfl
        case hv1 =>
          intro W hW
          obtain ⟨k2, k4, hl⟩ := HFA.out W hW
          go_simp
          try with_reducible rfl
        case ha1 => (simp only [Act.put, List.setIfInBounds_toArray, List.set_cons_succ, List.set_cons_zero]; try rfl)
        refine rh_takeS (i := 1) (o := ?o2) (v := ?v2) (listed' := ?l2) (a' := ?a2) ?hi2 (by kernel_rfl) (by kernel_rfl) (by kernel_rfl) ?hq2 ?hl2 ?hw2 ?hv2 ?ha2 HS0.out ?hh2
        case hi2 => (simp only [List.getElem?_toArray, List.getElem?_cons_succ, List.getElem?_cons_zero]; try rfl)
        case hq2 => exact fun _ _ _ h => h
        case hl2 => (simp only [List.setIfInBounds_toArray, List.set_cons_succ, List.set_cons_zero]; try rfl)
        case hw2 => rfl
        case hv2 =>
          intro W hW
          obtain ⟨k2, k4, hl⟩ := HFA.out W hW
          go_simp
          try with_reducible rfl
        case ha2 => (simp only [Act.put, List.setIfInBounds_toArray, List.set_cons_succ, List.set_cons_zero]; try rfl)
        refine rh_takeS (i := 2) (o := ?o3) (v := ?v3) (listed' := ?l3) (a' := ?a3) ?hi3 (by kernel_rfl) (by kernel_rfl) (by kernel_rfl) ?hq3 ?hl3 ?hw3 ?hv3 ?ha3 HS0.out ?hh3
        case hi3 => (simp only [List.getElem?_toArray, List.getElem?_cons_succ, List.getElem?_cons_zero]; try rfl)
        case hq3 => exact fun _ _ _ h => h
        case hl3 => (simp only [List.setIfInBounds_toArray, List.set_cons_succ, List.set_cons_zero]; try rfl)
        case hw3 => rfl
        case hv3 =>
          intro W hW
          obtain ⟨k2, k4, hl⟩ := HFA.out W hW
          go_simp
          try with_reducible rfl
        case ha3 => (simp only [Act.put, List.setIfInBounds_toArray, List.set_cons_succ, List.set_cons_zero]; try rfl)
        refine rh_takeS (i := 3) (o := ?o4) (v := ?v4) (listed' := ?l4) (a' := ?a4) ?hi4 (by kernel_rfl) (by kernel_rfl) (by kernel_rfl) ?hq4 ?hl4 ?hw4 ?hv4 ?ha4 HS0.out ?hh4
        case hi4 => (simp only [List.getElem?_toArray, List.getElem?_cons_succ, List.getElem?_cons_zero]; try rfl)
        case hq4 => exact fun _ _ _ h => h
        case hl4 => (simp only [List.setIfInBounds_toArray, List.set_cons_succ, List.set_cons_zero]; try rfl)
        case hw4 => rfl
        case hv4 =>
          intro W hW
          obtain ⟨k2, k4, hl⟩ := HFA.out W hW
          go_simp
          try with_reducible rfl
        case ha4 => (simp only [Act.put, List.setIfInBounds_toArray, List.set_cons_succ, List.set_cons_zero]; try rfl)
        refine rh_takeS (i := 4) (o := ?o5) (v := ?v5) (listed' := ?l5) (a' := ?a5) ?hi5 (by kernel_rfl) (by kernel_rfl) (by kernel_rfl) ?hq5 ?hl5 ?hw5 ?hv5 ?ha5 HS0.out ?hh5
        case hi5 => (simp only [List.getElem?_toArray, List.getElem?_cons_succ, List.getElem?_cons_zero]; try rfl)
        case hq5 => exact fun _ _ _ h => h
        case hl5 => (simp only [List.setIfInBounds_toArray, List.set_cons_succ, List.set_cons_zero]; try rfl)
        case hw5 => rfl
        case hv5 =>
          intro W hW
          obtain ⟨k2, k4, hl⟩ := HFA.out W hW
          go_simp
          try with_reducible rfl
        case ha5 => (simp only [Act.put, List.setIfInBounds_toArray, List.set_cons_succ, List.set_cons_zero]; try rfl)
        refine rh_takeS (i := 5) (o := ?o6) (v := ?v6) (listed' := ?l6) (a' := ?a6) ?hi6 (by kernel_rfl) (by kernel_rfl) (by kernel_rfl) ?hq6 ?hl6 ?hw6 ?hv6 ?ha6 HS0.out ?hh6
        case hi6 => (simp only [List.getElem?_toArray, List.getElem?_cons_succ, List.getElem?_cons_zero]; try rfl)
        case hq6 => exact fun _ _ _ h => h
        case hl6 => (simp only [List.setIfInBounds_toArray, List.set_cons_succ, List.set_cons_zero]; try rfl)
        case hw6 => rfl
        case hv6 =>
          intro W hW
          obtain ⟨k2, k4, hl⟩ := HFA.out W hW
          go_simp
          try with_reducible rfl
        case ha6 => (simp only [Act.put, List.setIfInBounds_toArray, List.set_cons_succ, List.set_cons_zero]; try rfl)
        refine rh_takeS (i := 6) (o := ?o7) (v := ?v7) (listed' := ?l7) (a' := ?a7) ?hi7 (by kernel_rfl) (by kernel_rfl) (by kernel_rfl) ?hq7 ?hl7 ?hw7 ?hv7 ?ha7 HS0.out ?hh7
        case hi7 => (simp only [List.getElem?_toArray, List.getElem?_cons_succ, List.getElem?_cons_zero]; try rfl)
        case hq7 => exact fun _ _ _ h => h
        case hl7 => (simp only [List.setIfInBounds_toArray, List.set_cons_succ, List.set_cons_zero]; try rfl)
        case hw7 => rfl
        case hv7 =>
          intro W hW
          obtain ⟨k2, k4, hl⟩ := HFA.out W hW
          go_simp
          try with_reducible rfl
        case ha7 => (simp only [Act.put, List.setIfInBounds_toArray, List.set_cons_succ, List.set_cons_zero]; try rfl)
        refine rh_takeS (i := 7) (o := ?o8) (v := ?v8) (listed' := ?l8) (a' := ?a8) ?hi8 (by kernel_rfl) (by kernel_rfl) (by kernel_rfl) ?hq8 ?hl8 ?hw8 ?hv8 ?ha8 HS0.out ?hh8
        case hi8 => (simp only [List.getElem?_toArray, List.getElem?_cons_succ, List.getElem?_cons_zero]; try rfl)
        case hq8 => exact fun _ _ _ h => h
        case hl8 => (simp only [List.setIfInBounds_toArray, List.set_cons_succ, List.set_cons_zero]; try rfl)
        case hw8 => rfl
        case hv8 =>
          intro W hW
          obtain ⟨k2, k4, hl⟩ := HFA.out W hW
          go_simp
          try with_reducible rfl
        case ha8 => (simp only [Act.put, List.setIfInBounds_toArray, List.set_cons_succ, List.set_cons_zero]; try rfl)
        refine rh_takeS (i := 8) (o := ?o9) (v := ?v9) (listed' := ?l9) (a' := ?a9) ?hi9 (by kernel_rfl) (by kernel_rfl) (by kernel_rfl) ?hq9 ?hl9 ?hw9 ?hv9 ?ha9 HS0.out ?hh9
        case hi9 => (simp only [List.getElem?_toArray, List.getElem?_cons_succ, List.getElem?_cons_zero]; try rfl)
        case hq9 => exact fun _ _ _ h => h
        case hl9 => (simp only [List.setIfInBounds_toArray, List.set_cons_succ, List.set_cons_zero]; try rfl)
        case hw9 => rfl
        case hv9 =>
          intro W hW
          obtain ⟨k2, k4, hl⟩ := HFA.out W hW
          go_simp
          try with_reducible rfl
        case ha9 => (simp only [Act.put, List.setIfInBounds_toArray, List.set_cons_succ, List.set_cons_zero]; try rfl)
        refine rh_takeS (i := 9) (o := ?o10) (v := ?v10) (listed' := ?l10) (a' := ?a10) ?hi10 (by kernel_rfl) (by kernel_rfl) (by kernel_rfl) ?hq10 ?hl10 ?hw10 ?hv10 ?ha10 HS0.out ?hh10
        case hi10 => (simp only [List.getElem?_toArray, List.getElem?_cons_succ, List.getElem?_cons_zero]; try rfl)
        case hq10 => exact fun _ _ _ h => h
        case hl10 => (simp only [List.setIfInBounds_toArray, List.set_cons_succ, List.set_cons_zero]; try rfl)
        case hw10 => rfl
        case hv10 =>
          intro W hW
          obtain ⟨k2, k4, hl⟩ := HFA.out W hW
          go_simp
          try with_reducible rfl
        case ha10 => (simp only [Act.put, List.setIfInBounds_toArray, List.set_cons_succ, List.set_cons_zero]; try rfl)
        refine wpAnyH_ready (rs := [10]) (by kernel_rfl) (by simp) ?_
        refine rh_cons (i := 10) (o := ?o11) (listed' := ?l11) ?hi11 ?hl11 ?hg11 ?hh11 ?hs11
        case hi11 => (simp only [List.getElem?_toArray, List.getElem?_cons_succ, List.getElem?_cons_zero]; try rfl)
        case hl11 => (simp only [List.setIfInBounds_toArray, List.set_cons_succ, List.set_cons_zero]; try rfl)
        case hg11 => rfl
        case hs11 => exact AllReadyH.nil
        intro K hK
        go_simp
        have HS1 : Hid (Below W0.heap.size W0 (wd.alloc zeroEc)) := hid (HS0.out.alloc HS0.out.size _)
        refine hK.out _ _ HS1.out ?_
        clear hK K
        refine wpAnyH_ready (rs := [11]) (by kernel_rfl) (by simp) ?_
        refine rh_storeC (i := 11) (o := ?o12) (listed' := ?l12) (x := ?x12) (y := ?y12) (b := wd.heap.size) (T := 67) e1 ?hi12 ?hl12 ?hg12 ?ho12 ?hx12 ?hy12 ?hd12 ?hc12 ?hh12 ?hs12
        case hi12 => (simp only [List.getElem?_toArray, List.getElem?_cons_succ, List.getElem?_cons_zero]; try rfl)
        case hl12 => (simp only [List.setIfInBounds_toArray, List.set_cons_succ, List.set_cons_zero]; try rfl)
        case hg12 => rfl
        case ho12 => rfl
        case hx12 => rfl
        case hy12 => rfl
        case hd12 => rfl
        case hc12 => exact zeroRoom wd
        case hs12 => exact AllReadyH.nil
        intro W2 hO2 hU2
        have HO2 := hid hO2
        have HS2 := hid (HS1.out.trans (hU2.below _ (HS0.out.size)))
        refine ⟨HS2.out, ?_⟩
        clear hO2 hU2
        refine rh_takeS (i := 12) (o := ?o13) (v := ?v13) (listed' := ?l13) (a' := ?a13) ?hi13 (by kernel_rfl) (by kernel_rfl) (by kernel_rfl) ?hq13 ?hl13 ?hw13 ?hv13 ?ha13 HS2.out ?hh13
        case hi13 => (simp only [List.getElem?_toArray, List.getElem?_cons_succ, List.getElem?_cons_zero]; try rfl)
        case hq13 => exact fun _ _ _ h => h
        case hl13 => (simp only [List.setIfInBounds_toArray, List.set_cons_succ, List.set_cons_zero]; try rfl)
        case hw13 => rfl
        case hv13 =>
          intro W hW
          obtain ⟨k2, k4, hl⟩ := HFA.out W hW
          go_simp
          try with_reducible rfl
        case ha13 => (simp only [Act.put, List.setIfInBounds_toArray, List.set_cons_succ, List.set_cons_zero]; try rfl)
        refine wpAnyH_done (by kernel_rfl) ?_ _
        have HJ2 := hid (HJ0.out.on HS2.out)
        have HF2 := hid (HF0.out.on HS2.out)
        have HB2 := hid (HB0.out.trans (HS2.out.mono HB0.out.size))
        have HC2 := hid (heapB HCB.out HS2.out HQ0.out)
        have HWD := hid (show wr.heap.size < wd.heap.size from Nat.lt_of_lt_of_le HQ0.out HS0.out.size)
        clear HS0 HS1 HFA HJ0 HF0 HB0 HCB HBX HS2
        rcases d1 with _ | _
        · obtain ⟨e2, he2⟩ : ∃ e, e = lookE fs c.i := ⟨_, rfl⟩
          obtain ⟨d2, hd2⟩ : ∃ d, d = hasE fs c.i := ⟨_, rfl⟩
          have HE2 := hid (And.intro he2 hd2)
          have hl2 : Sem.run Tryz.prog (Instr.lookup 83 (.map (some bf)) (.int .i64 c.i) true) W2 = .ok (.tuple #[.agg e2.arr, .bool d2]) W2 := by rw [he2, hd2]; exact run_look HF2.out hwc
          have k4 : W2.cell? ⟨wr.heap.size, 0, none⟩ = some (.int .i64 c.i) := (cellAt' HC2.out 0).trans rfl
          clear he2 hd2
          rcases d2 with _ | _
          · go_wp2_with (first
              | ((with_reducible refine storeC (x := ?sx3) (y := ?sy3) (b := wd.heap.size) (T := 67) e2 ?sg3 ?so3 ?sxx3 ?syy3 ?sc3 ?_); (case sg3 => rfl); (case so3 => rfl); (case sxx3 => rfl); (case syy3 => rfl); (case sc3 => exact HO2.out.room); intro W3 hO3 hU3
                 have HO3 := hid hO3
                 have HT3 := hid hU3.tch
                 have HJ3 := hid (HJ2.out.keptT HT3.out (by rintro k (e | e | e) e2 <;> (have := HL.out; have := HSB.out; have := HQB.out; have := HWD.out; omega)))
                 have HF3 := hid (HF2.out.keptT HT3.out (fun e => by have := HQB.out; have := HWD.out; omega))
                 have HB3 := hid (HB2.out.trans (hU3.below w.heap.size (by have := HSB.out; have := HQB.out; have := HWD.out; omega)))
                 have HC3 := hid (HT3.out.ob HC2.out (fun e => by have := HWD.out; omega))
                 clear hO3 hU3)
              | fail)
            have HFT : Hid (∀ W, Tch (fun k => k = bf) W3 W → W.cell? ⟨wr.heap.size, 0, none⟩ = some (.int .i64 c.i) ∧ W.cell? ⟨wr.heap.size, 1, none⟩ = some (.int .i64 c.k) ∧ W.cell? ⟨wr.heap.size, 2, none⟩ = some (.int .i64 c.s) ∧ W.cell? ⟨wr.heap.size, 3, none⟩ = some (.int .i64 c.t) ∧ W.cell? ⟨wr.heap.size, 4, none⟩ = some (.int .i64 c.d) ∧ W.cell? ⟨wr.heap.size, 5, none⟩ = some (.int .i64 c.p) ∧ W.cell? ⟨wr.heap.size, 6, none⟩ = some (.int .i64 c.q)) := hid fun W hW => by
              have hk := hW.ob HC3.out (fun e => by have := HQB.out; omega)
              exact ⟨(cellAt' hk 0).trans rfl, (cellAt' hk 1).trans rfl, (cellAt' hk 2).trans rfl, (cellAt' hk 3).trans rfl, (cellAt' hk 4).trans rfl, (cellAt' hk 5).trans rfl, (cellAt' hk 6).trans rfl⟩
            refine rh_start (S := fun W => Tch (fun k => k = bf) W3 W) (n := 9) (listed := #[false, false, false, false, false, false, false, false, false]) (by kernel_rfl) rfl rfl ?_
            have HD0 : Hid (Below W3.heap.size W3 W3.drew) := hid (belowDrew (Below.refl _ W3))
            have HT0 : Hid (Tch (fun k => k = bf) W3 W3.drew) := hid (Tch.ofBelow HD0.out)
            generalize World.drew W3 = wd3 at HD0 HT0 ⊢
            refine rh_takeS (i := 0) (o := ?o14) (v := ?v14) (listed' := ?l14) (a' := ?a14) ?hi14 (by kernel_rfl) (by kernel_rfl) (by kernel_rfl) ?hq14 ?hl14 ?hw14 ?hv14 ?ha14 HT0.out ?hh14
            case hi14 => (simp only [List.getElem?_toArray, List.getElem?_cons_zero]; try rfl)
            case hq14 => exact fun _ _ _ h => h
            case hl14 => (simp only [List.setIfInBounds_toArray, List.set_cons_zero]; try rfl)
            case hw14 => rfl
            case hv14 =>
              intro W hW
              obtain ⟨v0, v1, v2, v3, v4, v5, v6⟩ := HFT.out W hW
              go_simp
              try with_reducible rfl
            case ha14 => (simp only [Act.put, List.setIfInBounds_toArray, List.set_cons_succ, List.set_cons_zero]; try rfl)
            refine rh_takeS (i := 1) (o := ?o15) (v := ?v15) (listed' := ?l15) (a' := ?a15) ?hi15 (by kernel_rfl) (by kernel_rfl) (by kernel_rfl) ?hq15 ?hl15 ?hw15 ?hv15 ?ha15 HT0.out ?hh15
            case hi15 => (simp only [List.getElem?_toArray, List.getElem?_cons_succ, List.getElem?_cons_zero]; try rfl)
            case hq15 => exact fun _ _ _ h => h
            case hl15 => (simp only [List.setIfInBounds_toArray, List.set_cons_succ, List.set_cons_zero]; try rfl)
            case hw15 => rfl
            case hv15 =>
              intro W hW
              obtain ⟨v0, v1, v2, v3, v4, v5, v6⟩ := HFT.out W hW
              go_simp
              try with_reducible rfl
            case ha15 => (simp only [Act.put, List.setIfInBounds_toArray, List.set_cons_succ, List.set_cons_zero]; try rfl)
            refine rh_takeS (i := 2) (o := ?o16) (v := ?v16) (listed' := ?l16) (a' := ?a16) ?hi16 (by kernel_rfl) (by kernel_rfl) (by kernel_rfl) ?hq16 ?hl16 ?hw16 ?hv16 ?ha16 HT0.out ?hh16
            case hi16 => (simp only [List.getElem?_toArray, List.getElem?_cons_succ, List.getElem?_cons_zero]; try rfl)
            case hq16 => exact fun _ _ _ h => h
            case hl16 => (simp only [List.setIfInBounds_toArray, List.set_cons_succ, List.set_cons_zero]; try rfl)
            case hw16 => rfl
            case hv16 =>
              intro W hW
              obtain ⟨v0, v1, v2, v3, v4, v5, v6⟩ := HFT.out W hW
              go_simp
              try with_reducible rfl
            case ha16 => (simp only [Act.put, List.setIfInBounds_toArray, List.set_cons_succ, List.set_cons_zero]; try rfl)
            refine rh_takeS (i := 3) (o := ?o17) (v := ?v17) (listed' := ?l17) (a' := ?a17) ?hi17 (by kernel_rfl) (by kernel_rfl) (by kernel_rfl) ?hq17 ?hl17 ?hw17 ?hv17 ?ha17 HT0.out ?hh17
            case hi17 => (simp only [List.getElem?_toArray, List.getElem?_cons_succ, List.getElem?_cons_zero]; try rfl)
            case hq17 => exact fun _ _ _ h => h
            case hl17 => (simp only [List.setIfInBounds_toArray, List.set_cons_succ, List.set_cons_zero]; try rfl)
            case hw17 => rfl
            case hv17 =>
              intro W hW
              obtain ⟨v0, v1, v2, v3, v4, v5, v6⟩ := HFT.out W hW
              go_simp
              try with_reducible rfl
            case ha17 => (simp only [Act.put, List.setIfInBounds_toArray, List.set_cons_succ, List.set_cons_zero]; try rfl)
            refine wpAnyH_ready (rs := [4]) (by kernel_rfl) (by simp) ?_
            refine rh_cons (i := 4) (o := ?o18) (listed' := ?l18) ?hi18 ?hl18 ?hg18 ?hh18 ?hs18
            case hi18 => (simp only [List.getElem?_toArray, List.getElem?_cons_succ, List.getElem?_cons_zero]; try rfl)
            case hl18 => (simp only [List.setIfInBounds_toArray, List.set_cons_succ, List.set_cons_zero]; try rfl)
            case hg18 => rfl
            case hs18 => exact AllReadyH.nil
            intro K hK
            go_simp
            refine (cNew hokc).mono ?_
            rintro z W4 ⟨rfl, hB4⟩
            have HB4 := hid hB4
            have HT4 : Hid (Tch (fun k => k = bf) W3 W4) := hid (HT0.out.trans (Tch.ofBelow hB4))
            clear hB4
            refine hK.out _ _ HT4.out ?_
            clear hK K
            refine rh_takeS (i := 5) (o := ?o19) (v := ?v19) (listed' := ?l19) (a' := ?a19) ?hi19 (by kernel_rfl) (by kernel_rfl) (by kernel_rfl) ?hq19 ?hl19 ?hw19 ?hv19 ?ha19 HT4.out ?hh19
            case hi19 => (simp only [List.getElem?_toArray, List.getElem?_cons_succ, List.getElem?_cons_zero]; try rfl)
            case hq19 => exact fun _ _ _ h => h
            case hl19 => (simp only [List.setIfInBounds_toArray, List.set_cons_succ, List.set_cons_zero]; try rfl)
            case hw19 => rfl
            case hv19 =>
              intro W hW
              obtain ⟨v0, v1, v2, v3, v4, v5, v6⟩ := HFT.out W hW
              go_simp
              try with_reducible rfl
            case ha19 => (simp only [Act.put, List.setIfInBounds_toArray, List.set_cons_succ, List.set_cons_zero]; try rfl)
            refine rh_takeS (i := 6) (o := ?o20) (v := ?v20) (listed' := ?l20) (a' := ?a20) ?hi20 (by kernel_rfl) (by kernel_rfl) (by kernel_rfl) ?hq20 ?hl20 ?hw20 ?hv20 ?ha20 HT4.out ?hh20
            case hi20 => (simp only [List.getElem?_toArray, List.getElem?_cons_succ, List.getElem?_cons_zero]; try rfl)
            case hq20 => exact fun _ _ _ h => h
            case hl20 => (simp only [List.setIfInBounds_toArray, List.set_cons_succ, List.set_cons_zero]; try rfl)
            case hw20 => rfl
            case hv20 =>
              intro W hW
              obtain ⟨v0, v1, v2, v3, v4, v5, v6⟩ := HFT.out W hW
              go_simp
              try with_reducible rfl
            case ha20 => (simp only [Act.put, List.setIfInBounds_toArray, List.set_cons_succ, List.set_cons_zero]; try rfl)
            refine rh_takeS (i := 7) (o := ?o21) (v := ?v21) (listed' := ?l21) (a' := ?a21) ?hi21 (by kernel_rfl) (by kernel_rfl) (by kernel_rfl) ?hq21 ?hl21 ?hw21 ?hv21 ?ha21 HT4.out ?hh21
            case hi21 => (simp only [List.getElem?_toArray, List.getElem?_cons_succ, List.getElem?_cons_zero]; try rfl)
            case hq21 => exact fun _ _ _ h => h
            case hl21 => (simp only [List.setIfInBounds_toArray, List.set_cons_succ, List.set_cons_zero]; try rfl)
            case hw21 => rfl
            case hv21 =>
              intro W hW
              obtain ⟨v0, v1, v2, v3, v4, v5, v6⟩ := HFT.out W hW
              go_simp
              try with_reducible rfl
            case ha21 => (simp only [Act.put, List.setIfInBounds_toArray, List.set_cons_succ, List.set_cons_zero]; try rfl)
            refine wpAnyH_ready (rs := [8]) (by kernel_rfl) (by simp) ?_
            refine rh_put (i := 8) (o := ?o22) (listed' := ?l22) (m := ?m22) (x := ?x22) (v := ?v22) (b := bf) (n := k) (fs := fs) (newN c) ?hi22 ?hl22 ?hg22 ?ho22 ?hm22 ?hx22 ?hv22 ?hd22 ?hM22 ?hn22 ?hw22 ?hh22 ?hs22
            case hi22 => (simp only [List.getElem?_toArray, List.getElem?_cons_succ, List.getElem?_cons_zero]; try rfl)
            case hl22 => (simp only [List.setIfInBounds_toArray, List.set_cons_succ, List.set_cons_zero]; try rfl)
            case hg22 => rfl
            case ho22 => rfl
            case hm22 => rfl
            case hx22 => rfl
            case hv22 => rfl
            case hd22 => rfl
            case hM22 => exact (HF3.out.on HD0.out).on HB4.out
            case hn22 => unfold maxLen; have := HLT.out; omega
            case hw22 => exact hwc
            case hs22 => exact AllReadyH.nil
            intro W5 hM5 hg5
            have HM5 := hid hM5
            have HT5 : Hid (Tch (fun k => k = bf) W3 W5) := hid (HT4.out.trans (Tch.ofGrown hg5 fun k e => (Option.some.inj e).symm))
            refine ⟨HT5.out, ?_⟩
            clear hM5 hg5
            refine wpAnyH_done (by kernel_rfl) ?_ _
            have HJ5 := hid (HJ3.out.keptT HT5.out (by rintro k (e | e | e) e2 <;> (have := HL.out; have := HSB.out; omega)))
            have HB5 := hid (HB3.out.trans (HT5.out.below (fun k e => by have := HSB.out; omega) HB3.out.size))
            clear HT0 HD0 HFT HT4 HB4
            go_wp2_with fail
            go_roundw
            case rel => exact ⟨k + 1, by have := HLT.out; omega, by go_num, HJ5, hid (by rw [take_next HC.out, fresh_snoc, ← HFS.out, ← HE1.out.2, ← HE2.out.2, if_neg (by decide)]; exact HM5.out), hid (by rw [take_next HC.out]; exact hit_no HFI.out (by rw [← HFS.out]; unfold hitB; rw [← HE1.out.2, ← HE2.out.2]; rfl)), HB5⟩
            case measure => have := HLT.out; simp [intOf]; omega
          · rcases hsame : e2.c.same c with _ | _
            · have q1 := fun W => neqC hsame W
              have q2 := fun W => guardC .neq (.tmp 49) (.tmp 50) e2.c c W
              have HSM := hid hsame
              clear hsame
              have hnf := hit_yes HC.out HFI.out (by rw [← HFS.out]; unfold hitB; rw [← HE1.out.2, if_neg (by decide), ← HE2.out.2, ← HE2.out.1, HSM.out]; rfl)
              obtain rfl : r = 6 := by rw [HR.out]; unfold learnE; rw [if_pos HOK.out.symm, if_neg hnf]
              clear hnf
              go_wp2_with (first
                | ((with_reducible refine storeC (x := ?sx3) (y := ?sy3) (b := wd.heap.size) (T := 67) e2 ?sg3 ?so3 ?sxx3 ?syy3 ?sc3 ?_); (case sg3 => rfl); (case so3 => rfl); (case sxx3 => rfl); (case syy3 => rfl); (case sc3 => exact HO2.out.room); intro W3 hO3 hU3
                   have HO3 := hid hO3
                   have HT3 := hid hU3.tch
                   have HJ3 := hid (HJ2.out.keptT HT3.out (by rintro k (e | e | e) e2 <;> (have := HL.out; have := HSB.out; have := HQB.out; have := HWD.out; omega)))
                   have HF3 := hid (HF2.out.keptT HT3.out (fun e => by have := HQB.out; have := HWD.out; omega))
                   have HB3 := hid (HB2.out.trans (hU3.below w.heap.size (by have := HSB.out; have := HQB.out; have := HWD.out; omega)))
                   have HC3 := hid (HT3.out.ob HC2.out (fun e => by have := HWD.out; omega))
                   have u0 := HO3.out.cell (j := 0) (v := .int .i64 e2.c.i) rfl
                   have u1 := HO3.out.cell (j := 1) (v := .int .i64 e2.c.k) rfl
                   have u2 := HO3.out.cell (j := 2) (v := .int .i64 e2.c.s) rfl
                   have u3 := HO3.out.cell (j := 3) (v := .int .i64 e2.c.t) rfl
                   have u4 := HO3.out.cell (j := 4) (v := .int .i64 e2.c.d) rfl
                   have u5 := HO3.out.cell (j := 5) (v := .int .i64 e2.c.p) rfl
                   have u6 := HO3.out.cell (j := 6) (v := .int .i64 e2.c.q) rfl
                   have v0 : W3.cell? ⟨wr.heap.size, 0, none⟩ = some (.int .i64 c.i) := (cellAt' HC3.out 0).trans rfl
                   have v1 : W3.cell? ⟨wr.heap.size, 1, none⟩ = some (.int .i64 c.k) := (cellAt' HC3.out 1).trans rfl
                   have v2 : W3.cell? ⟨wr.heap.size, 2, none⟩ = some (.int .i64 c.s) := (cellAt' HC3.out 2).trans rfl
                   have v3 : W3.cell? ⟨wr.heap.size, 3, none⟩ = some (.int .i64 c.t) := (cellAt' HC3.out 3).trans rfl
                   have v4 : W3.cell? ⟨wr.heap.size, 4, none⟩ = some (.int .i64 c.d) := (cellAt' HC3.out 4).trans rfl
                   have v5 : W3.cell? ⟨wr.heap.size, 5, none⟩ = some (.int .i64 c.p) := (cellAt' HC3.out 5).trans rfl
                   have v6 : W3.cell? ⟨wr.heap.size, 6, none⟩ = some (.int .i64 c.q) := (cellAt' HC3.out 6).trans rfl
                   clear hO3 hU3)
                | fail)
              go_ret
              exact ⟨rfl, HJ3.out, Tch.ofBelow HB3.out⟩
            · have q1 := fun W => neqC hsame W
              have q2 := fun W => guardC .neq (.tmp 49) (.tmp 50) e2.c c W
              have HSM := hid hsame
              clear hsame
              go_wp2_with (first
                | ((with_reducible refine storeC (x := ?sx3) (y := ?sy3) (b := wd.heap.size) (T := 67) e2 ?sg3 ?so3 ?sxx3 ?syy3 ?sc3 ?_); (case sg3 => rfl); (case so3 => rfl); (case sxx3 => rfl); (case syy3 => rfl); (case sc3 => exact HO2.out.room); intro W3 hO3 hU3
                   have HO3 := hid hO3
                   have HT3 := hid hU3.tch
                   have HJ3 := hid (HJ2.out.keptT HT3.out (by rintro k (e | e | e) e2 <;> (have := HL.out; have := HSB.out; have := HQB.out; have := HWD.out; omega)))
                   have HF3 := hid (HF2.out.keptT HT3.out (fun e => by have := HQB.out; have := HWD.out; omega))
                   have HB3 := hid (HB2.out.trans (hU3.below w.heap.size (by have := HSB.out; have := HQB.out; have := HWD.out; omega)))
                   have HC3 := hid (HT3.out.ob HC2.out (fun e => by have := HWD.out; omega))
                   have u0 := HO3.out.cell (j := 0) (v := .int .i64 e2.c.i) rfl
                   have u1 := HO3.out.cell (j := 1) (v := .int .i64 e2.c.k) rfl
                   have u2 := HO3.out.cell (j := 2) (v := .int .i64 e2.c.s) rfl
                   have u3 := HO3.out.cell (j := 3) (v := .int .i64 e2.c.t) rfl
                   have u4 := HO3.out.cell (j := 4) (v := .int .i64 e2.c.d) rfl
                   have u5 := HO3.out.cell (j := 5) (v := .int .i64 e2.c.p) rfl
                   have u6 := HO3.out.cell (j := 6) (v := .int .i64 e2.c.q) rfl
                   have v0 : W3.cell? ⟨wr.heap.size, 0, none⟩ = some (.int .i64 c.i) := (cellAt' HC3.out 0).trans rfl
                   have v1 : W3.cell? ⟨wr.heap.size, 1, none⟩ = some (.int .i64 c.k) := (cellAt' HC3.out 1).trans rfl
                   have v2 : W3.cell? ⟨wr.heap.size, 2, none⟩ = some (.int .i64 c.s) := (cellAt' HC3.out 2).trans rfl
                   have v3 : W3.cell? ⟨wr.heap.size, 3, none⟩ = some (.int .i64 c.t) := (cellAt' HC3.out 3).trans rfl
                   have v4 : W3.cell? ⟨wr.heap.size, 4, none⟩ = some (.int .i64 c.d) := (cellAt' HC3.out 4).trans rfl
                   have v5 : W3.cell? ⟨wr.heap.size, 5, none⟩ = some (.int .i64 c.p) := (cellAt' HC3.out 5).trans rfl
                   have v6 : W3.cell? ⟨wr.heap.size, 6, none⟩ = some (.int .i64 c.q) := (cellAt' HC3.out 6).trans rfl
                   clear hO3 hU3)
                | fail)
              go_roundw
              case rel => exact ⟨k + 1, by have := HLT.out; omega, by go_num, HJ3, hid (by rw [take_next HC.out, fresh_snoc, ← HFS.out, ← HE1.out.2, ← HE2.out.2, if_pos (by decide)]; exact HF3.out.mono (by omega)), hid (by rw [take_next HC.out]; exact hit_no HFI.out (by rw [← HFS.out]; unfold hitB; rw [← HE1.out.2, if_neg (by decide), ← HE2.out.2, ← HE2.out.1, HSM.out]; rfl)), HB3⟩
              case measure => have := HLT.out; simp [intOf]; omega
        · rcases hsame : e1.c.same c with _ | _
          · have q1 := fun W => neqC hsame W
            have q2 := fun W => guardC .neq (.tmp 49) (.tmp 50) e1.c c W
            have HSM := hid hsame
            clear hsame
            have hnf := hit_yes HC.out HFI.out (by rw [← HFS.out]; unfold hitB; rw [← HE1.out.2, if_pos rfl, ← HE1.out.1, HSM.out]; rfl)
            obtain rfl : r = 6 := by rw [HR.out]; unfold learnE; rw [if_pos HOK.out.symm, if_neg hnf]
            clear hnf
            have u0 := HO2.out.cell (j := 0) (v := .int .i64 e1.c.i) rfl
            have u1 := HO2.out.cell (j := 1) (v := .int .i64 e1.c.k) rfl
            have u2 := HO2.out.cell (j := 2) (v := .int .i64 e1.c.s) rfl
            have u3 := HO2.out.cell (j := 3) (v := .int .i64 e1.c.t) rfl
            have u4 := HO2.out.cell (j := 4) (v := .int .i64 e1.c.d) rfl
            have u5 := HO2.out.cell (j := 5) (v := .int .i64 e1.c.p) rfl
            have u6 := HO2.out.cell (j := 6) (v := .int .i64 e1.c.q) rfl
            have v0 : W2.cell? ⟨wr.heap.size, 0, none⟩ = some (.int .i64 c.i) := (cellAt' HC2.out 0).trans rfl
            have v1 : W2.cell? ⟨wr.heap.size, 1, none⟩ = some (.int .i64 c.k) := (cellAt' HC2.out 1).trans rfl
            have v2 : W2.cell? ⟨wr.heap.size, 2, none⟩ = some (.int .i64 c.s) := (cellAt' HC2.out 2).trans rfl
            have v3 : W2.cell? ⟨wr.heap.size, 3, none⟩ = some (.int .i64 c.t) := (cellAt' HC2.out 3).trans rfl
            have v4 : W2.cell? ⟨wr.heap.size, 4, none⟩ = some (.int .i64 c.d) := (cellAt' HC2.out 4).trans rfl
            have v5 : W2.cell? ⟨wr.heap.size, 5, none⟩ = some (.int .i64 c.p) := (cellAt' HC2.out 5).trans rfl
            have v6 : W2.cell? ⟨wr.heap.size, 6, none⟩ = some (.int .i64 c.q) := (cellAt' HC2.out 6).trans rfl
            go_wp2_with fail
            go_ret
            exact ⟨rfl, HJ2.out, Tch.ofBelow HB2.out⟩
          · have q1 := fun W => neqC hsame W
            have q2 := fun W => guardC .neq (.tmp 49) (.tmp 50) e1.c c W
            have HSM := hid hsame
            clear hsame
            have u0 := HO2.out.cell (j := 0) (v := .int .i64 e1.c.i) rfl
            have u1 := HO2.out.cell (j := 1) (v := .int .i64 e1.c.k) rfl
            have u2 := HO2.out.cell (j := 2) (v := .int .i64 e1.c.s) rfl
            have u3 := HO2.out.cell (j := 3) (v := .int .i64 e1.c.t) rfl
            have u4 := HO2.out.cell (j := 4) (v := .int .i64 e1.c.d) rfl
            have u5 := HO2.out.cell (j := 5) (v := .int .i64 e1.c.p) rfl
            have u6 := HO2.out.cell (j := 6) (v := .int .i64 e1.c.q) rfl
            have v0 : W2.cell? ⟨wr.heap.size, 0, none⟩ = some (.int .i64 c.i) := (cellAt' HC2.out 0).trans rfl
            have v1 : W2.cell? ⟨wr.heap.size, 1, none⟩ = some (.int .i64 c.k) := (cellAt' HC2.out 1).trans rfl
            have v2 : W2.cell? ⟨wr.heap.size, 2, none⟩ = some (.int .i64 c.s) := (cellAt' HC2.out 2).trans rfl
            have v3 : W2.cell? ⟨wr.heap.size, 3, none⟩ = some (.int .i64 c.t) := (cellAt' HC2.out 3).trans rfl
            have v4 : W2.cell? ⟨wr.heap.size, 4, none⟩ = some (.int .i64 c.d) := (cellAt' HC2.out 4).trans rfl
            have v5 : W2.cell? ⟨wr.heap.size, 5, none⟩ = some (.int .i64 c.p) := (cellAt' HC2.out 5).trans rfl
            have v6 : W2.cell? ⟨wr.heap.size, 6, none⟩ = some (.int .i64 c.q) := (cellAt' HC2.out 6).trans rfl
            go_wp2_with fail
            go_roundw
            case rel => exact ⟨k + 1, by have := HLT.out; omega, by go_num, HJ2, hid (by rw [take_next HC.out, fresh_snoc, ← HFS.out, ← HE1.out.2, Bool.true_or, if_pos rfl]; exact HF2.out.mono (by omega)), hid (by rw [take_next HC.out]; exact hit_no HFI.out (by rw [← HFS.out]; unfold hitB; rw [← HE1.out.2, if_pos rfl, ← HE1.out.1, HSM.out]; rfl)), HB2⟩
            case measure => have := HLT.out; simp [intOf]; omega
      · obtain rfl : k = m := by omega
        rw [HN.out, List.take_length] at HF HFI
        rw [← HN.out] at HF
        obtain rfl : r = 0 := by rw [HR.out]; unfold learnE; rw [if_pos HOK.out.symm, if_pos HFI.out]
        obtain ⟨D, hD, hS⟩ := HF.out
        have HS := hid hS
        have HSZ := hid hD.size_le
        have HBF := hid hD.lt
        go_wp2_with (first
          | (at_range; refine wpList_range_own _ rfl _ 83 rfl 3 67 (Maps.int_keyed Tryz.underlying3) Tryz.underlying83 RE bf k _ rfl hD ?_; intro w0 hrg0 hg0 hs0)
          | fail)
        go_frame
        obtain ⟨R, hR⟩ : ∃ R, R = wr.heap.size := ⟨_, rfl⟩
        rw [← hR] at hrg0 ⊢
        have HRG := hid hrg0
        have HRW : Hid (w.heap.size ≤ R) := hid (by rw [hR]; exact HB.out.size)
        have HRB : Hid (bf < R) := hid (by rw [hR]; exact HBF.out)
        have HB0 : Hid (Below w.heap.size w w0) := hid (HB.out.trans (grownBelow' hg0 HB.out.size))
        have HI0 := hid (HI.out.on (grownBelow' hg0 (Nat.le_refl _)))
        clear hD hS hrg0 hg0 hs0 HF HI hR HB
        go_loopw [66] (fun _ wz => ∃ (left : Lit → Bool) (cnt : Nat) (ys : List En), wz.ranges Tryz.prog 3 RE bf R k D left cnt ∧ ys.length + cnt ≤ Maps.size D ∧ CollectedI D left (ys.map En.id) ∧ (∀ y ∈ ys, lookG En.id (freshF xs cs) y.id = some y) ∧ Ix wz x b b2 (n + ys.length) nd c0 (xs ++ ys) (ids ++ ys.map En.id) ∧ Tch (TI x b b2) w wz) (fun _ wz => wz.rangeLeft bf R)
        case atStart => exact ⟨_, _, [], HRG.out, by simp, CollectedI.start D, by simp, by simpa using HI0.out, Tch.ofBelow HB0.out⟩
        case round =>
          clear HI0 HRG HB0
          obtain ⟨left, cnt, ys, hrg, hcs2, hC, hV, hI, hT⟩ := hrel
          have HI := hid hI
          have HT := hid hT
          have HCS := hid hcs2
          have HV := hid hV
          have HCO := hid hC
          have HR0 := hid hrg
          clear hI hT hcs2 hV hC
          go_wp2_with (first
            | (at_next; refine wpList_next_ranges _ rfl _ rfl 3 (Maps.int_keyed Tryz.underlying3) RE encZ (fun e : Ev => Value.agg e.arr) (fun key kl hk => by obtain ⟨x, hx, _⟩ := Maps.keyOf_i64 Tryz.underlying3 hk; exact ⟨x, hx⟩) (fun v y hv => by obtain ⟨e, rfl, _⟩ := RE_inv hv; exact ⟨e, rfl⟩) bf R k _ _ _ rfl hrg ?_ ?_)
            | fail)
          · intro hc0 hl0
            have HA : Hid (AllEn (freshF xs cs) ys) := hid (allEn_of HS.out HCO.out hl0 HV.out)
            have HLN : Hid (ys.length ≤ k) := hid (by have := HCS.out; have := HSZ.out; omega)
            clear hrg hc0 hl0
            go_wp2_with fail
            go_ret
            refine ⟨rfl, ?_, HT.out⟩
            exact (HI.out.mono (by have := HLN.out; omega)).congr (fun i => by rw [look_append, look_append, look_all HA.out]) (fun i => by rw [List.mem_append, List.mem_append, all_ids HA.out])
          · intro kx ev kl yd yp w2 cnt2 hkey hlk hv hat hrg2 hlt2 hg2 hs2 hen
            obtain ⟨x', ex, rfl, hwf⟩ := Maps.keyOf_i64 Tryz.underlying3 hkey
            obtain rfl : kx = x' := encZ_inj ex
            rw [RE_mk] at hv
            obtain rfl : yd = .held (.agg ev.arr) := by cases hv; rfl
            obtain ⟨y, hy, rfl, hci⟩ := says_at HS.out hat
            obtain rfl : y.id = kx := hci
            have hb2 : Below w.heap.size wr w2 := ⟨hg2.os, hg2.tape, hg2.output, hg2.size, fun k hk => hg2.block k (Nat.lt_of_lt_of_le hk HT.out.size) (fun e => by have := Option.some.inj e; have := HRW.out; omega)⟩
            have HT2 := hid (tch_below HT.out hb2)
            have HI2 := hid (HI.out.keptT (Tch.ofGrown (S := fun k => k = R) hg2 fun k e => (Option.some.inj e).symm) (by rintro k (e | e | e) e2 <;> (have := HL.out; have := HRW.out; omega)))
            have HR2 := hid hrg2
            have HLT2 := hid hlt2
            have HC2 := hid (show CollectedI D (fun z => left z && !z.sameKey (key y.id)) ((ys ++ [y]).map En.id) by have := HCO.out.step hlk hat; simpa using this)
            have HV2 := hid (show ∀ z ∈ ys ++ [y], lookG En.id (freshF xs cs) z.id = some z from fun z hz => (List.mem_append.1 hz).elim (HV.out z) (fun h => by simp at h; subst h; exact hy))
            clear hs2 hrg2 hlt2 hv hat hkey hlk hg2 hb2 hy ex hrg HCO HV HT HI
            go_wp2_with (first
              | ((with_reducible refine storeC (x := ?sx1) (y := ?sy1) (b := w2.heap.size) (T := 67) y.e ?sg1 ?so1 ?sxx1 ?syy1 ?sc1 ?_); (case sg1 => rfl); (case so1 => rfl); (case sxx1 => rfl); (case syy1 => rfl); (case sc1 => exact zeroRoom w2); intro W4 hO4 hU4
                 have hb4 : Below w2.heap.size w2 W4 := ((Below.refl _ w2).alloc (Nat.le_refl _) _).trans (hU4.below _ (Nat.le_refl _))
                 have HX4 := hid hO4
                 have HI4 := hid (HI2.out.on hb4)
                 have HT4 := hid (HT2.out.trans (Tch.ofBelow hb4))
                 have HR4 := hid (HR2.out.kept (grownBelow hb4 none) (by simp) (by simp))
                 clear hU4 hb4 hO4)
              | ((with_reducible refine loadC (x := ?cx2) (b := w2.heap.size) (T := 67) y.e ?cg2 ?co2 ?cxx2 ?cc2 ?_); (case cg2 => rfl); (case co2 => rfl); (case cxx2 => rfl); (case cc2 => exact HX4.out))
              | fail)
            go_at_call 71
            refine (cKeep HI4.out (by have := HCS.out; have := HSZ.out; unfold maxLen; omega) hwf).mono ?_
            rintro q W5 ⟨rfl, hJ5, hT5⟩
            have HR5 := hid (ranges_tch HR4.out hT5 (by rintro (e | e | e) <;> (have := HL.out; have := HSB.out; omega)) (by rintro (e | e | e) <;> (have := HL.out; have := HRW.out; omega)))
            have HJ5 := hid hJ5
            have HT5 := hid (HT4.out.trans hT5)
            clear hJ5 hT5
            go_wp2_with fail
            go_roundw
            case rel => exact ⟨_, cnt2, ys ++ [y], HR5.out, by have := HCS.out; have := HLT2.out; simp; omega, HC2.out, HV2.out, by have := HJ5.out; rw [List.append_assoc, List.append_assoc] at this; simpa [Nat.add_assoc] using this, HT5.out⟩
            case measure => rw [HR5.out.left_eq, HR0.out.left_eq]; exact HLT2.out
end Go.Proofs.YtlehcaacfgocaaaGreat

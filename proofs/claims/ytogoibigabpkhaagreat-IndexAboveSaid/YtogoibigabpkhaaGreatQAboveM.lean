import Derived.Test.YtogoibigabpkhaaGreatQTellsM
import Derived.Test.YtogoibigabpkhaaGreatQRNewM
/- The law's second: what Tick tells is above all. -/
namespace Go.Proofs.YtogoibigabpkhaaGreat
set_option linter.unusedVariables false
open Go.RowKit
open Go.Lib (hid)

theorem pv_lt {w : World} {x b b2 p N : Nat} {nd c c' : Int} {xs : List En} (h : Pv w x b b2 p N nd c c' xs) : ∀ k, TP x b b2 p k → k < w.heap.size := by
  obtain ⟨n, ids, hI, hn, hi, v, u, hR⟩ := h.ix
  have h1 := hI.lt
  have h2 := hR.lt
  rintro k ((rfl | rfl | rfl) | rfl) <;> omega
theorem slN_len {w : World} {s : Sv} {cs : List C7} (h : Sl w s.v cs) : s.n = cs.length := by
  obtain ⟨b, o, cap, a, hv, _⟩ := h
  injection hv
theorem new_ok {n : Int} (h : 0 ≤ n ∧ n ≤ 8) : newR n 0 [] = 0 := by
  unfold newR inB
  rw [if_pos (by simp; omega), if_pos (by simp)]
/-- All timestamps of entries are below the next. -/
def FineA (c : Int) (xs : List En) : Prop := ∀ y ∈ xs, y.e.hi < 16 * (c + 1) ∧ y.e.vt < 16 * (c + 1)
theorem FineA.mono {c d : Int} {xs : List En} (h : FineA c xs) (hd : c ≤ d) : FineA d xs := fun y hy => by obtain ⟨h1, h2⟩ := h y hy; omega
theorem see_le (c t : Int) : c ≤ seeI c t := by unfold seeI; split <;> omega
theorem see_ge (c t : Int) : countI t ≤ seeI c t := by unfold seeI; split <;> omega
theorem FineA.look {c : Int} {xs : List En} (h : FineA c xs) (hc : 0 ≤ c) (i : Int) : (lookE xs i).hi < 16 * (c + 1) ∧ (lookE xs i).vt < 16 * (c + 1) := by
  cases hq : lookG En.id xs i with
  | none => rw [(lookE_none hq).1]; exact ⟨show (0 : Int) < _ by omega, show (0 : Int) < _ by omega⟩
  | some y => rw [(lookE_some hq).1]; exact h y (look_key En.id xs _ y hq).2
theorem valid_lt {t : Int} (h : t = 0 ∨ validB t = true) : t < 16 * (countI t + 1) := by
  rcases h with rfl | h
  · decide
  · unfold validB at h
    simp only [decide_eq_true_eq] at h
    unfold countI
    rw [if_pos h]
    omega
theorem times_hi {lo hi : Int} (h : timesB lo hi = true) : hi = 0 ∨ validB hi = true := by
  unfold timesB at h
  simp only [Bool.or_eq_true, Bool.and_eq_true, decide_eq_true_eq] at h
  rcases h with h | h
  · exact .inl h.2
  · exact .inr h.1.2
theorem must_t {t : Int} {l : List C7} {b : Bool} (h : mustB t l b = true) : t = 0 ∨ validB t = true := by
  unfold mustB fullB noneB at h
  simp only [Bool.or_eq_true, Bool.and_eq_true, decide_eq_true_eq] at h
  rcases h with h | h
  · exact .inr h.2.1
  · exact .inl h.2.1
theorem right_fine {c : Int} {y : En} (h : y.right = true) : y.e.hi < 16 * (seeE c y.e + 1) ∧ y.e.vt < 16 * (seeE c y.e + 1) := by
  unfold En.right rightE at h
  simp only [Bool.and_eq_true] at h
  obtain ⟨⟨⟨⟨⟨⟨_, _⟩, h3⟩, _⟩, _⟩, _⟩, h7⟩ := h
  have a1 := valid_lt (times_hi h3)
  have a2 := valid_lt (must_t h7)
  have b1 := see_ge c y.e.hi
  have b2 := see_le (seeI c y.e.hi) y.e.ft
  have b3 := see_le (seeI (seeI c y.e.hi) y.e.ft) y.e.xt
  have b4 := see_le (seeI (seeI (seeI c y.e.hi) y.e.ft) y.e.xt) y.e.vt
  have b5 := see_ge (seeI (seeI (seeI c y.e.hi) y.e.ft) y.e.xt) y.e.vt
  unfold seeE
  constructor <;> omega
theorem seeE_le (c : Int) (e : Ev) : c ≤ seeE c e := by
  have b1 := see_le c e.hi
  have b2 := see_le (seeI c e.hi) e.ft
  have b3 := see_le (seeI (seeI c e.hi) e.ft) e.xt
  have b4 := see_le (seeI (seeI (seeI c e.hi) e.ft) e.xt) e.vt
  unfold seeE
  omega
theorem cStepA {w : World} {x b b2 p N : Nat} {nd c c' : Int} {xs : List En} {a : Ac} (h : Pv w x b b2 p N nd c c' xs) (hN : N ≤ 5000) (ha : a.at w) (hsh : a.y.short 80) (hcs : a.cs.length ≤ 40) (h1 : a.k % 6 ≠ 1) (hF : FineA c xs) :
    Calls Tryz.prog 10 #[ptr x, ptr p, .agg a.arr] w fun e w' => ∃ c1 c1' xs', e = .returned (.bool true) ∧ Pv w' x b b2 p (N + 40) nd c1 c1' xs' ∧ c ≤ c1 ∧ (a.k % 6 = 0 → countI a.t ≤ c1) ∧ FineA c1 xs' ∧ Tch (TP x b b2 p) w w' := by
  have h256 := ha.2.2.1
  have hc0 := h.cb.1
  rcases (by omega : a.k % 6 = 0 ∨ a.k % 6 = 2 ∨ a.k % 6 = 3 ∨ a.k % 6 = 4 ∨ a.k % 6 = 5) with hk | hk | hk | hk | hk
  · exact (cStep0 h hk h256).mono fun e w' ⟨h1, h2, h3⟩ => ⟨_, _, _, h1, h2.mono (by omega), see_le _ _, fun _ => see_ge _ _, hF.mono (see_le _ _), h3⟩
  · refine (cStep2 h hk h256 hN ha hcs).mono fun e w' ⟨h1, ⟨xs', h2, h4⟩, h3⟩ => ⟨_, _, _, h1, h2, Int.le_refl _, fun h => by omega, fun y hy => ?_, h3⟩
    rcases h4 y hy with hy | ⟨c, rfl⟩
    · exact hF y hy
    · exact ⟨show (0 : Int) < _ by omega, show (0 : Int) < _ by omega⟩
  · refine (cStep3 h hk h256 hN ha hsh).mono ?_
    rintro e w' ⟨h1, ⟨c1, c2, xs', h2, h4⟩, h3⟩
    rcases h4 with ⟨rfl, rfl, rfl⟩ | ⟨rfl, hr, rfl, rfl⟩
    · exact ⟨_, _, _, h1, h2.mono (by omega), Int.le_refl _, fun h => by omega, hF, h3⟩
    · refine ⟨_, _, _, h1, h2.mono (by omega), seeE_le _ _, fun h => by omega, fun y hy => ?_, h3⟩
      rcases List.mem_append.1 hy with hy | hy
      · exact hF.mono (seeE_le _ _) y hy
      · simp at hy; subst hy; exact right_fine hr
  · refine (cStep4 h hk h256 hN ha hsh).mono ?_
    rintro e w' ⟨h1, ⟨c1, c2, xs', h2, h4⟩, h3⟩
    rcases h4 with ⟨rfl, rfl, rfl⟩ | ⟨rfl, hr, rfl, rfl⟩
    · exact ⟨_, _, _, h1, h2.mono (by omega), Int.le_refl _, fun h => by omega, hF, h3⟩
    · refine ⟨_, _, _, h1, h2.mono (by omega), seeE_le _ _, fun h => by omega, fun y hy => ?_, h3⟩
      rcases List.mem_append.1 hy with hy | hy
      · exact hF.mono (seeE_le _ _) y hy
      · simp at hy; subst hy; exact right_fine hr
  · exact (cStep5 h hk h256 hN).mono fun e w' ⟨h1, h2, h3⟩ => ⟨_, _, _, h1, h2.mono (by omega), Int.le_refl _, fun h => by omega, hF, h3⟩
set_option maxHeartbeats 16000000 in
set_option maxRecDepth 100000 in
theorem cIAbove {w : World} {nd : Int} {va : Value} {acs : List Ac} (hnd : 0 ≤ nd ∧ nd ≤ 255) (hac : SlAc w va acs) (hAt : ∀ a ∈ acs, a.at w) (hal : acs.length ≤ 9223372036854775807) :
    Calls Tryz.prog 4 #[.int .u8 nd, va] w fun e w' => e = .returned (.bool true) ∧ Below w.heap.size w w' := by
  have HIA := hid cIAlive
  obtain ⟨n9, hn9⟩ : ∃ n, n = nd.tmod 9 := ⟨_, rfl⟩
  have h9 : 0 ≤ n9 ∧ n9 ≤ 8 := by rw [hn9, Int.tmod_eq_emod_of_nonneg hnd.1]; omega
  have hn9' := hn9.symm
  obtain ⟨ab, ao, acap, aa, rfl, haa, hac1, hab⟩ := hac
  obtain ⟨m, hm⟩ : ∃ m, m = acs.length := ⟨_, rfl⟩
  rw [← hm] at haa hab hal ⊢
  have HN9 := hid h9
  have HAT := hid hAt
  have HM := hid hm
  have HAC := hid hac1
  have HAB := hid hab
  have HAP := hid haa
  have HW0 := hid (Below.refl w.heap.size w)
  clear hAt hac1 hab haa hm hn9
  have hal0 : (0 : Int) ≤ m := by omega
  go_enter Tryz.func4, Tryz.ntmps4
  by_cases ha40 : 40 < m
  · have hi40 : ((40 : Int) < m) := by omega
    go_wp2_with fail
    go_at_call 6
    refine (HIA.out w).mono ?_
    rintro e wz ⟨rfl, hBz⟩
    have HBz := hid (HW0.out.trans (hBz.mono HW0.out.size))
    clear hBz
    go_wp2_with fail
    go_ret
    exact ⟨rfl, HBz.out⟩
  have hi40 : ¬ ((40 : Int) < m) := by omega
  have HA40 := hid ha40
  clear ha40
  go_wp2_with fail
  go_at_call 7
  refine (cINew (l := []) (SlG.nil _ _ _) (fun y hy => by simp at hy) (fun y hy => by simp at hy) (by simp) n9 0 (r := 0) (new_ok HN9.out).symm).mono ?_
  rintro e w2 ⟨hB2, hif⟩
  rw [if_pos rfl] at hif
  obtain ⟨x, b, b2, rfl, hI, hx, hb, hb2⟩ := hif
  have HI := hid hI
  have HLX := hid (And.intro hx (And.intro hb hb2))
  have HB2 := hid hB2
  clear hI hx hb hb2 hB2
  go_wp2_with fail
  have hpv : Pv (w2.alloc (.cells #[.int .i64 n9, .int .i64 0, .slice none 0 0, .slice none 0 0] 52)) x b b2 w2.heap.size (0 + 40 * 0) n9 0 0 [] := by
    have hb : Below w2.heap.size w2 (w2.alloc (.cells #[.int .i64 n9, .int .i64 0, .slice none 0 0, .slice none 0 0] 52)) := (Below.refl _ w2).alloc (Nat.le_refl _) _
    exact ⟨⟨0, [], HI.out.on hb, Nat.le_refl _, Nat.le_refl _, _, _, ⟨heap_alloc_new w2 _, World.ownsRow_nil _ _ _ _, OwnI.nil _ _⟩⟩, Nat.le_refl _, (fun y hy => by simp at hy), (fun y hy => by simp at hy), by decide, by decide⟩
  have HPV := hid hpv
  have HB3 : Hid (Below w.heap.size w (w2.alloc (.cells #[.int .i64 n9, .int .i64 0, .slice none 0 0, .slice none 0 0] 52))) := hid (HB2.out.trans (((Below.refl _ w2).alloc (Nat.le_refl _) _).mono HB2.out.size))
  obtain ⟨p, hp⟩ : ∃ p, p = w2.heap.size := ⟨_, rfl⟩
  have HLP := hid (show w.heap.size ≤ p by rw [hp]; exact HB2.out.size)
  generalize w2.alloc (.cells #[.int .i64 n9, .int .i64 0, .slice none 0 0, .slice none 0 0] 52) = w3 at HPV HB3 ⊢
  rw [← hp] at HPV ⊢
  have HS : Hid (∀ k, TP x b b2 p k → w.heap.size ≤ k) := hid (by
    obtain ⟨h1, h2, h3⟩ := HLX.out
    have h4 := HLP.out
    rintro k ((rfl | rfl | rfl) | rfl) <;> omega)
  clear hpv HI HLX HB2 HLP hp
  go_loopw [9, 10] (fun most i wr => ∃ (k : Nat) (mo cc c' : Int) (xs : List En), k ≤ m ∧ k ≤ 40 ∧ most = .int .i64 mo ∧ i = .int .i64 k ∧ Hid (Pv wr x b b2 p (0 + 40 * k) n9 cc c' xs) ∧ Hid (FineA cc xs) ∧ Hid (mo < 16 * (cc + 1)) ∧ Hid (Below w.heap.size w wr)) (fun _ i _ => m - (RowKit.intOf i).toNat)
  case atStart => exact ⟨0, 0, _, _, _, Nat.zero_le _, by omega, rfl, rfl, HPV, hid (fun y hy => by simp at hy), hid (by decide), HB3⟩
  case round =>
    obtain ⟨k, mo, cc, c', xs, hk, hk40, rfl, rfl, HP, HF, HMO, HB⟩ := hrel
    clear HPV HB3
    by_cases hlt : k < m
    · have hlti : ((k : Int) < m) := by omega
      obtain rfl := HAP.out (by omega)
      obtain ⟨a, ha⟩ : ∃ a, acs[k]? = some a := ⟨acs[k]'(by rw [← HM.out]; exact hlt), List.getElem?_eq_getElem (by rw [← HM.out]; exact hlt)⟩
      have hbw := HAB.out (by omega)
      have HC : Hid (wr.rangeAt ab (ao + k * 22) a.list) := hid ((HAC.out.on HB.out fun _ => hbw) k a ha)
      have HAW := hid (HAT.out a (List.mem_of_getElem? ha))
      have HAA := hid (HAW.out.on HB.out)
      clear ha
      go_wp2_with (first
        | ((with_reducible refine loadAl (x := ?lx1) (b := ?lb1) (o := ?lo1) a ?lg1 ?lp1 ?lxx1 ?lc1 ?_); (case lg1 => rfl); (case lp1 => rfl); (case lxx1 => rfl); (case lc1 => exact HC.out))
        | ((with_reducible refine storeA (x := ?sx1) (y := ?sy1) (b := wr.heap.size) a ?sg1 ?so1 ?sxx1 ?syy1 ?sc1 ?sh1); (case sg1 => rfl); (case so1 => rfl); (case sxx1 => rfl); (case syy1 => rfl); (case sc1 => exact zeroRoomA wr); intro W9 hO hU; have HO9 := hid hO; have HB9 := hid (((Below.refl wr.heap.size wr).alloc (Nat.le_refl _) zeroAc).trans (hU.below wr.heap.size (Nat.le_refl _))); clear hO hU)
        | ((with_reducible refine loadEl (T := 44) (x := ?ex1) (b := ?eb1) (o := ?eo1) uE iE a.y.e ?eg1 ?ep1 ?exx1 ?ec1 ?_); (case eg1 => rfl); (case ep1 => rfl); (case exx1 => rfl); (case ec1 => exact OA.ent HO9.out))
        | ((with_reducible refine wpList_bsE (x := ?bx1) a.y.e ?bg1 ?bo1 ?bxx1 ?bh1); (case bg1 => rfl); (case bo1 => rfl); (case bxx1 => rfl); intro W8 hO hU; have HO8 := hid hO; have HB8 := hid (HB9.out.trans (hU.mono HB9.out.size)); have HU8 := hid hU; clear hO hU)
        | fail)
      go_at_call 5
      refine (cFitsL (l := [a.y]) (slE_one HO8.out) (fun z hz => by simp at hz; subst hz; exact HAA.out.2.1.on HB8.out) (by simp)).mono ?_
      rintro e w4 ⟨hr, hB4⟩
      have HB4 := hid (HB8.out.trans (hB4.mono HB8.out.size))
      have HBw4 := hid (HB.out.trans (HB4.out.mono HB.out.size))
      have ho8 := heapB HO9.out HU8.out (Array.getElem?_eq_some_iff.1 HO9.out).1
      have HO4 := hid (show OA w4 wr.heap.size a from heapB ho8 hB4 (Array.getElem?_eq_some_iff.1 ho8).1)
      clear ho8 hB4 HO9 HB9 HO8 HB8 HU8 HC hbw
      rcases hr with rfl | ⟨rfl, -, hsh⟩
      · go_wp2_with fail
        go_at_call 6
        refine (HIA.out w4).mono ?_
        rintro e wz ⟨rfl, hBz⟩
        have HBz := hid (HBw4.out.trans (hBz.mono HBw4.out.size))
        clear hBz
        go_wp2_with fail
        go_ret
        exact ⟨rfl, HBz.out⟩
      have k2 : w4.cell? ⟨wr.heap.size, 2, none⟩ = some (.slice a.l.a a.l.n a.l.c) := OA.cell HO4.out rfl
      have k0 : w4.cell? ⟨wr.heap.size, 0, none⟩ = some (.int .u8 a.k) := OA.cell HO4.out rfl
      have HSHa := hid (hsh a.y (by simp))
      clear hsh
      by_cases hn40 : 40 < a.l.n
      · have hj40 : ((40 : Int) < a.l.n) := by omega
        go_wp2_with fail
        go_at_call 6
        refine (HIA.out w4).mono ?_
        rintro e wz ⟨rfl, hBz⟩
        have HBz := hid (HBw4.out.trans (hBz.mono HBw4.out.size))
        clear hBz
        go_wp2_with fail
        go_ret
        exact ⟨rfl, HBz.out⟩
      have hj40 : ¬ ((40 : Int) < a.l.n) := by omega
      have HCL := hid (show a.cs.length ≤ 40 from by have := slN_len HAA.out.1; omega)
      by_cases hk1 : a.k % 6 = 1
      · by_cases hov : 65535 < cc + 1
        · have hm6 := tmod6 hk1
          clear hk1
          go_wp2_with fail
          go_at_call 17
          obtain ⟨n5, ids5, hI5, hn5, hi5, v5, u5, hR5⟩ := HP.out.ix
          have hT := cTick (hI5.on HB4.out) HP.out.cb
          have hcb := HP.out.cb
          have hmo := HMO.out
          have h9 := HN9.out
          have e1 : mkE (cc + 1) n9 = 8 := by unfold mkE; rw [if_neg (by omega), if_pos (by omega)]
          have e2 : mkV (cc + 1) n9 = 0 := by unfold mkV; rw [if_pos (by omega)]
          rw [e1, e2, if_neg (by decide)] at hT
          clear e1 e2 hcb hmo h9
          refine hT.mono ?_
          rintro e w5 ⟨rfl, hI, ht⟩
          have HI5 := hid hI
          have HR5 := hid ((hR5.on HB4.out).keptT (ht.mono (fun k hk => Or.inl hk) : Tch (TI x b b2) _ w5) (fun hk => hI5.not hR5 _ hk rfl) (hI5.on HB4.out).offs)
          have HA5 := hid ((HP.out.all.on HB4.out).tch ht (fun k hk => (hI5.on HB4.out).nocell k (Or.inl hk)))
          have HB5 := hid (HBw4.out.trans (ht.below (fun k hk => HS.out k (Or.inl (Or.inl hk))) HBw4.out.size))
          have HNI := hid (And.intro hn5 hi5)
          clear hT hI ht hR5 hI5 k0 k2 hn5 hi5
          go_wp2_with fail
          go_roundw
          case rel => exact ⟨k + 1, _, cc, c', xs, by omega, by have := HA40.out; omega, rfl, by go_num, hid ⟨⟨n5, ids5, HI5.out, by have := HNI.out.1; omega, by have := HNI.out.2; omega, v5, u5, HR5.out⟩, by have := HP.out.len; omega, HA5.out, HP.out.sh, HP.out.cb, HP.out.cb'⟩, HF, hid (by have := HMO.out; have := HP.out.cb; omega), HB5⟩
          case measure => simp [RowKit.intOf]; omega
        · have hm6 := tmod6 hk1
          clear hk1
          go_wp2_with fail
          go_at_call 17
          obtain ⟨n5, ids5, hI5, hn5, hi5, v5, u5, hR5⟩ := HP.out.ix
          have hT := cTick (hI5.on HB4.out) HP.out.cb
          have hcb := HP.out.cb
          have hmo := HMO.out
          have h9 := HN9.out
          have e1 : mkE (cc + 1) n9 = 0 := by unfold mkE; rw [if_neg (by omega), if_neg (by omega)]
          have e2 : mkV (cc + 1) n9 = 16 * (cc + 1) + n9 := by unfold mkV; rw [if_neg (by omega)]
          rw [e1, e2, if_pos rfl] at hT
          obtain ⟨tv, htv⟩ : ∃ t, t = 16 * (cc + 1) + n9 := ⟨_, rfl⟩
          rw [← htv] at hT
          have t1 : ¬ tv ≤ mo := by omega
          have t2 : tv.tmod 16 = n9 := by rw [Int.tmod_eq_emod_of_nonneg (by omega)]; omega
          have t3 : ¬ tv = 0 := by omega
          have HTV := hid (show mo < tv ∧ tv < 16 * (cc + 1 + 1) by omega)
          have HCC := hid (show 0 ≤ cc + 1 ∧ cc + 1 ≤ 65535 by omega)
          clear e1 e2 hcb hmo h9 htv
          refine hT.mono ?_
          rintro e w5 ⟨rfl, hI, ht⟩
          have HI5 := hid hI
          have HR5 := hid ((hR5.on HB4.out).keptT (ht.mono (fun k hk => Or.inl hk) : Tch (TI x b b2) _ w5) (fun hk => hI5.not hR5 _ hk rfl) (hI5.on HB4.out).offs)
          have HA5 := hid ((HP.out.all.on HB4.out).tch ht (fun k hk => (hI5.on HB4.out).nocell k (Or.inl hk)))
          have HB5 := hid (HBw4.out.trans (ht.below (fun k hk => HS.out k (Or.inl (Or.inl hk))) HBw4.out.size))
          have HNI := hid (And.intro hn5 hi5)
          clear hT hI ht hR5 hI5 k0 k2 hn5 hi5
          go_wp2_with fail
          go_roundw
          case rel => exact ⟨k + 1, _, cc + 1, c', xs, by omega, by have := HA40.out; omega, rfl, by go_num, hid ⟨⟨n5, ids5, HI5.out, by have := HNI.out.1; omega, by have := HNI.out.2; omega, v5, u5, HR5.out⟩, by have := HP.out.len; omega, HA5.out, HP.out.sh, HCC.out, HP.out.cb'⟩, hid (HF.out.mono (by omega)), hid (by have := HMO.out; have := HTV.out; omega), HB5⟩
          case measure => simp [RowKit.intOf]; omega
      have hne1 : ¬ ((a.k : Int).tmod 6 = 1) := by have := tmod6 (k := a.k) rfl; omega
      go_wp2_with (first
        | ((with_reducible refine loadA (x := ?kx1) (b := ?kb1) a ?kg1 ?kp1 ?kxx1 ?kc1 ?_); (case kg1 => rfl); (case kp1 => rfl); (case kxx1 => rfl); (case kc1 => exact HO4.out))
        | fail)
      go_at_call 10
      refine (cStepA (HP.out.on HB4.out) (by omega) (HAA.out.on HB4.out) HSHa.out HCL.out hk1 HF.out).mono ?_
      rintro e w5 ⟨c1, c1', xs1, rfl, hP, hcc, hct, hF1, ht⟩
      have HP5 := hid (hP.mono (show 0 + 40 * k + 40 ≤ 0 + 40 * (k + 1) by omega))
      have HB5 := hid (HBw4.out.trans (ht.below HS.out HBw4.out.size))
      have HO5 := hid (show OA w5 wr.heap.size a from ht.ob HO4.out fun hk => by have := pv_lt HP.out _ hk; omega)
      have HF1 := hid hF1
      have HCT := hid hct
      have HMO1 := hid (show mo < 16 * (c1 + 1) by have := HMO.out; omega)
      have HWF := hid (show (Lit.int .i64 a.y.e.c.i).wf = true from HAA.out.2.2.2)
      clear hP ht k2 k0 HB4 HBw4 HO4 HP hn40 hj40 HAA HSHa HCL HF HMO hct hcc hF1
      have k0 : w5.cell? ⟨wr.heap.size, 0, none⟩ = some (.int .u8 a.k) := OA.cell HO5.out rfl
      have k1 : w5.cell? ⟨wr.heap.size, 1, none⟩ = some (.int .i64 a.t) := OA.cell HO5.out rfl
      have k3 : w5.cell? ⟨wr.heap.size, 3, none⟩ = some (.int .i64 a.y.e.c.i) := OA.cell HO5.out rfl
      obtain ⟨n5, ids5, hI5, hn5, hi5, v5, u5, hR5⟩ := HP5.out.ix
      obtain ⟨e1, he1⟩ : ∃ e, e = lookE xs1 a.y.e.c.i := ⟨_, rfl⟩
      obtain ⟨d1, hd1⟩ : ∃ d, d = hasE xs1 a.y.e.c.i := ⟨_, rfl⟩
      have hg := cGet hI5 HWF.out
      rw [← he1, ← hd1] at hg
      have HE := hid (show e1.hi < 16 * (c1 + 1) ∧ e1.vt < 16 * (c1 + 1) by rw [he1]; exact HF1.out.look HP5.out.cb.1 _)
      have HG := hid hg
      clear he1 hd1 hg hI5 hn5 hi5 hR5
      by_cases hk0 : a.k % 6 = 0
      · have hm0 : (a.k : Int).tmod 6 = 0 := tmod6 hk0
        have HCC := hid (HCT.out hk0)
        clear hne1 hk1 hk0
        by_cases ht16 : (16 : Int) ≤ a.t
        · by_cases htm : a.t < 1048576
          · have hmod : a.t.tmod 16 = a.t % 16 := Int.tmod_eq_emod_of_nonneg (by omega)
            by_cases ht8 : a.t % 16 ≤ 8
            · have HTT := hid (show a.t < 16 * (c1 + 1) by have := HCC.out; unfold countI at this; rw [if_pos ⟨ht16, htm, ht8⟩] at this; omega)
              go_wp2_with fail
              go_at_call 18
              refine HG.out.mono ?_
              rintro e w6 ⟨rfl, hB⟩
              have HP6 := hid (HP5.out.on hB)
              have HB6 := hid (HB5.out.trans (hB.mono HB5.out.size))
              clear hB k0 k1 k3
              rcases d1 with _ | _
              · go_wp2_with (first
                  | ((with_reducible refine storeC (x := ?sx10) (y := ?sy10) (b := w6.heap.size) (T := 44) e1 ?sg10 ?so10 ?sxx10 ?syy10 ?sc10 ?sh10); (case sg10 => rfl); (case so10 => rfl); (case sxx10 => rfl); (case syy10 => rfl); (case sc10 => exact Ob.room (e := zE) (laid1_0 w6 zeroEc)); intro V9 hO hU; have hb := (laid1_b w6 zeroEc).trans (hU.below w6.heap.size (Nat.le_refl _)); have HPf := hid (HP6.out.on hb); have HBf := hid (HB6.out.trans (hb.mono HB6.out.size)); have u9 := Ob.cell hO (j := 9) (v := .int .i64 e1.hi) rfl; have u17 := Ob.cell hO (j := 17) (v := .int .i64 e1.vt) rfl; clear hO hU hb)
                  | fail)
                go_roundw
                case rel => exact ⟨k + 1, _, c1, c1', xs1, by omega, by have := HA40.out; omega, rfl, by go_num, HPf, HF1, hid (by have := HMO1.out; have := HE.out; have := HTT.out; omega), HBf⟩
                case measure => simp [RowKit.intOf]; omega
              · go_wp2_with (first
                  | ((with_reducible refine storeC (x := ?sx11) (y := ?sy11) (b := w6.heap.size) (T := 44) e1 ?sg11 ?so11 ?sxx11 ?syy11 ?sc11 ?sh11); (case sg11 => rfl); (case so11 => rfl); (case sxx11 => rfl); (case syy11 => rfl); (case sc11 => exact Ob.room (e := zE) (laid1_0 w6 zeroEc)); intro V9 hO hU; have hb := (laid1_b w6 zeroEc).trans (hU.below w6.heap.size (Nat.le_refl _)); have HPf := hid (HP6.out.on hb); have HBf := hid (HB6.out.trans (hb.mono HB6.out.size)); have u9 := Ob.cell hO (j := 9) (v := .int .i64 e1.hi) rfl; have u17 := Ob.cell hO (j := 17) (v := .int .i64 e1.vt) rfl; clear hO hU hb)
                  | fail)
                go_roundw
                case rel => exact ⟨k + 1, _, c1, c1', xs1, by omega, by have := HA40.out; omega, rfl, by go_num, HPf, HF1, hid (by have := HMO1.out; have := HE.out; have := HTT.out; omega), HBf⟩
                case measure => simp [RowKit.intOf]; omega
            · go_wp2_with fail
              go_at_call 18
              refine HG.out.mono ?_
              rintro e w6 ⟨rfl, hB⟩
              have HP6 := hid (HP5.out.on hB)
              have HB6 := hid (HB5.out.trans (hB.mono HB5.out.size))
              clear hB k0 k1 k3
              rcases d1 with _ | _
              · go_wp2_with (first
                  | ((with_reducible refine storeC (x := ?sx20) (y := ?sy20) (b := w6.heap.size) (T := 44) e1 ?sg20 ?so20 ?sxx20 ?syy20 ?sc20 ?sh20); (case sg20 => rfl); (case so20 => rfl); (case sxx20 => rfl); (case syy20 => rfl); (case sc20 => exact Ob.room (e := zE) (laid1_0 w6 zeroEc)); intro V9 hO hU; have hb := (laid1_b w6 zeroEc).trans (hU.below w6.heap.size (Nat.le_refl _)); have HPf := hid (HP6.out.on hb); have HBf := hid (HB6.out.trans (hb.mono HB6.out.size)); have u9 := Ob.cell hO (j := 9) (v := .int .i64 e1.hi) rfl; have u17 := Ob.cell hO (j := 17) (v := .int .i64 e1.vt) rfl; clear hO hU hb)
                  | fail)
                go_roundw
                case rel => exact ⟨k + 1, _, c1, c1', xs1, by omega, by have := HA40.out; omega, rfl, by go_num, HPf, HF1, hid (by have := HMO1.out; have := HE.out; omega), HBf⟩
                case measure => simp [RowKit.intOf]; omega
              · go_wp2_with (first
                  | ((with_reducible refine storeC (x := ?sx21) (y := ?sy21) (b := w6.heap.size) (T := 44) e1 ?sg21 ?so21 ?sxx21 ?syy21 ?sc21 ?sh21); (case sg21 => rfl); (case so21 => rfl); (case sxx21 => rfl); (case syy21 => rfl); (case sc21 => exact Ob.room (e := zE) (laid1_0 w6 zeroEc)); intro V9 hO hU; have hb := (laid1_b w6 zeroEc).trans (hU.below w6.heap.size (Nat.le_refl _)); have HPf := hid (HP6.out.on hb); have HBf := hid (HB6.out.trans (hb.mono HB6.out.size)); have u9 := Ob.cell hO (j := 9) (v := .int .i64 e1.hi) rfl; have u17 := Ob.cell hO (j := 17) (v := .int .i64 e1.vt) rfl; clear hO hU hb)
                  | fail)
                go_roundw
                case rel => exact ⟨k + 1, _, c1, c1', xs1, by omega, by have := HA40.out; omega, rfl, by go_num, HPf, HF1, hid (by have := HMO1.out; have := HE.out; omega), HBf⟩
                case measure => simp [RowKit.intOf]; omega
          · go_wp2_with fail
            go_at_call 18
            refine HG.out.mono ?_
            rintro e w6 ⟨rfl, hB⟩
            have HP6 := hid (HP5.out.on hB)
            have HB6 := hid (HB5.out.trans (hB.mono HB5.out.size))
            clear hB k0 k1 k3
            rcases d1 with _ | _
            · go_wp2_with (first
                | ((with_reducible refine storeC (x := ?sx30) (y := ?sy30) (b := w6.heap.size) (T := 44) e1 ?sg30 ?so30 ?sxx30 ?syy30 ?sc30 ?sh30); (case sg30 => rfl); (case so30 => rfl); (case sxx30 => rfl); (case syy30 => rfl); (case sc30 => exact Ob.room (e := zE) (laid1_0 w6 zeroEc)); intro V9 hO hU; have hb := (laid1_b w6 zeroEc).trans (hU.below w6.heap.size (Nat.le_refl _)); have HPf := hid (HP6.out.on hb); have HBf := hid (HB6.out.trans (hb.mono HB6.out.size)); have u9 := Ob.cell hO (j := 9) (v := .int .i64 e1.hi) rfl; have u17 := Ob.cell hO (j := 17) (v := .int .i64 e1.vt) rfl; clear hO hU hb)
                | fail)
              go_roundw
              case rel => exact ⟨k + 1, _, c1, c1', xs1, by omega, by have := HA40.out; omega, rfl, by go_num, HPf, HF1, hid (by have := HMO1.out; have := HE.out; omega), HBf⟩
              case measure => simp [RowKit.intOf]; omega
            · go_wp2_with (first
                | ((with_reducible refine storeC (x := ?sx31) (y := ?sy31) (b := w6.heap.size) (T := 44) e1 ?sg31 ?so31 ?sxx31 ?syy31 ?sc31 ?sh31); (case sg31 => rfl); (case so31 => rfl); (case sxx31 => rfl); (case syy31 => rfl); (case sc31 => exact Ob.room (e := zE) (laid1_0 w6 zeroEc)); intro V9 hO hU; have hb := (laid1_b w6 zeroEc).trans (hU.below w6.heap.size (Nat.le_refl _)); have HPf := hid (HP6.out.on hb); have HBf := hid (HB6.out.trans (hb.mono HB6.out.size)); have u9 := Ob.cell hO (j := 9) (v := .int .i64 e1.hi) rfl; have u17 := Ob.cell hO (j := 17) (v := .int .i64 e1.vt) rfl; clear hO hU hb)
                | fail)
              go_roundw
              case rel => exact ⟨k + 1, _, c1, c1', xs1, by omega, by have := HA40.out; omega, rfl, by go_num, HPf, HF1, hid (by have := HMO1.out; have := HE.out; omega), HBf⟩
              case measure => simp [RowKit.intOf]; omega
        · go_wp2_with fail
          go_at_call 18
          refine HG.out.mono ?_
          rintro e w6 ⟨rfl, hB⟩
          have HP6 := hid (HP5.out.on hB)
          have HB6 := hid (HB5.out.trans (hB.mono HB5.out.size))
          clear hB k0 k1 k3
          rcases d1 with _ | _
          · go_wp2_with (first
              | ((with_reducible refine storeC (x := ?sx40) (y := ?sy40) (b := w6.heap.size) (T := 44) e1 ?sg40 ?so40 ?sxx40 ?syy40 ?sc40 ?sh40); (case sg40 => rfl); (case so40 => rfl); (case sxx40 => rfl); (case syy40 => rfl); (case sc40 => exact Ob.room (e := zE) (laid1_0 w6 zeroEc)); intro V9 hO hU; have hb := (laid1_b w6 zeroEc).trans (hU.below w6.heap.size (Nat.le_refl _)); have HPf := hid (HP6.out.on hb); have HBf := hid (HB6.out.trans (hb.mono HB6.out.size)); have u9 := Ob.cell hO (j := 9) (v := .int .i64 e1.hi) rfl; have u17 := Ob.cell hO (j := 17) (v := .int .i64 e1.vt) rfl; clear hO hU hb)
              | fail)
            go_roundw
            case rel => exact ⟨k + 1, _, c1, c1', xs1, by omega, by have := HA40.out; omega, rfl, by go_num, HPf, HF1, hid (by have := HMO1.out; have := HE.out; omega), HBf⟩
            case measure => simp [RowKit.intOf]; omega
          · go_wp2_with (first
              | ((with_reducible refine storeC (x := ?sx41) (y := ?sy41) (b := w6.heap.size) (T := 44) e1 ?sg41 ?so41 ?sxx41 ?syy41 ?sc41 ?sh41); (case sg41 => rfl); (case so41 => rfl); (case sxx41 => rfl); (case syy41 => rfl); (case sc41 => exact Ob.room (e := zE) (laid1_0 w6 zeroEc)); intro V9 hO hU; have hb := (laid1_b w6 zeroEc).trans (hU.below w6.heap.size (Nat.le_refl _)); have HPf := hid (HP6.out.on hb); have HBf := hid (HB6.out.trans (hb.mono HB6.out.size)); have u9 := Ob.cell hO (j := 9) (v := .int .i64 e1.hi) rfl; have u17 := Ob.cell hO (j := 17) (v := .int .i64 e1.vt) rfl; clear hO hU hb)
              | fail)
            go_roundw
            case rel => exact ⟨k + 1, _, c1, c1', xs1, by omega, by have := HA40.out; omega, rfl, by go_num, HPf, HF1, hid (by have := HMO1.out; have := HE.out; omega), HBf⟩
            case measure => simp [RowKit.intOf]; omega
      · have hne0 : ¬ ((a.k : Int).tmod 6 = 0) := by have := tmod6 (k := a.k) rfl; omega
        clear hk0 hk1
        go_wp2_with fail
        go_at_call 18
        refine HG.out.mono ?_
        rintro e w6 ⟨rfl, hB⟩
        have HP6 := hid (HP5.out.on hB)
        have HB6 := hid (HB5.out.trans (hB.mono HB5.out.size))
        clear hB k0 k1 k3
        rcases d1 with _ | _
        · go_wp2_with (first
            | ((with_reducible refine storeC (x := ?sx50) (y := ?sy50) (b := w6.heap.size) (T := 44) e1 ?sg50 ?so50 ?sxx50 ?syy50 ?sc50 ?sh50); (case sg50 => rfl); (case so50 => rfl); (case sxx50 => rfl); (case syy50 => rfl); (case sc50 => exact Ob.room (e := zE) (laid1_0 w6 zeroEc)); intro V9 hO hU; have hb := (laid1_b w6 zeroEc).trans (hU.below w6.heap.size (Nat.le_refl _)); have HPf := hid (HP6.out.on hb); have HBf := hid (HB6.out.trans (hb.mono HB6.out.size)); have u9 := Ob.cell hO (j := 9) (v := .int .i64 e1.hi) rfl; have u17 := Ob.cell hO (j := 17) (v := .int .i64 e1.vt) rfl; clear hO hU hb)
            | fail)
          go_roundw
          case rel => exact ⟨k + 1, _, c1, c1', xs1, by omega, by have := HA40.out; omega, rfl, by go_num, HPf, HF1, hid (by have := HMO1.out; have := HE.out; omega), HBf⟩
          case measure => simp [RowKit.intOf]; omega
        · go_wp2_with (first
            | ((with_reducible refine storeC (x := ?sx51) (y := ?sy51) (b := w6.heap.size) (T := 44) e1 ?sg51 ?so51 ?sxx51 ?syy51 ?sc51 ?sh51); (case sg51 => rfl); (case so51 => rfl); (case sxx51 => rfl); (case syy51 => rfl); (case sc51 => exact Ob.room (e := zE) (laid1_0 w6 zeroEc)); intro V9 hO hU; have hb := (laid1_b w6 zeroEc).trans (hU.below w6.heap.size (Nat.le_refl _)); have HPf := hid (HP6.out.on hb); have HBf := hid (HB6.out.trans (hb.mono HB6.out.size)); have u9 := Ob.cell hO (j := 9) (v := .int .i64 e1.hi) rfl; have u17 := Ob.cell hO (j := 17) (v := .int .i64 e1.vt) rfl; clear hO hU hb)
            | fail)
          go_roundw
          case rel => exact ⟨k + 1, _, c1, c1', xs1, by omega, by have := HA40.out; omega, rfl, by go_num, HPf, HF1, hid (by have := HMO1.out; have := HE.out; omega), HBf⟩
          case measure => simp [RowKit.intOf]; omega
    have hkk : ¬ ((k : Int) < m) := by omega
    go_wp2_with fail
    go_at_call 6
    refine (HIA.out wr).mono ?_
    rintro e wz ⟨rfl, hBz⟩
    have HBz := hid (HB.out.trans (hBz.mono HB.out.size))
    clear hBz
    go_wp2_with fail
    go_ret
    exact ⟨rfl, HBz.out⟩
end Go.Proofs.YtogoibigabpkhaaGreat

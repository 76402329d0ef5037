import Derived.Test.YtbcmhnaiabifjaaHRPromZm
import Derived.Test.YtbcmhnaiabifjaaHChooseZm
namespace Go.Proofs.Ytbcmhnaiabifjaa
set_option linter.unusedVariables false
open Go.RowKit
open Go.Lib (hid)
theorem ret_tct {P : Program} {fn : Func} {a : Act} {w : World} {s p u : Tmp} {ty : TypeId} {b : Nat} {cs : List Value} {d : TypeDesc} {x v : Value} (h : fn.results = #[.tmp s, .cell p ty, .tmp u]) (hs : a.tmps.getD s undef = x) (hp : a.tmps.getD p undef = .pointer (some ⟨b, 0, none⟩)) (hu : a.tmps.getD u undef = v)
    (hc : w.rangeAt b 0 cs) (ht : P.underlying ty = some d) (hd : d.isRow = true) (hi : (P.info? ty).map (·.size) = some cs.length) : (results fn a.tmps).run P w = .ok (.tuple #[x, .agg cs.toArray, v]) w := by
  have hr : (results fn a.tmps).run P w = ((asAddr (a.tmps.getD p undef)).run P w).andThen fun x w₁ => ((loadVar ty x).run P w₁).andThen fun v1 w₂ => .ok (.tuple #[a.tmps.getD s undef, v1, a.tmps.getD u undef]) w₂ := by
    simp only [results, h]
    simp [Sem.run_bind, Result.andThen]
    try (congr 1)
  rw [hr, hp, hs, hu]
  simp [asAddr, run_loadVar_mid w b 0 ty cs d hc ht hd hi, Result.andThen]
def RChooseP (w : World) (n : Int) (ls : List Ms) (e : Ending) (w' : World) : Prop := ∃ r : Sv, e = .returned (.tuple #[.int .i64 (choF n ls).k, .agg (varr (choF n ls).t r), .int .i64 (choF n ls).e]) ∧ Sl w' r.v (choF n ls).l ∧ Below w.heap.size w w'
theorem RChooseP.of {w w' : World} {n : Int} {ls : List Ms} {c : Cho} {r : Sv} (h : choF n ls = c) (hs : Sl w' r.v c.l) (hb : Below w.heap.size w w') : RChooseP w n ls (.returned (.tuple #[.int .i64 c.k, .agg (varr c.t r), .int .i64 c.e])) w' := by
  subst h; exact ⟨r, rfl, hs, hb⟩
theorem prom_all {n : Int} {ls : List Ms} (h : promB n ls = true) : (∀ x ∈ ls, mayB x = true) ∧ 0 < ls.length := by
  unfold promB at h
  simp only [Bool.and_eq_true, decide_eq_true_eq] at h
  obtain ⟨h1, h2, h3, h4⟩ := h
  refine ⟨fun x hx => ?_, ?_⟩
  · obtain ⟨k, hk⟩ := List.getElem?_of_mem hx
    have := okAll_true.1 h3 k x hk
    unfold okM at this
    simp only [Bool.and_eq_true] at this
    exact this.1
  · unfold rightB at h1
    have h5 := of_decide_eq_true h1
    unfold clI at h2
    rw [if_pos h5] at h2
    omega
theorem prom_four {n : Int} {ls : List Ms} (h : promB n ls = true) (hs : ls.find? isS = none) : ∀ x ∈ ls, rightM x = true ∧ x.m.so = 4 := fun x hx => by
  have h1 := (prom_all h).1 x hx
  have h2 := List.find?_eq_none.1 hs x hx
  unfold mayB at h1
  unfold isS at h2
  simp only [Bool.and_eq_true, Bool.or_eq_true, decide_eq_true_eq] at h1 h2
  exact ⟨h1.2, by rcases h1.1 with h | h; exact h; exact absurd h h2⟩
theorem four_ab {x : Ms} (h : rightM x = true ∧ x.m.so = 4) : 0 ≤ x.m.ab := (prom_parts h.1 h.2).2.2.2.1.1
theorem four_ft {x : Ms} (h : rightM x = true ∧ x.m.so = 4) : validB x.m.ft = !decide (x.m.ft = 0) := by
  rcases (prom_parts h.1 h.2).2.2.2.2.2 with h1 | h1
  · unfold noneB at h1; simp only [Bool.and_eq_true, decide_eq_true_eq] at h1
    rw [h1.1]; rfl
  · unfold fullB at h1; simp only [Bool.and_eq_true] at h1
    rw [h1.1]
    have := of_decide_eq_true (show decide (16 ≤ x.m.ft ∧ x.m.ft < 1048576 ∧ x.m.ft % 16 ≤ 8) = true from h1.1)
    simp; omega
def BestI (ls : List Ms) (k j : Nat) : Prop := (k = 0 ∧ j = 0) ∨ (j < k ∧ ∃ x, ls[j]? = some x ∧ ((accF (ls.take k) = none ∧ x.m.ab = 0) ∨ (accF (ls.take k) = some x ∧ 0 < x.m.ab)))
theorem BestI.step {ls : List Ms} {k j : Nat} {x y : Ms} (h : BestI ls k j) (hx : ls[j]? = some x) (hy : ls[k]? = some y) (h0 : 0 ≤ y.m.ab) : BestI ls (k + 1) (if x.m.ab < y.m.ab then k else j) := by
  rcases h with ⟨rfl, rfl⟩ | ⟨hjk, z, hz, hc⟩
  · rw [hx] at hy
    obtain rfl := Option.some.inj hy
    rw [if_neg (by omega)]
    refine .inr ⟨by omega, x, hx, ?_⟩
    rw [acc_next hx]
    show (accS none x = none ∧ _) ∨ (accS none x = some x ∧ _)
    unfold accS
    by_cases h : 0 < x.m.ab
    · exact .inr ⟨by simp [h], h⟩
    · exact .inl ⟨by simp [h], by omega⟩
  · rw [hx] at hz
    obtain rfl := Option.some.inj hz
    by_cases hlt : x.m.ab < y.m.ab
    · rw [if_pos hlt]
      refine .inr ⟨by omega, y, hy, .inr ⟨?_, ?_⟩⟩
      · rw [acc_next hy]
        rcases hc with ⟨h1, h2⟩ | ⟨h1, h2⟩
        · rw [h1]; unfold accS; simp only; rw [if_pos (by omega)]
        · rw [h1]; unfold accS; simp only; rw [if_pos hlt]
      · rcases hc with ⟨h1, h2⟩ | ⟨h1, h2⟩ <;> omega
    · rw [if_neg hlt]
      refine .inr ⟨by omega, x, hx, ?_⟩
      rw [acc_next hy]
      rcases hc with ⟨h1, h2⟩ | ⟨h1, h2⟩
      · rw [h1]; unfold accS; simp only; rw [if_neg (by omega)]; exact .inl ⟨rfl, h2⟩
      · rw [h1]; unfold accS; simp only; rw [if_neg hlt]; exact .inr ⟨rfl, h2⟩
theorem BestI.at {ls : List Ms} {k j : Nat} (h : BestI ls k j) (hk : k ≤ ls.length) (h0 : 0 < ls.length) : j < ls.length := by
  rcases h with ⟨rfl, rfl⟩ | ⟨h, _⟩ <;> omega
theorem BestI.end {ls : List Ms} {j : Nat} {x : Ms} (h : BestI ls ls.length j) (h0 : 0 < ls.length) (hx : ls[j]? = some x) : (accF ls = none ∧ x.m.ab = 0) ∨ (accF ls = some x ∧ 0 < x.m.ab) := by
  rcases h with ⟨h1, _⟩ | ⟨_, z, hz, hc⟩
  · omega
  · rw [hx] at hz
    obtain rfl := Option.some.inj hz
    rw [List.take_length] at hc
    exact hc
theorem flag_next {ls : List Ms} {k : Nat} {y : Ms} (h : ls[k]? = some y) : flagB (ls.take (k + 1)) = (flagB (ls.take k) || y.m.fl) := by
  unfold flagB; rw [List.take_add_one, h, List.any_append]; simp
end Go.Proofs.Ytbcmhnaiabifjaa
namespace Go.Proofs.Ytbcmhnaiabifjaa
set_option linter.unusedVariables false
open Go.RowKit
open Go.Lib (hid)
set_option maxHeartbeats 32000000 in
set_option maxRecDepth 100000 in
theorem rChoose0 {v : Value} {ls : List Ms} {w : World} (n : Int) (h : SlM w v (mgs ls)) (hA : ∀ m ∈ ls, m.at w) (hS : ∀ m ∈ ls, m.short 1024) (hl : ls.length ≤ 40) (hpb : promB n ls = false) : Calls Try.prog 9 #[.int .i64 n, v] w (RChooseP w n ls) := by
  have HSL0 := hid h
  have HSH := hid hS
  clear hS
  have HLL := hid hl
  have HPR := hid hpb
  obtain ⟨b, o, cap, a, rfl, ha, hc, hb⟩ := h
  have hlm : (mgs ls).length = ls.length := by unfold mgs; rw [List.length_map]
  rw [hlm] at ha hb ⊢
  have HA := hid hA
  have HCC := hid hc
  obtain ⟨m, hm⟩ : ∃ m, m = ls.length := ⟨_, rfl⟩
  rw [← hm] at ha hb hl ⊢
  have HN := hid hm
  clear hm hA hc hlm
  have HSL : Hid (SlM w (.slice a m cap) (mgs ls)) := hid (by have e : (mgs ls).length = m := (by unfold mgs; rw [List.length_map]; exact HN.out.symm); have hs := HSL0.out; rw [e] at hs; exact hs)
  clear HSL0
  have hm1 : m ≤ 40 := by omega
  have HCP : Hid (∀ W, Below w.heap.size w W → Calls Try.prog 24 #[.int .i64 n, .slice a m cap] W fun e w' => e = .returned (.bool false) ∧ Below W.heap.size W w') := hid (fun W hW => by have := rPromises n (HSL.out.on hW) (fun x hx => (HA.out x hx).on hW) HSH.out (by have := HLL.out; omega); rw [hpb] at this; exact this)
  have HCF : Hid (∀ W, Below w.heap.size w W → Calls Try.prog 11 #[.slice a m cap] W (FreshP W ls)) := hid (fun W hW => rFreshM (HSL.out.on hW) (fun x hx => (HA.out x hx).on hW) HSH.out HLL.out)
  have HB0 : Hid (Below w.heap.size w (w.alloc zeroVc)) := hid ((Below.refl _ w).alloc (Nat.le_refl _) _)
  have HR0 : Hid (RoomV (w.alloc zeroVc) w.heap.size) := hid (roomVZ w)
  clear hpb
  go_enter Try.func9, Try.ntmps9
  go_wp2_with (first
    | (go_at_call 24; refine (HCP.out _ HB0.out).mono ?_; rintro e w1 ⟨rfl, hB⟩; have HB1 : Hid (Below w.heap.size w w1) := hid (HB0.out.trans (hB.mono HB0.out.size)); have HR1 := hid (HR0.out.on hB); clear hB)
    | ((with_reducible refine storeV (x := ?wx1) (y := ?wy1) (b := w.heap.size) 0 zS ?wg1 ?wo1 ?wxx1 ?wyy1 ?wc1 ?wh1); (case wg1 => rfl); (case wo1 => rfl); (case wxx1 => rfl); (case wyy1 => rfl); (case wc1 => exact HR1.out); intro WZ hO hU; have HOZ : Hid (OV WZ w.heap.size 0 zS) := hid hO; have HBZ : Hid (Below w.heap.size w1 WZ) := hid (hU.below w.heap.size (Nat.le_refl _)); have HUZ := hid hU; clear hO hU)
    | fail)
  refine bodyPost_ret (ret_tct rfl rfl rfl rfl HOZ.out.range Try.underlying28 rfl (infoVl _ _)) rfl (RChooseP.of (c := ⟨0, 0, [], 1⟩) (r := zS) ?_ ?_ (HB1.out.trans HBZ.out))
  · unfold choF; rw [if_neg (by rw [HPR.out]; decide)]
  · exact (Own.nil WZ 0).sl
end Go.Proofs.Ytbcmhnaiabifjaa
namespace Go.Proofs.Ytbcmhnaiabifjaa
set_option linter.unusedVariables false
open Go.RowKit
open Go.Lib (hid)
set_option maxHeartbeats 32000000 in
set_option maxRecDepth 100000 in
theorem rChooseS {v : Value} {ls : List Ms} {w : World} (n : Int) (h : SlM w v (mgs ls)) (hA : ∀ m ∈ ls, m.at w) (hS : ∀ m ∈ ls, m.short 1024) (hl : ls.length ≤ 40) (hpb : promB n ls = true) {z : Ms} (hfS : ls.find? isS = some z) : Calls Try.prog 9 #[.int .i64 n, v] w (RChooseP w n ls) := by
  have HFS := hid hfS
  have HBW0 : Hid (0 < ls.length) := hid (prom_all hpb).2
  clear hfS
  have HSL0 := hid h
  have HSH := hid hS
  clear hS
  have HLL := hid hl
  have HPR := hid hpb
  obtain ⟨b, o, cap, a, rfl, ha, hc, hb⟩ := h
  have hlm : (mgs ls).length = ls.length := by unfold mgs; rw [List.length_map]
  rw [hlm] at ha hb ⊢
  have HA := hid hA
  have HCC := hid hc
  obtain ⟨m, hm⟩ : ∃ m, m = ls.length := ⟨_, rfl⟩
  rw [← hm] at ha hb hl ⊢
  have HN := hid hm
  clear hm hA hc hlm
  have HSL : Hid (SlM w (.slice a m cap) (mgs ls)) := hid (by have e : (mgs ls).length = m := (by unfold mgs; rw [List.length_map]; exact HN.out.symm); have hs := HSL0.out; rw [e] at hs; exact hs)
  clear HSL0
  have hm1 : m ≤ 40 := by omega
  have hm0 : 0 < m := by rw [HN.out]; exact HBW0.out
  have HBW := hid (hb hm0)
  obtain rfl := ha hm0
  have HCP : Hid (∀ W, Below w.heap.size w W → Calls Try.prog 24 #[.int .i64 n, .slice (some ⟨b, o, none⟩) m cap] W fun e w' => e = .returned (.bool true) ∧ Below W.heap.size W w') := hid (fun W hW => by have := rPromises n (HSL.out.on hW) (fun x hx => (HA.out x hx).on hW) HSH.out (by have := HLL.out; omega); rw [hpb] at this; exact this)
  have HCF : Hid (∀ W, Below w.heap.size w W → Calls Try.prog 11 #[.slice (some ⟨b, o, none⟩) m cap] W (FreshP W ls)) := hid (fun W hW => rFreshM (HSL.out.on hW) (fun x hx => (HA.out x hx).on hW) HSH.out HLL.out)
  have HB0 : Hid (Below w.heap.size w (w.alloc zeroVc)) := hid ((Below.refl _ w).alloc (Nat.le_refl _) _)
  have HR0 : Hid (RoomV (w.alloc zeroVc) w.heap.size) := hid (roomVZ w)
  clear hpb
  go_enter Try.func9, Try.ntmps9
  go_wp2_with (first | (go_at_call 24; refine (HCP.out _ HB0.out).mono ?_; rintro e w1 ⟨rfl, hB⟩; have HB1 : Hid (Below w.heap.size w w1) := hid (HB0.out.trans (hB.mono HB0.out.size)); have HR1 := hid (HR0.out.on hB); clear hB) | fail)
  go_loopw [10] (fun i wr => ∃ k : Nat, k ≤ m ∧ i = .int .i64 k ∧ Hid (∀ x ∈ ls.take k, isS x = false) ∧ Hid (Below w1.heap.size w1 wr)) (fun i _ => m - (RowKit.intOf i).toNat)
  case atStart => exact ⟨0, Nat.zero_le _, rfl, hid (by simp), hid (Below.refl _ _)⟩
  case round =>
    obtain ⟨k, hk, rfl, HN0, HBa⟩ := hrel
    have HB : Hid (Below w.heap.size w wr) := hid (HB1.out.trans (HBa.out.mono HB1.out.size))
    have HR : Hid (RoomV wr w.heap.size) := hid (HR1.out.on HBa.out)
    by_cases hlt : k < m
    · as_aux_lemma =>
        have hlti : ((k : Int) < m) := by omega
        obtain ⟨y, hy⟩ : ∃ y, ls[k]? = some y := ⟨ls[k]'(by rw [← HN.out]; exact hlt), List.getElem?_eq_getElem (by rw [← HN.out]; exact hlt)⟩
        have HR_y : Hid (∀ W, Below w.heap.size w W → W.rangeAt b (o + k * 20) y.m.list) := hid (fun W hW => (HCC.out.on hW fun _ => HBW.out) k y.m (at_mgs hy))
        have HE_y := hid hy
        clear hy
        obtain ⟨so, hso⟩ : ∃ z, z = y.m.so := ⟨_, rfl⟩
        have HSO := hid hso
        clear hso
        have c0 : wr.cell? ⟨b, o + k * 20, none⟩ = some (.int .i64 so) := by rw [HSO.out]; exact HR_y.out _ HB.out 0 _ rfl
        by_cases h7 : so = 7
        · as_aux_lemma =>
            have HP : Hid (isS y = true) := hid (by unfold isS; rw [← HSO.out, h7]; rfl)
            have s7 : (so == 7) = true := by simp [h7]
            clear h7
            obtain rfl : y = z := by have := (find_hit HE_y.out HN0.out HP.out).symm.trans HFS.out; exact Option.some.inj this
            go_wp2_with fail
            refine rh_start (S := fun W => Below w.heap.size w W) (n := 8) (listed := #[false, false, false, false, false, false, false, false]) (by kernel_rfl) rfl rfl ?_
            have HS0 : Hid (Below w.heap.size w wr.drew) := hid (HB.out.trans ((belowDrew (Below.refl _ _)).mono HB.out.size))
            have HRd : Hid (RoomV wr.drew w.heap.size) := hid (HR.out)
            have HWd : Hid (Below wr.heap.size wr wr.drew) := hid (belowDrew (Below.refl _ _))
            generalize wr.drew = wd at HS0 HRd HWd ⊢
            refine rh_takeS (i := 0) (o := ?o2) (v := ?v2) (listed' := ?l2) (a' := ?a2) ?hi2 (by kernel_rfl) (by kernel_rfl) (by kernel_rfl) ?hq2 ?hl2 ?hw2 ?hv2 ?ha2 HS0.out ?hh2
            case hi2 => (simp only [List.getElem?_toArray, List.getElem?_cons_zero]; try rfl)
            case hq2 => exact fun _ _ _ h => h
            case hl2 => (simp only [List.setIfInBounds_toArray, List.set_cons_zero]; try rfl)
            case hw2 => rfl
            case hv2 =>
              intro W hW
              skip
              go_simp
              try with_reducible rfl
            case ha2 => (simp only [Act.put, List.setIfInBounds_toArray, List.set_cons_succ, List.set_cons_zero]; try rfl)
            refine rh_takeS (i := 1) (o := ?o3) (v := ?v3) (listed' := ?l3) (a' := ?a3) ?hi3 (by kernel_rfl) (by kernel_rfl) (by kernel_rfl) ?hq3 ?hl3 ?hw3 ?hv3 ?ha3 HS0.out ?hh3
            case hi3 => (simp only [List.getElem?_toArray, List.getElem?_cons_succ, List.getElem?_cons_zero]; try rfl)
            case hq3 => exact fun _ _ _ h => h
            case hl3 => (simp only [List.setIfInBounds_toArray, List.set_cons_succ, List.set_cons_zero]; try rfl)
            case hw3 => rfl
            case hv3 =>
              intro W hW
              skip
              go_simp
              try with_reducible rfl
            case ha3 => (simp only [Act.put, List.setIfInBounds_toArray, List.set_cons_succ, List.set_cons_zero]; try rfl)
            refine rh_takeS (i := 2) (o := ?o4) (v := ?v4) (listed' := ?l4) (a' := ?a4) ?hi4 (by kernel_rfl) (by kernel_rfl) (by kernel_rfl) ?hq4 ?hl4 ?hw4 ?hv4 ?ha4 HS0.out ?hh4
            case hi4 => (simp only [List.getElem?_toArray, List.getElem?_cons_succ, List.getElem?_cons_zero]; try rfl)
            case hq4 => exact fun _ _ _ h => h
            case hl4 => (simp only [List.setIfInBounds_toArray, List.set_cons_succ, List.set_cons_zero]; try rfl)
            case hw4 => rfl
            case hv4 =>
              intro W hW
              skip
              go_simp
              try with_reducible rfl
            case ha4 => (simp only [Act.put, List.setIfInBounds_toArray, List.set_cons_succ, List.set_cons_zero]; try rfl)
            refine rh_takeS (i := 3) (o := ?o5) (v := ?v5) (listed' := ?l5) (a' := ?a5) ?hi5 (by kernel_rfl) (by kernel_rfl) (by kernel_rfl) ?hq5 ?hl5 ?hw5 ?hv5 ?ha5 HS0.out ?hh5
            case hi5 => (simp only [List.getElem?_toArray, List.getElem?_cons_succ, List.getElem?_cons_zero]; try rfl)
            case hq5 => exact fun _ _ _ h => h
            case hl5 => (simp only [List.setIfInBounds_toArray, List.set_cons_succ, List.set_cons_zero]; try rfl)
            case hw5 => rfl
            case hv5 =>
              intro W hW
              skip
              go_simp
              try with_reducible rfl
            case ha5 => (simp only [Act.put, List.setIfInBounds_toArray, List.set_cons_succ, List.set_cons_zero]; try rfl)
            refine rh_load (i := 4) (o := ?o6) (cs := vcs y.m.vt y.m.vp) (T := 28) (x := ?x6) (b := ?b6) (q := ?q6) (listed' := ?l6) (a' := ?a6) ?hi6 (by kernel_rfl) (by kernel_rfl) (by kernel_rfl) ?hq6 ?hl6 ?hg6 ?ho6 ?hx6 ?hc6 Try.underlying28 rfl (infoVl y.m.vt y.m.vp) ?ha6 HS0.out ?hh6
            case hi6 => (simp only [List.getElem?_toArray, List.getElem?_cons_succ, List.getElem?_cons_zero]; try rfl)
            case hq6 => exact fun _ _ _ h => h
            case hl6 => (simp only [List.setIfInBounds_toArray, List.set_cons_succ, List.set_cons_zero]; try rfl)
            case hg6 => rfl
            case ho6 => rfl
            case hx6 => rfl
            case hc6 => exact fun W hW => rngV (HR_y.out W hW)
            case ha6 => (show Act.put _ _ (Value.agg (varr y.m.vt y.m.vp)) = _); (simp only [Act.put, List.setIfInBounds_toArray, List.set_cons_succ, List.set_cons_zero]; try rfl)
            refine rh_takeS (i := 5) (o := ?o7) (v := ?v7) (listed' := ?l7) (a' := ?a7) ?hi7 (by kernel_rfl) (by kernel_rfl) (by kernel_rfl) ?hq7 ?hl7 ?hw7 ?hv7 ?ha7 HS0.out ?hh7
            case hi7 => (simp only [List.getElem?_toArray, List.getElem?_cons_succ, List.getElem?_cons_zero]; try rfl)
            case hq7 => exact fun _ _ _ h => h
            case hl7 => (simp only [List.setIfInBounds_toArray, List.set_cons_succ, List.set_cons_zero]; try rfl)
            case hw7 => rfl
            case hv7 =>
              intro W hW
              skip
              go_simp
              try with_reducible rfl
            case ha7 => (simp only [Act.put, List.setIfInBounds_toArray, List.set_cons_succ, List.set_cons_zero]; try rfl)
            obtain ⟨C, hC1, hC2⟩ := HRd.out
            have HRC := hid (And.intro hC1 hC2)
            clear hC1 hC2
            refine wpAnyH_ready (rs := [6]) (by kernel_rfl) (by simp) ?_
            refine rh_storeN (i := 6) (o := ?o8) (listed' := ?l8) (x := ?x8) (y := ?y8) (b := w.heap.size) (T := 28) (varr y.m.vt y.m.vp) (infoVl' y.m.vt y.m.vp) (varr_one y.m.vt y.m.vp) ?hi8 ?hl8 ?hg8 ?ho8 ?hx8 ?hy8 ?hd8 HRC.out.1 HRC.out.2 ?hh8 ?hs8
            case hi8 => (simp only [List.getElem?_toArray, List.getElem?_cons_succ, List.getElem?_cons_zero]; try rfl)
            case hl8 => (simp only [List.setIfInBounds_toArray, List.set_cons_succ, List.set_cons_zero]; try rfl)
            case hg8 => rfl
            case ho8 => rfl
            case hx8 => rfl
            case hy8 => rfl
            case hd8 => rfl
            case hs8 => exact AllReadyH.nil
            intro WZ hO hU
            have HOZ : Hid (OV WZ w.heap.size y.m.vt y.m.vp) := hid hO
            have HBZ : Hid (Below w.heap.size wd WZ) := hid (hU.below _ (Nat.le_refl _))
            have HUZ := hid hU
            clear hO hU
            have HSZ : Hid (Below w.heap.size w WZ) := hid (HS0.out.trans HBZ.out)
            refine ⟨HSZ.out, ?_⟩
            refine rh_takeS (i := 7) (o := ?o9) (v := ?v9) (listed' := ?l9) (a' := ?a9) ?hi9 (by kernel_rfl) (by kernel_rfl) (by kernel_rfl) ?hq9 ?hl9 ?hw9 ?hv9 ?ha9 HSZ.out ?hh9
            case hi9 => (simp only [List.getElem?_toArray, List.getElem?_cons_succ, List.getElem?_cons_zero]; try rfl)
            case hq9 => exact fun _ _ _ h => h
            case hl9 => (simp only [List.setIfInBounds_toArray, List.set_cons_succ, List.set_cons_zero]; try rfl)
            case hw9 => rfl
            case hv9 =>
              intro W hW
              skip
              go_simp
              try with_reducible rfl
            case ha9 => (simp only [Act.put, List.setIfInBounds_toArray, List.set_cons_succ, List.set_cons_zero]; try rfl)
            refine wpAnyH_done (by kernel_rfl) ?_ _
            go_wp2_with fail
            refine bodyPost_ret (ret_tct rfl rfl rfl rfl HOZ.out.range Try.underlying28 rfl (infoVl _ _)) rfl (RChooseP.of (c := ⟨0, y.m.vt, y.v, 0⟩) (r := y.m.vp) ?_ ?_ HSZ.out)
            · unfold choF; rw [if_pos HPR.out, HFS.out]
            · exact ((((HA.out y (List.mem_of_getElem? HE_y.out)).on HB.out).1).on HWd.out).updV HRd.out HUZ.out
        · as_aux_lemma =>
            have HP : Hid (isS y = false) := hid (by unfold isS; rw [← HSO.out]; exact decide_eq_false h7)
            have s7 : (so == 7) = false := by simp [h7]
            clear h7
            go_wp2_with fail
            go_roundw
            case rel => exact ⟨k + 1, by omega, by go_num, hid (no_next HE_y.out HN0.out HP.out), HBa⟩
            case measure => first | omega | (simp [RowKit.intOf]; omega)
    · as_aux_lemma =>
        exfalso
        have hkm : k = m := by omega
        have := List.mem_of_find?_eq_some HFS.out
        have h2 := HN0.out z (by rw [hkm, HN.out, List.take_length]; exact this)
        rw [List.find?_some HFS.out] at h2
        cases h2
end Go.Proofs.Ytbcmhnaiabifjaa

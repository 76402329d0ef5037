import Derived.Test.YtlehcaacfgocaaaGreatQLearnZm
import Derived.Test.YtlehcaacfgocaaaGreatG03
namespace Go.Proofs.YtlehcaacfgocaaaGreat
set_option linter.unusedVariables false
open Go.RowKit Go.Maps
open Go.Lib (hid)
def inB (x g : Int) : Bool := decide (0 ≤ x) && decide (x < g)
set_option maxHeartbeats 1000000 in
theorem cIsNode (x : Int) (w : World) : Calls Tryz.prog 29 #[.int .i64 x] w fun e w' => e = .returned (.bool (inB x 9)) ∧ w = w' := by
  have hc : (0 ≤ x ∧ x < 9) ∨ (0 ≤ x ∧ ¬ x < 9) ∨ ¬ 0 ≤ x := by omega
  rcases hc with ⟨h1, h2⟩ | ⟨h1, h2⟩ | h1
  · have e1 : inB x 9 = true := by simp [inB, h1, h2]
    rw [e1]
    go_enter Tryz.func29, Tryz.ntmps29
    go_wp2
    go_ret
    exact ⟨rfl, rfl⟩
  · have e1 : inB x 9 = false := by simp [inB, h2]
    rw [e1]
    go_enter Tryz.func29, Tryz.ntmps29
    go_wp2
    go_ret
    exact ⟨rfl, rfl⟩
  · have e1 : inB x 9 = false := by simp [inB, h1]
    rw [e1]
    go_enter Tryz.func29, Tryz.ntmps29
    go_wp2
    go_ret
    exact ⟨rfl, rfl⟩
set_option maxHeartbeats 1000000 in
theorem cIsClock (x : Int) (w : World) : Calls Tryz.prog 30 #[.int .i64 x] w fun e w' => e = .returned (.bool (inB x 65536)) ∧ w = w' := by
  have hc : (0 ≤ x ∧ x < 65536) ∨ (0 ≤ x ∧ ¬ x < 65536) ∨ ¬ 0 ≤ x := by omega
  rcases hc with ⟨h1, h2⟩ | ⟨h1, h2⟩ | h1
  · have e1 : inB x 65536 = true := by simp [inB, h1, h2]
    rw [e1]
    go_enter Tryz.func30, Tryz.ntmps30
    go_wp2
    go_ret
    exact ⟨rfl, rfl⟩
  · have e1 : inB x 65536 = false := by simp [inB, h2]
    rw [e1]
    go_enter Tryz.func30, Tryz.ntmps30
    go_wp2
    go_ret
    exact ⟨rfl, rfl⟩
  · have e1 : inB x 65536 = false := by simp [inB, h1]
    rw [e1]
    go_enter Tryz.func30, Tryz.ntmps30
    go_wp2
    go_ret
    exact ⟨rfl, rfl⟩
set_option maxHeartbeats 4000000 in
set_option maxRecDepth 100000 in
theorem cAreRight {v : Value} {l : List En} {w : World} (h : SlE w v (evs l)) (hA : AllAt w l) (hs : ∀ y ∈ l, y.short 1024) (hl : l.length ≤ 1000) : Calls Tryz.prog 31 #[v] w fun e w' => e = .returned (.bool (l.all En.right)) ∧ Below w.heap.size w w' := by
  obtain ⟨b, o, cap, a, rfl, ha, hc, hb⟩ := h
  rw [List.length_map] at ha hb ⊢
  have HA := hid hA
  have HCC := hid hc
  obtain ⟨m, hm⟩ : ∃ m, m = l.length := ⟨_, rfl⟩
  rw [← hm] at ha hb hl ⊢
  have HN := hid hm
  clear hm hA hc
  go_enter Tryz.func31, Tryz.ntmps31
  go_wp2
  go_loopw [7] (fun i wr => ∃ (k : Nat), k ≤ m ∧ i = .int .i64 k ∧ (l.take k).all En.right = true ∧ Below w.heap.size w wr) (fun i _ => m - (intOf i).toNat)
  case atStart => exact ⟨0, Nat.zero_le _, rfl, by simp, Below.refl _ _⟩
  case round =>
    obtain ⟨k, hk, rfl, hall, hB⟩ := hrel
    have HB := hid hB
    have HALL := hid hall
    clear hB hall
    by_cases hlt : k < m
    · obtain rfl := ha (by omega)
      obtain ⟨y, hy⟩ : ∃ y, l[k]? = some y := ⟨l[k]'(by rw [← HN.out]; exact hlt), List.getElem?_eq_getElem (by rw [← HN.out]; exact hlt)⟩
      have hbw := hb (by omega)
      have HC : Hid (wr.rangeAt b (o + k * 19) y.e.list) := hid ((HCC.out.on HB.out fun _ => hbw) k y.e (at_evs hy))
      have hmem := List.mem_of_getElem? hy
      have hsy := hs y hmem
      have HY := hid (HA.out y hmem)
      have HE := hid hy
      have HRi := hid (fun W (hW : Below w.heap.size w W) => cRightE (HY.out.on hW).1 (HY.out.on hW).2.1 (HY.out.on hW).2.2 hsy.1 hsy.2.1 hsy.2.2)
      obtain ⟨rt, hrt⟩ : ∃ rt, rt = y.right := ⟨_, rfl⟩
      rw [show rightE y.e y.f y.a y.v = rt from hrt.symm] at HRi
      have HRT := hid hrt
      clear hy hrt hmem hsy
      rcases rt with _ | _
      · go_wp2_with (first
          | ((with_reducible refine loadEl (T := 67) (x := ?lx1) (b := ?lb1) (o := ?lo1) uE iE y.e ?lg1 ?lp1 ?lxx1 ?lc1 ?_); (case lg1 => rfl); (case lp1 => rfl); (case lxx1 => rfl); (case lc1 => exact HC.out))
          | ((with_reducible refine storeC (x := ?sx1) (y := ?sy1) (b := wr.heap.size) (T := 67) y.e ?sg1 ?so1 ?sxx1 ?syy1 ?sc1 ?_); (case sg1 => rfl); (case so1 => rfl); (case sxx1 => rfl); (case syy1 => rfl); (case sc1 => exact zeroRoom wr); intro W4 hO4 hU4
             have hb4 : Below wr.heap.size wr W4 := ((Below.refl _ wr).alloc (Nat.le_refl _) _).trans (hU4.below _ (Nat.le_refl _))
             have HX4 := hid hO4
             have HB4 := hid (HB.out.trans (hb4.mono HB.out.size))
             clear hU4 hb4 hO4)
          | ((with_reducible refine loadC (x := ?cx2) (b := wr.heap.size) (T := 67) y.e ?cg2 ?co2 ?cxx2 ?cc2 ?_); (case cg2 => rfl); (case co2 => rfl); (case cxx2 => rfl); (case cc2 => exact HX4.out))
          | (go_at_call 58; refine (HRi.out W4 HB4.out).mono ?_; rintro q w1 ⟨rfl, hB1⟩; have HB1 := hid (HB4.out.trans (hB1.mono HB4.out.size)); clear hB1)
          | fail)
        go_ret
        have hf : l.all En.right = false := by
          rw [← Bool.not_eq_true, List.all_eq_true]
          intro hh
          have := hh y (List.mem_of_getElem? HE.out)
          rw [← HRT.out] at this; cases this
        exact ⟨ret_bool hf.symm, HB1.out⟩
      · go_wp2_with (first
          | ((with_reducible refine loadEl (T := 67) (x := ?lx1) (b := ?lb1) (o := ?lo1) uE iE y.e ?lg1 ?lp1 ?lxx1 ?lc1 ?_); (case lg1 => rfl); (case lp1 => rfl); (case lxx1 => rfl); (case lc1 => exact HC.out))
          | ((with_reducible refine storeC (x := ?sx1) (y := ?sy1) (b := wr.heap.size) (T := 67) y.e ?sg1 ?so1 ?sxx1 ?syy1 ?sc1 ?_); (case sg1 => rfl); (case so1 => rfl); (case sxx1 => rfl); (case syy1 => rfl); (case sc1 => exact zeroRoom wr); intro W4 hO4 hU4
             have hb4 : Below wr.heap.size wr W4 := ((Below.refl _ wr).alloc (Nat.le_refl _) _).trans (hU4.below _ (Nat.le_refl _))
             have HX4 := hid hO4
             have HB4 := hid (HB.out.trans (hb4.mono HB.out.size))
             clear hU4 hb4 hO4)
          | ((with_reducible refine loadC (x := ?cx2) (b := wr.heap.size) (T := 67) y.e ?cg2 ?co2 ?cxx2 ?cc2 ?_); (case cg2 => rfl); (case co2 => rfl); (case cxx2 => rfl); (case cc2 => exact HX4.out))
          | (go_at_call 58; refine (HRi.out W4 HB4.out).mono ?_; rintro q w1 ⟨rfl, hB1⟩; have HB1 := hid (HB4.out.trans (hB1.mono HB4.out.size)); clear hB1)
          | fail)
        go_roundw
        case rel => exact ⟨k + 1, by omega, by go_num, by rw [List.take_add_one, HE.out]; simp only [Option.toList_some, List.all_append, List.all_cons, List.all_nil, Bool.and_true]; rw [HALL.out, ← HRT.out]; rfl, HB1.out⟩
        case measure => simp [intOf]; omega
    · have hkk : k = m := by omega
      subst hkk
      go_wp2_with fail
      go_ret
      have hf : l.all En.right = true := by have := HALL.out; rw [HN.out, List.take_length] at this; exact this
      exact ⟨ret_bool hf.symm, HB.out⟩
def seeN (c : Int) (l : List En) : Int := l.foldl (fun c y => seeI (seeI c y.e.hi) y.e.vt) c
theorem seeN_snoc (c : Int) (l : List En) (y : En) : seeN c (l ++ [y]) = seeI (seeI (seeN c l) y.e.hi) y.e.vt := by simp [seeN]
def newR (nd c : Int) (l : List En) : Int := if inB nd 9 = true ∧ inB c 65536 = true ∧ l.all En.right = true then (if (l.map En.id).Nodup then 0 else 6) else 1
theorem hasE_iff {xs : List En} {i : Int} : hasE xs i = true ↔ i ∈ xs.map En.id := by
  rw [List.mem_map]
  constructor
  · intro h
    obtain ⟨x, hx⟩ := has_some h
    obtain ⟨h1, h2⟩ := look_key En.id xs i x hx
    exact ⟨x, h2, h1⟩
  · rintro ⟨x, hx, rfl⟩
    obtain ⟨z, hz⟩ := look_mem hx
    exact (lookE_some hz).2
theorem right_wf {y : En} (h : y.right = true) : (Lit.int .i64 y.id).wf = true := by
  refine ok_wf (c := y.e.c) ?_
  unfold En.right rightE at h
  simp only [Bool.and_eq_true] at h
  exact h.1.1.1.1.1.1
theorem take_nextE {l : List En} {k : Nat} {y : En} (h : l[k]? = some y) : l.take (k + 1) = l.take k ++ [y] := by rw [List.take_add_one, h]; rfl
theorem nodup_next {a : List Int} {i : Int} (h : a.Nodup) (hi : i ∉ a) : (a ++ [i]).Nodup := List.nodup_append.2 ⟨h, by simp, fun x hx y hy e => by simp at hy; subst hy; subst e; exact hi hx⟩
theorem nodup_not {l : List En} {k : Nat} {y : En} (h : (l.map En.id).Nodup) (hk : l[k]? = some y) (hi : y.id ∈ (l.take k).map En.id) : False := by
  obtain ⟨z, hz, e⟩ := List.mem_map.1 hi
  obtain ⟨j, hj⟩ := List.getElem?_of_mem hz
  have hj2 : j < k := by have := (List.getElem?_eq_some_iff.1 hj).1; rw [List.length_take] at this; omega
  have hj3 : l[j]? = some z := by rw [List.getElem?_take_of_lt hj2] at hj; exact hj
  have h1 : (l.map En.id)[j]? = some y.id := by rw [List.getElem?_map, hj3]; simp [e]
  have h2 : (l.map En.id)[k]? = some y.id := by rw [List.getElem?_map, hk]; rfl
  have := (List.getElem?_inj (by rw [List.length_map]; exact (List.getElem?_eq_some_iff.1 hj3).1) h).1 (h1.trans h2.symm)
  omega
set_option maxHeartbeats 16000000 in
set_option maxRecDepth 100000 in
theorem cINew {v : Value} {l : List En} {w : World} (h : SlE w v (evs l)) (hA : AllAt w l) (hs : ∀ y ∈ l, y.short 1024) (hl : l.length ≤ 1000) (nd c : Int) {r : Int} (hr : r = newR nd c l) :
    Calls Tryz.prog 9 #[.int .i64 nd, .int .i64 c, v] w fun e w' => Below w.heap.size w w' ∧ (if r = 0 then ∃ x b b2, e = .returned (.tuple #[ptr x, .int .i64 0]) ∧ Ix w' x b b2 l.length nd (seeN c l) l [] ∧ w.heap.size ≤ x ∧ w.heap.size ≤ b ∧ w.heap.size ≤ b2 else e = .returned (.tuple #[.pointer none, .int .i64 r])) := by
  have hN1 := fun W => cIsNode nd W
  have hC1 := fun W => cIsClock c W
  have hR1 := cAreRight h hA hs hl
  have HRR := hid hr
  unfold newR at hr
  obtain ⟨b1, hb1⟩ : ∃ t, t = inB nd 9 := ⟨_, rfl⟩
  obtain ⟨b2, hb2⟩ : ∃ t, t = inB c 65536 := ⟨_, rfl⟩
  obtain ⟨b3, hb3⟩ : ∃ t, t = l.all En.right := ⟨_, rfl⟩
  rw [← hb1] at hN1 hr
  rw [← hb2] at hC1 hr
  rw [← hb3] at hR1 hr
  have HB3 := hid hb3
  have HR := hid hr
  clear hr hb1 hb2 hb3
  have bad : ∀ (h1 : ¬ (b1 = true ∧ b2 = true ∧ b3 = true)), r = 1 := fun h1 => by rw [HR.out, if_neg h1]
  have BAD := hid bad
  clear bad
  obtain ⟨b, o, cap, a, rfl, ha, hc, hb⟩ := h
  rw [List.length_map] at ha hb hR1 ⊢
  have HCC := hid hc
  have HA := hid hA
  obtain ⟨m, hm⟩ : ∃ m, m = l.length := ⟨_, rfl⟩
  rw [← hm] at ha hb hl hR1 ⊢
  have HN := hid hm
  clear hm hc hA
  rcases b1 with _ | _
  · obtain rfl : r = 1 := BAD.out (by simp)
    clear BAD HR
    go_enter Tryz.func9, Tryz.ntmps9
    go_wp2_with (first
      | (go_at_call 29; refine (hN1 _).mono ?_; rintro y w' ⟨rfl, rfl⟩)
      | fail)
    go_ret2
    exact ⟨Below.refl _ _, rfl⟩
  rcases b2 with _ | _
  · obtain rfl : r = 1 := BAD.out (by simp)
    clear BAD HR
    go_enter Tryz.func9, Tryz.ntmps9
    go_wp2_with (first
      | (go_at_call 29; refine (hN1 _).mono ?_; rintro y w' ⟨rfl, rfl⟩)
      | (go_at_call 30; refine (hC1 _).mono ?_; rintro y w' ⟨rfl, rfl⟩)
      | fail)
    go_ret2
    exact ⟨Below.refl _ _, rfl⟩
  rcases b3 with _ | _
  · obtain rfl : r = 1 := BAD.out (by simp)
    clear BAD HR
    go_enter Tryz.func9, Tryz.ntmps9
    go_wp2_with (first
      | (go_at_call 29; refine (hN1 _).mono ?_; rintro y w' ⟨rfl, rfl⟩)
      | (go_at_call 30; refine (hC1 _).mono ?_; rintro y w' ⟨rfl, rfl⟩)
      | (go_at_call 31; refine hR1.mono ?_; rintro y w1 ⟨rfl, hB1⟩; have HB1 := hid hB1; clear hB1)
      | fail)
    go_ret2
    exact ⟨HB1.out, rfl⟩
  have HALL : Hid (∀ y ∈ l, y.right = true) := hid fun y hy => List.all_eq_true.1 HB3.out.symm y hy
  have HR0 := hid (show r = if (l.map En.id).Nodup then 0 else 6 by have := HR.out; rw [if_pos ⟨rfl, rfl, rfl⟩] at this; exact this)
  clear BAD HR HB3
  go_enter Tryz.func9, Tryz.ntmps9
  go_wp2_with (first
    | (go_at_call 29; refine (hN1 _).mono ?_; rintro y w' ⟨rfl, rfl⟩)
    | (go_at_call 30; refine (hC1 _).mono ?_; rintro y w' ⟨rfl, rfl⟩)
    | (go_at_call 31; refine hR1.mono ?_; rintro y w1 ⟨rfl, hB1⟩; have HB1 := hid hB1; clear hB1; have hmk1 : Sem.run Tryz.prog (Instr.makeMap 83 none) w1 = .ok (.map (some w1.heap.size)) (w1.alloc (.map #[] 0)) := run_makeMap _ _; have hmk2 : Sem.run Tryz.prog (Instr.makeMap 84 none) (w1.alloc (.map #[] 0)) = .ok (.map (some (w1.heap.size + 1))) ((w1.alloc (.map #[] 0)).alloc (.map #[] 0)) := by have := run_makeMap (P := Tryz.prog) 84 (w1.alloc (.map #[] 0)); rw [World.size_alloc] at this; exact this)
    | fail)
  have HX0 : Hid (Ix (((w1.alloc (.map #[] 0)).alloc (.map #[] 0)).alloc (.cells #[.int .i64 nd, .int .i64 c, .map (some w1.heap.size), .map (some (w1.heap.size + 1))] 86)) (w1.heap.size + 1 + 1) w1.heap.size (w1.heap.size + 1) 0 nd (seeN c (l.take 0)) (l.take 0) []) := hid ⟨laid3_2 w1 (.map #[] 0) (.map #[] 0) (.cells #[.int .i64 nd, .int .i64 c, .map (some w1.heap.size), .map (some (w1.heap.size + 1))] 86), (Mp.made w1).on (((Below.refl _ _).alloc (Nat.le_refl _) (.map #[] 0)).alloc (by simp) (.cells #[.int .i64 nd, .int .i64 c, .map (some w1.heap.size), .map (some (w1.heap.size + 1))] 86)), by have := (Cg.made (w1.alloc (.map #[] 0))).on ((Below.refl _ _).alloc (Nat.le_refl _) (.cells #[.int .i64 nd, .int .i64 c, .map (some w1.heap.size), .map (some (w1.heap.size + 1))] 86)); rw [World.size_alloc] at this; exact this, by omega⟩
  have HB2 : Hid (Below w.heap.size w (((w1.alloc (.map #[] 0)).alloc (.map #[] 0)).alloc (.cells #[.int .i64 nd, .int .i64 c, .map (some w1.heap.size), .map (some (w1.heap.size + 1))] 86))) := hid (HB1.out.trans ((laid3_b w1 (.map #[] 0) (.map #[] 0) (.cells #[.int .i64 nd, .int .i64 c, .map (some w1.heap.size), .map (some (w1.heap.size + 1))] 86)).mono HB1.out.size))
  have HSZ := hid HB1.out.size
  generalize ((w1.alloc (.map #[] 0)).alloc (.map #[] 0)).alloc (.cells #[.int .i64 nd, .int .i64 c, .map (some w1.heap.size), .map (some (w1.heap.size + 1))] 86) = W1 at HX0 HB2 ⊢
  generalize hx : w1.heap.size + 1 + 1 = x at HX0 ⊢
  generalize hb1 : w1.heap.size + 1 = bb2 at HX0 ⊢
  generalize hb0 : w1.heap.size = bb at HX0 HSZ ⊢
  have HXS : Hid (w.heap.size ≤ x ∧ w.heap.size ≤ bb ∧ w.heap.size ≤ bb2) := hid (by have := HSZ.out; omega)
  clear hmk1 hmk2 hx hb1 hb0 HB1 HSZ hN1 hC1 hR1
  go_loopw [34] (fun i wr => ∃ (k : Nat), k ≤ m ∧ i = .int .i64 k ∧ Hid (Ix wr x bb bb2 k nd (seeN c (l.take k)) (l.take k) []) ∧ Hid (((l.take k).map En.id).Nodup) ∧ Hid (Below w.heap.size w wr)) (fun i _ => m - (intOf i).toNat)
  case atStart => exact ⟨0, Nat.zero_le _, rfl, HX0, hid (by simp), HB2⟩
  case round =>
    obtain ⟨k, hk, rfl, HI, HND, HB⟩ := hrel
    clear HX0 HB2
    by_cases hlt : k < m
    · obtain rfl := ha (by omega)
      obtain ⟨y, hy⟩ : ∃ y, l[k]? = some y := ⟨l[k]'(by rw [← HN.out]; exact hlt), List.getElem?_eq_getElem (by rw [← HN.out]; exact hlt)⟩
      have hbw := hb (by omega)
      have HC : Hid (wr.rangeAt b (o + k * 19) y.e.list) := hid ((HCC.out.on HB.out fun _ => hbw) k y.e (at_evs hy))
      have hwf := right_wf (HALL.out y (List.mem_of_getElem? hy))
      have HE := hid hy
      have HLT := hid hlt
      clear hy
      go_wp2_with (first
        | ((with_reducible refine loadEl (T := 67) (x := ?lx1) (b := ?lb1) (o := ?lo1) uE iE y.e ?lg1 ?lp1 ?lxx1 ?lc1 ?_); (case lg1 => rfl); (case lp1 => rfl); (case lxx1 => rfl); (case lc1 => exact HC.out))
        | ((with_reducible refine storeC (x := ?sx1) (y := ?sy1) (b := wr.heap.size) (T := 67) y.e ?sg1 ?so1 ?sxx1 ?syy1 ?sc1 ?_); (case sg1 => rfl); (case so1 => rfl); (case sxx1 => rfl); (case syy1 => rfl); (case sc1 => exact zeroRoom wr); intro W4 hO4 hU4
           have hb4 : Below wr.heap.size wr W4 := ((Below.refl _ wr).alloc (Nat.le_refl _) _).trans (hU4.below _ (Nat.le_refl _))
           have HX4 := hid hO4
           have HB4 := hid (HB.out.trans (hb4.mono HB.out.size))
           have HI4 := hid (HI.out.on hb4)
           have HL4 := hid (And.intro HI.out.lt (show wr.heap.size < W4.heap.size from (Array.getElem?_eq_some_iff.1 hO4).1))
           clear hU4 hb4 hO4)
        | fail)
      obtain ⟨xs, hxs⟩ : ∃ xs, xs = l.take k := ⟨_, rfl⟩
      obtain ⟨c1, hc1⟩ : ∃ c1, c1 = seeN c (l.take k) := ⟨_, rfl⟩
      rw [← hxs] at HND
      rw [← hc1, ← hxs] at HI4
      have HXS2 := hid (And.intro hxs hc1)
      obtain ⟨e1, he1⟩ : ∃ e, e = lookE xs y.id := ⟨_, rfl⟩
      obtain ⟨d1, hd1⟩ : ∃ d, d = hasE xs y.id := ⟨_, rfl⟩
      have HD1 := hid hd1
      have HFA : Hid (∀ W, Below W4.heap.size W4 W → W.cell? ⟨x, 2, none⟩ = some (Value.map (some bb)) ∧ W.cell? ⟨wr.heap.size, 0, none⟩ = some (.int .i64 y.e.c.i) ∧ Sem.run Tryz.prog (Instr.lookup 83 (.map (some bb)) (.int .i64 y.e.c.i) true) W = .ok (.tuple #[.agg e1.arr, .bool d1]) W) := hid fun W hW => ⟨(HI4.out.on hW).cells.2.2.1, (cellAt' (heapB HX4.out hW HL4.out.2) 0).trans rfl, by rw [he1, hd1]; exact run_look (HI4.out.on hW).mp hwf⟩
      clear he1 hd1 hxs hc1 HI HB HC
      refine rh_start (S := fun W => Below W4.heap.size W4 W) (n := 14) (listed := #[false, false, false, false, false, false, false, false, false, false, false, false, false, false]) (by kernel_rfl) rfl rfl ?_
      have HS0 : Hid (Below W4.heap.size W4 W4.drew) := hid (belowDrew (Below.refl _ W4))
      generalize World.drew W4 = wd at HS0 ⊢
      refine rh_takeS (i := 0) (o := ?o1) (v := ?v1) (listed' := ?l1) (a' := ?a1) ?hi1 (by kernel_rfl) (by kernel_rfl) (by kernel_rfl) ?hq1 ?hl1 ?hw1 ?hv1 ?ha1 HS0.out ?hh1
      case hi1 => (simp only [List.getElem?_toArray, List.getElem?_cons_zero]; try rfl)
      case hq1 => exact fun _ _ _ h => h
      case hl1 => (simp only [List.setIfInBounds_toArray, List.set_cons_zero]; try rfl)
      case hw1 => rfl
      case hv1 =>
        intro W hW
        obtain ⟨k2, k4, hl⟩ := HFA.out W hW
        go_simp
        try with_reducible rfl
      case ha1 => (simp only [Act.put, List.setIfInBounds_toArray, List.set_cons_succ, List.set_cons_zero]; try rfl)
      refine rh_takeS (i := 1) (o := ?o2) (v := ?v2) (listed' := ?l2) (a' := ?a2) ?hi2 (by kernel_rfl) (by kernel_rfl) (by kernel_rfl) ?hq2 ?hl2 ?hw2 ?hv2 ?ha2 HS0.out ?hh2
      case hi2 => (simp only [List.getElem?_toArray, List.getElem?_cons_succ, List.getElem?_cons_zero]; try rfl)
      case hq2 => exact fun _ _ _ h => h
      case hl2 => (simp only [List.setIfInBounds_toArray, List.set_cons_succ, List.set_cons_zero]; try rfl)
      case hw2 => rfl
      case hv2 =>
        intro W hW
        obtain ⟨k2, k4, hl⟩ := HFA.out W hW
        go_simp
        try with_reducible rfl
      case ha2 => (simp only [Act.put, List.setIfInBounds_toArray, List.set_cons_succ, List.set_cons_zero]; try rfl)
      refine rh_takeS (i := 2) (o := ?o3) (v := ?v3) (listed' := ?l3) (a' := ?a3) ?hi3 (by kernel_rfl) (by kernel_rfl) (by kernel_rfl) ?hq3 ?hl3 ?hw3 ?hv3 ?ha3 HS0.out ?hh3
      case hi3 => (simp only [List.getElem?_toArray, List.getElem?_cons_succ, List.getElem?_cons_zero]; try rfl)
      case hq3 => exact fun _ _ _ h => h
      case hl3 => (simp only [List.setIfInBounds_toArray, List.set_cons_succ, List.set_cons_zero]; try rfl)
      case hw3 => rfl
      case hv3 =>
        intro W hW
        obtain ⟨k2, k4, hl⟩ := HFA.out W hW
        go_simp
        try with_reducible rfl
      case ha3 => (simp only [Act.put, List.setIfInBounds_toArray, List.set_cons_succ, List.set_cons_zero]; try rfl)
      refine rh_takeS (i := 3) (o := ?o4) (v := ?v4) (listed' := ?l4) (a' := ?a4) ?hi4 (by kernel_rfl) (by kernel_rfl) (by kernel_rfl) ?hq4 ?hl4 ?hw4 ?hv4 ?ha4 HS0.out ?hh4
      case hi4 => (simp only [List.getElem?_toArray, List.getElem?_cons_succ, List.getElem?_cons_zero]; try rfl)
      case hq4 => exact fun _ _ _ h => h
      case hl4 => (simp only [List.setIfInBounds_toArray, List.set_cons_succ, List.set_cons_zero]; try rfl)
      case hw4 => rfl
      case hv4 =>
        intro W hW
        obtain ⟨k2, k4, hl⟩ := HFA.out W hW
        go_simp
        try with_reducible rfl
      case ha4 => (simp only [Act.put, List.setIfInBounds_toArray, List.set_cons_succ, List.set_cons_zero]; try rfl)
      refine rh_takeS (i := 4) (o := ?o5) (v := ?v5) (listed' := ?l5) (a' := ?a5) ?hi5 (by kernel_rfl) (by kernel_rfl) (by kernel_rfl) ?hq5 ?hl5 ?hw5 ?hv5 ?ha5 HS0.out ?hh5
      case hi5 => (simp only [List.getElem?_toArray, List.getElem?_cons_succ, List.getElem?_cons_zero]; try rfl)
      case hq5 => exact fun _ _ _ h => h
      case hl5 => (simp only [List.setIfInBounds_toArray, List.set_cons_succ, List.set_cons_zero]; try rfl)
      case hw5 => rfl
      case hv5 =>
        intro W hW
        obtain ⟨k2, k4, hl⟩ := HFA.out W hW
        go_simp
        try with_reducible rfl
      case ha5 => (simp only [Act.put, List.setIfInBounds_toArray, List.set_cons_succ, List.set_cons_zero]; try rfl)
      refine rh_takeS (i := 5) (o := ?o6) (v := ?v6) (listed' := ?l6) (a' := ?a6) ?hi6 (by kernel_rfl) (by kernel_rfl) (by kernel_rfl) ?hq6 ?hl6 ?hw6 ?hv6 ?ha6 HS0.out ?hh6
      case hi6 => (simp only [List.getElem?_toArray, List.getElem?_cons_succ, List.getElem?_cons_zero]; try rfl)
      case hq6 => exact fun _ _ _ h => h
      case hl6 => (simp only [List.setIfInBounds_toArray, List.set_cons_succ, List.set_cons_zero]; try rfl)
      case hw6 => rfl
      case hv6 =>
        intro W hW
        obtain ⟨k2, k4, hl⟩ := HFA.out W hW
        go_simp
        try with_reducible rfl
      case ha6 => (simp only [Act.put, List.setIfInBounds_toArray, List.set_cons_succ, List.set_cons_zero]; try rfl)
      refine rh_takeS (i := 6) (o := ?o7) (v := ?v7) (listed' := ?l7) (a' := ?a7) ?hi7 (by kernel_rfl) (by kernel_rfl) (by kernel_rfl) ?hq7 ?hl7 ?hw7 ?hv7 ?ha7 HS0.out ?hh7
      case hi7 => (simp only [List.getElem?_toArray, List.getElem?_cons_succ, List.getElem?_cons_zero]; try rfl)
      case hq7 => exact fun _ _ _ h => h
      case hl7 => (simp only [List.setIfInBounds_toArray, List.set_cons_succ, List.set_cons_zero]; try rfl)
      case hw7 => rfl
      case hv7 =>
        intro W hW
        obtain ⟨k2, k4, hl⟩ := HFA.out W hW
        go_simp
        try with_reducible rfl
      case ha7 => (simp only [Act.put, List.setIfInBounds_toArray, List.set_cons_succ, List.set_cons_zero]; try rfl)
      refine rh_takeS (i := 7) (o := ?o8) (v := ?v8) (listed' := ?l8) (a' := ?a8) ?hi8 (by kernel_rfl) (by kernel_rfl) (by kernel_rfl) ?hq8 ?hl8 ?hw8 ?hv8 ?ha8 HS0.out ?hh8
      case hi8 => (simp only [List.getElem?_toArray, List.getElem?_cons_succ, List.getElem?_cons_zero]; try rfl)
      case hq8 => exact fun _ _ _ h => h
      case hl8 => (simp only [List.setIfInBounds_toArray, List.set_cons_succ, List.set_cons_zero]; try rfl)
      case hw8 => rfl
      case hv8 =>
        intro W hW
        obtain ⟨k2, k4, hl⟩ := HFA.out W hW
        go_simp
        try with_reducible rfl
      case ha8 => (simp only [Act.put, List.setIfInBounds_toArray, List.set_cons_succ, List.set_cons_zero]; try rfl)
      refine rh_takeS (i := 8) (o := ?o9) (v := ?v9) (listed' := ?l9) (a' := ?a9) ?hi9 (by kernel_rfl) (by kernel_rfl) (by kernel_rfl) ?hq9 ?hl9 ?hw9 ?hv9 ?ha9 HS0.out ?hh9
      case hi9 => (simp only [List.getElem?_toArray, List.getElem?_cons_succ, List.getElem?_cons_zero]; try rfl)
      case hq9 => exact fun _ _ _ h => h
      case hl9 => (simp only [List.setIfInBounds_toArray, List.set_cons_succ, List.set_cons_zero]; try rfl)
      case hw9 => rfl
      case hv9 =>
        intro W hW
        obtain ⟨k2, k4, hl⟩ := HFA.out W hW
        go_simp
        try with_reducible rfl
      case ha9 => (simp only [Act.put, List.setIfInBounds_toArray, List.set_cons_succ, List.set_cons_zero]; try rfl)
      refine rh_takeS (i := 9) (o := ?o10) (v := ?v10) (listed' := ?l10) (a' := ?a10) ?hi10 (by kernel_rfl) (by kernel_rfl) (by kernel_rfl) ?hq10 ?hl10 ?hw10 ?hv10 ?ha10 HS0.out ?hh10
      case hi10 => (simp only [List.getElem?_toArray, List.getElem?_cons_succ, List.getElem?_cons_zero]; try rfl)
      case hq10 => exact fun _ _ _ h => h
      case hl10 => (simp only [List.setIfInBounds_toArray, List.set_cons_succ, List.set_cons_zero]; try rfl)
      case hw10 => rfl
      case hv10 =>
        intro W hW
        obtain ⟨k2, k4, hl⟩ := HFA.out W hW
        go_simp
        try with_reducible rfl
      case ha10 => (simp only [Act.put, List.setIfInBounds_toArray, List.set_cons_succ, List.set_cons_zero]; try rfl)
      refine rh_takeS (i := 10) (o := ?o11) (v := ?v11) (listed' := ?l11) (a' := ?a11) ?hi11 (by kernel_rfl) (by kernel_rfl) (by kernel_rfl) ?hq11 ?hl11 ?hw11 ?hv11 ?ha11 HS0.out ?hh11
      case hi11 => (simp only [List.getElem?_toArray, List.getElem?_cons_succ, List.getElem?_cons_zero]; try rfl)
      case hq11 => exact fun _ _ _ h => h
      case hl11 => (simp only [List.setIfInBounds_toArray, List.set_cons_succ, List.set_cons_zero]; try rfl)
      case hw11 => rfl
      case hv11 =>
        intro W hW
        obtain ⟨k2, k4, hl⟩ := HFA.out W hW
        go_simp
        try with_reducible rfl
      case ha11 => (simp only [Act.put, List.setIfInBounds_toArray, List.set_cons_succ, List.set_cons_zero]; try rfl)
      refine wpAnyH_ready (rs := [11]) (by kernel_rfl) (by simp) ?_
      refine rh_cons (i := 11) (o := ?o12) (listed' := ?l12) ?hi12 ?hl12 ?hg12 ?hh12 ?hs12
      case hi12 => (simp only [List.getElem?_toArray, List.getElem?_cons_succ, List.getElem?_cons_zero]; try rfl)
      case hl12 => (simp only [List.setIfInBounds_toArray, List.set_cons_succ, List.set_cons_zero]; try rfl)
      case hg12 => rfl
      case hs12 => exact AllReadyH.nil
      intro K hK
      go_simp
      have HS1 : Hid (Below W4.heap.size W4 (wd.alloc zeroEc)) := hid (HS0.out.alloc HS0.out.size _)
      refine hK.out _ _ HS1.out ?_
      clear hK K
      refine wpAnyH_ready (rs := [12]) (by kernel_rfl) (by simp) ?_
      refine rh_storeC (i := 12) (o := ?o13) (listed' := ?l13) (x := ?x13) (y := ?y13) (b := wd.heap.size) (T := 67) e1 ?hi13 ?hl13 ?hg13 ?ho13 ?hx13 ?hy13 ?hd13 ?hc13 ?hh13 ?hs13
      case hi13 => (simp only [List.getElem?_toArray, List.getElem?_cons_succ, List.getElem?_cons_zero]; try rfl)
      case hl13 => (simp only [List.setIfInBounds_toArray, List.set_cons_succ, List.set_cons_zero]; try rfl)
      case hg13 => rfl
      case ho13 => rfl
      case hx13 => rfl
      case hy13 => rfl
      case hd13 => rfl
      case hc13 => exact zeroRoom wd
      case hs13 => exact AllReadyH.nil
      intro W2 hO2 hU2
      have HS2 := hid (HS1.out.trans (hU2.below _ (HS0.out.size)))
      refine ⟨HS2.out, ?_⟩
      clear hO2 hU2
      refine rh_takeS (i := 13) (o := ?o14) (v := ?v14) (listed' := ?l14) (a' := ?a14) ?hi14 (by kernel_rfl) (by kernel_rfl) (by kernel_rfl) ?hq14 ?hl14 ?hw14 ?hv14 ?ha14 HS2.out ?hh14
      case hi14 => (simp only [List.getElem?_toArray, List.getElem?_cons_succ, List.getElem?_cons_zero]; try rfl)
      case hq14 => exact fun _ _ _ h => h
      case hl14 => (simp only [List.setIfInBounds_toArray, List.set_cons_succ, List.set_cons_zero]; try rfl)
      case hw14 => rfl
      case hv14 =>
        intro W hW
        obtain ⟨k2, k4, hl⟩ := HFA.out W hW
        go_simp
        try with_reducible rfl
      case ha14 => (simp only [Act.put, List.setIfInBounds_toArray, List.set_cons_succ, List.set_cons_zero]; try rfl)
      refine wpAnyH_done (by kernel_rfl) ?_ _
      have HI2 := hid (HI4.out.on HS2.out)
      have HB2 := hid (HB4.out.trans (HS2.out.mono HB4.out.size))
      have HX2 : Hid (Ob W2 wr.heap.size 67 y.e) := hid (heapB HX4.out HS2.out HL4.out.2)
      clear HS0 HS1 HFA HI4 HB4 HX4 HS2
      rcases d1 with _ | _
      · go_wp2_with fail
        refine wp_region_still_tail 8 (by kernel_rfl) (by kernel_rfl) ?_
        obtain ⟨W5, hW5⟩ : ∃ W5 : World, W5 = { W2 with drawn := W2.drawn + 1 } := ⟨_, rfl⟩
        rw [← hW5]
        have HB5 : Hid (Below W2.heap.size W2 W5) := hid (by rw [hW5]; exact belowDrew (Below.refl _ W2))
        clear hW5
        have HX5 : Hid (Ob W5 wr.heap.size 67 y.e) := hid (heapB HX2.out HB5.out (Array.getElem?_eq_some_iff.1 HX2.out).1)
        have HI5 := hid (HI2.out.on HB5.out)
        have HB6 := hid (HB2.out.trans (HB5.out.mono HB2.out.size))
        obtain ⟨k0, k1, k2, k3, f1⟩ := HI5.out.cells
        have k4 : W5.cell? ⟨wr.heap.size, 0, none⟩ = some (.int .i64 y.e.c.i) := (cellAt' HX5.out 0).trans rfl
        simp only [List.take_succ_cons, List.take_zero, List.drop_succ_cons, List.drop_zero]
        still_step
        still_step
        still_step
        still_step
        still_step
        still_step
        still_step
        refine stillC y.e rfl rfl rfl HX5.out ?_
        refine wpStill_nil ?_
        obtain ⟨D, hD, hS⟩ := HI5.out.mp
        refine wpList_mapUpdate_own _ rfl _ _ _ 83 rfl 3 67 (Maps.int_keyed Tryz.underlying3) Tryz.underlying83 RE bb k D rfl hD (by unfold maxLen; omega) _ _ (key y.id) rfl rfl (Maps.keyOf_int_mk Tryz.underlying3 hwf) _ [] (RE_mk y.e) ?_
        intro W6 hD6 hg
        have hT : Tch (fun k => k = bb) W5 W6 := Tch.ofGrown hg fun k e => (Option.some.inj e).symm
        have HI6 : Hid (Ix W6 x bb bb2 (k + 1) nd c1 (xs ++ [y]) []) := hid ⟨hT.ob HI5.out.ob HI5.out.xb.1, ⟨_, hD6, hS.put (own_isMap hD) y⟩, (HI5.out.cg.keptT hT (fun e => HI5.out.ne e.symm)).mono (by omega), HI5.out.ne⟩
        have HX6 : Hid (Ob W6 wr.heap.size 67 y.e) := hid (hT.ob HX5.out (by have := HL4.out.1; omega))
        have HB7 := hid (HB6.out.trans (hT.below (fun k e => by have := HXS.out; omega) HB6.out.size))
        clear hD hS hD6 hg hT HI5 HX5 HI2 HX2 HB2 HB5 HB6 k0 k1 k2 k3 k4 f1
        have k9 := HX6.out.cell (j := 9) (v := .int .i64 y.e.hi) rfl
        go_wp2_with fail
        go_at_call 32
        refine (cSee HI6.out y.e.hi).mono ?_
        rintro q W7 ⟨rfl, hJ7, hT7⟩
        have HI7 := hid hJ7
        have HX7 : Hid (Ob W7 wr.heap.size 67 y.e) := hid (hT7.ob HX6.out (fun e => by have := HL4.out.1; omega))
        have HB8 := hid (HB7.out.trans (hT7.below (fun k e => by have := HXS.out; omega) HB7.out.size))
        clear hJ7 hT7 HI6 HX6 HB7 k9
        have k17 := HX7.out.cell (j := 17) (v := .int .i64 y.e.vt) rfl
        go_wp2_with fail
        go_at_call 32
        refine (cSee HI7.out y.e.vt).mono ?_
        rintro q W8 ⟨rfl, hJ8, hT8⟩
        have HI8 := hid hJ8
        have HX8 : Hid (Ob W8 wr.heap.size 67 y.e) := hid (hT8.ob HX7.out (fun e => by have := HL4.out.1; omega))
        have HB9 := hid (HB8.out.trans (hT8.below (fun k e => by have := HXS.out; omega) HB8.out.size))
        clear hJ8 hT8 HI7 HX7 HB8 k17
        go_wp2_with fail
        go_roundw
        case rel => exact ⟨k + 1, by have := HLT.out; omega, by go_num, hid (by have := HI8.out; rw [HXS2.out.1, HXS2.out.2] at this; rw [take_nextE HE.out, seeN_snoc]; exact this), hid (by rw [take_nextE HE.out, List.map_append, ← HXS2.out.1]; exact nodup_next HND.out (fun h => by have := hasE_iff.2 h; rw [← HD1.out] at this; cases this)), HB9⟩
        case measure => have := HLT.out; simp [intOf]; omega
      · have hnn : ¬ (l.map En.id).Nodup := fun h => nodup_not h HE.out (by rw [← HXS2.out.1]; exact hasE_iff.1 HD1.out.symm)
        obtain rfl : r = 6 := by rw [HR0.out, if_neg hnn]
        clear hnn
        go_wp2_with fail
        go_ret2
        exact ⟨HB2.out, rfl⟩
    · obtain rfl : k = m := by omega
      rw [HN.out, List.take_length] at HI HND
      rw [← HN.out] at HI
      obtain rfl : r = 0 := by rw [HR0.out, if_pos HND.out]
      go_wp2_with fail
      go_ret2
      exact ⟨HB.out, x, rfl, bb, bb2, HI.out, HXS.out⟩
end Go.Proofs.YtlehcaacfgocaaaGreat

import Derived.Test.YtmggggijamligaaG08
import Derived.Test.YtmggggijamligaaG02
import Derived.Deep.DeepCutAuto
import Derived.Lib.QuietBelow
import Derived.Deep.QuietTactic
import Derived.BigQuiet
namespace Go.Proofs.Ytmggggijamligaa
set_option linter.unusedVariables false
open Go.RowKit
open Go.Lib (hid)
theorem find_next {l : List En} {k : Nat} {x : En} (hx : l[k]? = some x) (id : Int) : findN (l.take (k + 1)) id = (findN (l.take k) id).or (if x.id = id then some k else none) := by
  unfold findN
  have hk := (List.getElem?_eq_some_iff.1 hx).1
  rw [List.take_add_one, hx, List.findIdx?_append]
  congr 1
  by_cases e : x.id = id
  · rw [if_pos e]; simp [isId, e, Nat.min_eq_left (Nat.le_of_lt hk)]
  · rw [if_neg e]; simp [isId, e]
theorem find_known {l : List En} {k : Nat} {x : En} (hx : l[k]? = some x) (hs : (findN (l.take k) x.id).isSome = true) : findN (l.take (k + 1)) = findN (l.take k) := by
  funext id
  rw [find_next hx]
  rcases h : findN (l.take k) id with _ | j
  · rw [if_neg (fun e => by rw [e, h] at hs; cases hs)]; rfl
  · rfl
theorem find_new {l : List En} {k : Nat} {x : En} (hx : l[k]? = some x) (hs : (findN (l.take k) x.id).isSome = false) : findN (l.take (k + 1)) = fun id => if id = x.id then some k else findN (l.take k) id := by
  funext id
  rw [find_next hx]
  by_cases e : id = x.id
  · subst e
    rw [if_pos rfl, if_pos rfl]
    rcases h : findN (l.take k) x.id with _ | j
    · rfl
    · rw [h] at hs; cases hs
  · rw [if_neg (fun e2 => e e2.symm), if_neg e]
    cases findN (l.take k) id <;> rfl
theorem run_makeMapH {P : Program} {t k e : TypeId} (hu : P.underlying t = some (.map k e)) (n : Int) (w : World) : Sem.run P (Instr.makeMap t (some (.int .i64 n))) w = .ok (.map (some w.heap.size)) (w.alloc (.map #[] 0)) := by
  simp [Instr.makeMap, run_underlying hu, asInt, asIntOf, Result.andThen]
theorem four (w : World) (a b c d : Obj) : ((((w.alloc a).alloc b).alloc c).alloc d).drew.heap[w.heap.size]? = some a ∧ ((((w.alloc a).alloc b).alloc c).alloc d).drew.heap[w.heap.size + 1]? = some b ∧ ((((w.alloc a).alloc b).alloc c).alloc d).drew.heap[w.heap.size + 1 + 1]? = some c ∧ ((((w.alloc a).alloc b).alloc c).alloc d).drew.heap[w.heap.size + 1 + 1 + 1]? = some d := by
  have e1 : (w.alloc a).heap.size = w.heap.size + 1 := by simp
  have e2 : ((w.alloc a).alloc b).heap.size = w.heap.size + 1 + 1 := by simp
  have e3 : (((w.alloc a).alloc b).alloc c).heap.size = w.heap.size + 1 + 1 + 1 := by simp
  refine ⟨obAlloc (obAlloc (obAlloc (heap_alloc_new w a))), ?_, ?_, ?_⟩
  · rw [← e1]; exact obAlloc (obAlloc (heap_alloc_new (w.alloc a) b))
  · rw [← e2]; exact obAlloc (heap_alloc_new ((w.alloc a).alloc b) c)
  · rw [← e3]; exact heap_alloc_new (((w.alloc a).alloc b).alloc c) d
theorem Mf.ofEmpty {w : World} {F : Nat} (h : w.heap[F]? = some (.map #[] 0)) : Mf w F 0 (fun _ => none) := ⟨.map [], ⟨#[], 0, h, ⟨by simp, MapKept.stamped_empty 0, by simp⟩, Nat.le_refl _, rfl⟩, fun i => ⟨fun j h => (by cases h), fun _ => rfl⟩⟩
theorem Mh.ofEmpty {w : World} {F : Nat} (h : w.heap[F]? = some (.map #[] 0)) : Mh w F 0 [] := ⟨.map [], ⟨#[], 0, h, ⟨by simp, MapKept.stamped_empty 0, by simp⟩, Nat.le_refl _, rfl⟩, fun i => rfl⟩
theorem Mf.mono {w : World} {b n n' : Nat} {f : Int → Option Nat} (h : Mf w b n f) (hn : n ≤ n') : Mf w b n' f := by
  obtain ⟨D, h, hs⟩ := h
  exact ⟨D, h.mono hn, hs⟩
def vwC (v : Value) (F H : Nat) : Array Value := #[v, .map (some F), .map (some H)]
set_option maxHeartbeats 4000000 in
set_option maxRecDepth 100000 in
theorem cLook {v vh : Value} {l : List En} {had : List Int} {w : World} (h : SlE w v (evs l)) (hl : l.length ≤ 1000) (hh : SlI w vh had) (hhl : had.length ≤ 10000) (hw : WfA l had) : Calls Try.prog 20 #[v, vh] w fun e w' => ∃ F H, e = .returned (.agg (vwC v F H)) ∧ Mf w' F l.length (findN l) ∧ Mh w' H had.length had ∧ w.heap.size ≤ F ∧ w.heap.size ≤ H ∧ Below w.heap.size w w' := by
  obtain ⟨b, o, cap, a, rfl, ha, hc, hb⟩ := h
  obtain ⟨b2, o2, cap2, a2, rfl, ha2, hc2, hb2⟩ := hh
  have hlm : (evs l).length = l.length := List.length_map ..
  rw [hlm] at ha hb ⊢
  have HCC := hid hc
  have HC2 := hid hc2
  have HW := hid hw
  obtain ⟨m, hm⟩ : ∃ m, m = l.length := ⟨_, rfl⟩
  rw [← hm] at hl ha hb ⊢
  obtain ⟨n, hn⟩ : ∃ n, n = had.length := ⟨_, rfl⟩
  rw [← hn] at hhl ha2 hb2 ⊢
  have HM := hid hm
  have HN := hid hn
  clear hm hn hc hc2 hw hlm
  have k1 : ∀ W : World, Sem.run Try.prog (Instr.makeMap 60 (some (.int .i64 m))) W = .ok (.map (some W.heap.size)) (W.alloc (.map #[] 0)) := fun W => run_makeMapH Try.underlying60 _ _
  have k2 : ∀ W : World, Sem.run Try.prog (Instr.makeMap 61 (some (.int .i64 n))) W = .ok (.map (some W.heap.size)) (W.alloc (.map #[] 0)) := fun W => run_makeMapH Try.underlying61 _ _
  go_enter Try.func20, Try.ntmps20
  go_upto_region 1 with fail
  go_cut [5] from 12 (fun s5 wx => ∃ V F H, s5 = .pointer (some ⟨V, 0, none⟩) ∧ Hid (wx.heap[V]? = some (.cells (vwC (.slice a m cap) F H) 63 (0, 0))) ∧ Hid (wx.heap[F]? = some (.map #[] 0)) ∧ Hid (wx.heap[H]? = some (.map #[] 0)) ∧ Hid (F ≠ H ∧ V ≠ F ∧ V ≠ H ∧ w.heap.size < F ∧ w.heap.size < H ∧ w.heap.size < V) ∧ Hid (wx.heap[w.heap.size]? = some (.cells #[.slice none 0 0, .map none, .map none] 63 (0, 0))) ∧ Hid (Below w.heap.size w wx))
  case first =>
    go_region
    all_goals
      go_wp2_with fail
      go_meet
      first
        | exact ⟨_, (w.heap.size + 1), (w.heap.size + 1 + 1), rfl, hid (by first | exact (four w _ _ _ _).2.1 | exact (four w _ _ _ _).2.2.1 | exact (four w _ _ _ _).2.2.2), hid (by first | exact (four w _ _ _ _).2.1 | exact (four w _ _ _ _).2.2.1 | exact (four w _ _ _ _).2.2.2), hid (by first | exact (four w _ _ _ _).2.1 | exact (four w _ _ _ _).2.2.1 | exact (four w _ _ _ _).2.2.2), hid (by omega), hid (four w _ _ _ _).1, hid (belowDrew (((((Below.refl _ w).alloc (Nat.le_refl _) _).alloc (by simp) _).alloc (by simp; omega) _).alloc (by simp; omega) _))⟩
        | exact ⟨_, (w.heap.size + 1), (w.heap.size + 1 + 1 + 1), rfl, hid (by first | exact (four w _ _ _ _).2.1 | exact (four w _ _ _ _).2.2.1 | exact (four w _ _ _ _).2.2.2), hid (by first | exact (four w _ _ _ _).2.1 | exact (four w _ _ _ _).2.2.1 | exact (four w _ _ _ _).2.2.2), hid (by first | exact (four w _ _ _ _).2.1 | exact (four w _ _ _ _).2.2.1 | exact (four w _ _ _ _).2.2.2), hid (by omega), hid (four w _ _ _ _).1, hid (belowDrew (((((Below.refl _ w).alloc (Nat.le_refl _) _).alloc (by simp) _).alloc (by simp; omega) _).alloc (by simp; omega) _))⟩
        | exact ⟨_, (w.heap.size + 1 + 1), (w.heap.size + 1), rfl, hid (by first | exact (four w _ _ _ _).2.1 | exact (four w _ _ _ _).2.2.1 | exact (four w _ _ _ _).2.2.2), hid (by first | exact (four w _ _ _ _).2.1 | exact (four w _ _ _ _).2.2.1 | exact (four w _ _ _ _).2.2.2), hid (by first | exact (four w _ _ _ _).2.1 | exact (four w _ _ _ _).2.2.1 | exact (four w _ _ _ _).2.2.2), hid (by omega), hid (four w _ _ _ _).1, hid (belowDrew (((((Below.refl _ w).alloc (Nat.le_refl _) _).alloc (by simp) _).alloc (by simp; omega) _).alloc (by simp; omega) _))⟩
        | exact ⟨_, (w.heap.size + 1 + 1), (w.heap.size + 1 + 1 + 1), rfl, hid (by first | exact (four w _ _ _ _).2.1 | exact (four w _ _ _ _).2.2.1 | exact (four w _ _ _ _).2.2.2), hid (by first | exact (four w _ _ _ _).2.1 | exact (four w _ _ _ _).2.2.1 | exact (four w _ _ _ _).2.2.2), hid (by first | exact (four w _ _ _ _).2.1 | exact (four w _ _ _ _).2.2.1 | exact (four w _ _ _ _).2.2.2), hid (by omega), hid (four w _ _ _ _).1, hid (belowDrew (((((Below.refl _ w).alloc (Nat.le_refl _) _).alloc (by simp) _).alloc (by simp; omega) _).alloc (by simp; omega) _))⟩
        | exact ⟨_, (w.heap.size + 1 + 1 + 1), (w.heap.size + 1), rfl, hid (by first | exact (four w _ _ _ _).2.1 | exact (four w _ _ _ _).2.2.1 | exact (four w _ _ _ _).2.2.2), hid (by first | exact (four w _ _ _ _).2.1 | exact (four w _ _ _ _).2.2.1 | exact (four w _ _ _ _).2.2.2), hid (by first | exact (four w _ _ _ _).2.1 | exact (four w _ _ _ _).2.2.1 | exact (four w _ _ _ _).2.2.2), hid (by omega), hid (four w _ _ _ _).1, hid (belowDrew (((((Below.refl _ w).alloc (Nat.le_refl _) _).alloc (by simp) _).alloc (by simp; omega) _).alloc (by simp; omega) _))⟩
        | exact ⟨_, (w.heap.size + 1 + 1 + 1), (w.heap.size + 1 + 1), rfl, hid (by first | exact (four w _ _ _ _).2.1 | exact (four w _ _ _ _).2.2.1 | exact (four w _ _ _ _).2.2.2), hid (by first | exact (four w _ _ _ _).2.1 | exact (four w _ _ _ _).2.2.1 | exact (four w _ _ _ _).2.2.2), hid (by first | exact (four w _ _ _ _).2.1 | exact (four w _ _ _ _).2.2.1 | exact (four w _ _ _ _).2.2.2), hid (by omega), hid (four w _ _ _ _).1, hid (belowDrew (((((Below.refl _ w).alloc (Nat.le_refl _) _).alloc (by simp) _).alloc (by simp; omega) _).alloc (by simp; omega) _))⟩
  case rest =>
    obtain ⟨V, F, H, rfl, HV, HF, HH, HNE, HRS, HBC⟩ := hcut
    go_wp2_with fail
    go_loopw [22] (fun s22 wr => ∃ (k : Nat), k ≤ m ∧ s22 = .int .i64 k ∧ Hid (wr.heap[V]? = some (.cells (vwC (.slice a m cap) F H) 63 (0, 0))) ∧ Hid (Mf wr F k (findN (l.take k))) ∧ Hid (Mh wr H 0 []) ∧ Hid (wr.heap[w.heap.size]? = some (.cells #[.slice none 0 0, .map none, .map none] 63 (0, 0))) ∧ Hid (Below w.heap.size w wr)) (fun s22 _ => m - (RowKit.intOf s22).toNat)
    case atStart => exact ⟨0, Nat.zero_le _, rfl, HV, hid (Mf.ofEmpty HF.out), hid (Mh.ofEmpty HH.out), HRS, HBC⟩
    case round =>
      obtain ⟨k, hk, rfl, HV1, HF1, HH1, HRS1, HB1⟩ := hrel
      by_cases hlt : k < m
      · have hlti : ((k : Int) < m) := by omega
        obtain rfl := ha (by omega)
        have hbw := hb (by omega)
        obtain ⟨x, hx⟩ : ∃ x, l[k]? = some x := ⟨l[k]'(by rw [← HM.out]; exact hlt), List.getElem?_eq_getElem (by rw [← HM.out]; exact hlt)⟩
        obtain ⟨xi, hxi⟩ : ∃ z, z = x.id := ⟨_, rfl⟩
        have HXI := hid hxi
        have d0 : wr.cell? ⟨b, o + k * 19, none⟩ = some (.int .i64 xi) := (HB1.out.cell hbw).trans (by rw [hxi]; exact HCC.out k x.e (at_evs hx) 0 _ rfl)
        have HWF : Hid (wfI xi) := hid (by rw [hxi]; exact (HW.out.1 x (List.mem_of_getElem? hx)).1)
        have e1 : wr.cell? ⟨V, 1, none⟩ = some (.map (some F)) := (cellAt' HV1.out 1).trans rfl
        have hlk := run_lookF2 HF1.out HWF.out
        obtain ⟨z, hz⟩ : ∃ z, z = optZ (findN (l.take k) xi) := ⟨_, rfl⟩
        obtain ⟨kn, hkn⟩ : ∃ z, z = (findN (l.take k) xi).isSome := ⟨_, rfl⟩
        rw [← hz, ← hkn] at hlk
        have HX := hid hx
        have HKN := hid hkn
        clear hx hxi hz hkn
        rcases kn with _ | _
        · obtain ⟨D, hD, hS⟩ := HF1.out
          have HS := hid hS
          have HDD := hid hD
          have hkm : k < maxLen := by unfold maxLen; omega
          clear hS hD
          go_wp2_with (first
            | (at_mapUpdate; refine wpList_mapUpdate_own _ rfl _ _ _ 60 rfl 3 3 (Maps.int_keyed Try.underlying3) Try.underlying60 (plainElem Try.prog 3) F k D rfl HDD.out hkm _ _ (keyI xi) rfl rfl (Maps.keyOf_int_mk Try.underlying3 HWF.out) _ [] (plainElem_int Try.underlying3 (a := (k : Int)) (wfI_of (by omega))) ?_; intro W2 hD2 hg; have HM2 : Hid (Mf W2 F (k + 1) (findN (l.take (k + 1)))) := hid (by rw [find_new HX.out (by rw [← HXI.out]; exact HKN.out.symm)]; exact ⟨_, hD2, by rw [← HXI.out]; exact HS.out.put (own_isMapB HDD.out) xi k⟩); have HG2 := hid hg; clear hD2 hg)
            | fail)
          go_roundw
          case rel => exact ⟨k + 1, by omega, by go_num, hid ((HG2.out.block V (Array.getElem?_eq_some_iff.1 HV1.out).1 (fun e => HNE.out.2.1 (Option.some.inj e))).trans HV1.out), HM2, hid (HH1.out.same (HG2.out.block H HH1.out.lt (fun e => HNE.out.1 (Option.some.inj e).symm))), hid ((HG2.out.block w.heap.size (Array.getElem?_eq_some_iff.1 HRS1.out).1 (fun e => by have := HNE.out.2.2.2.1; have := Option.some.inj e; omega)).trans HRS1.out), hid (HB1.out.grown HG2.out HB1.out.size (fun j hj => by cases hj; exact Nat.le_of_lt HNE.out.2.2.2.1))⟩
          case measure => first | omega | (simp [RowKit.intOf]; omega)
        · go_wp2_with fail
          go_roundw
          case rel => exact ⟨k + 1, by omega, by go_num, HV1, hid (by rw [find_known HX.out (by rw [← HXI.out]; exact HKN.out.symm)]; exact HF1.out.mono (by omega)), HH1, HRS1, HB1⟩
          case measure => first | omega | (simp [RowKit.intOf]; omega)
      · have hlti : ¬ ((k : Int) < m) := by omega
        have hkm : k = m := by omega
        have HF2 : Hid (Mf wr F m (findN l)) := hid (by have := HF1.out; rw [hkm, HM.out, List.take_length] at this; rw [HM.out]; exact this)
        clear HF1
        go_wp2_with fail
        rename World => wo
        go_loopw [47] (fun s47 wr => ∃ (j : Nat), j ≤ n ∧ s47 = .int .i64 j ∧ Hid (wr.heap[V]? = some (.cells (vwC (.slice a m cap) F H) 63 (0, 0))) ∧ Hid (Mf wr F m (findN l)) ∧ Hid (Mh wr H j (had.take j)) ∧ Hid (wr.heap[w.heap.size]? = some (.cells #[.slice none 0 0, .map none, .map none] 63 (0, 0))) ∧ Hid (Below w.heap.size w wr)) (fun s47 _ => n - (RowKit.intOf s47).toNat)
        case atStart => exact ⟨0, Nat.zero_le _, rfl, HV1, HF2, HH1, HRS1, HB1⟩
        case round =>
          obtain ⟨j, hj, rfl, HV3, HF3, HH3, HRS3, HB3⟩ := hrel
          by_cases hlt2 : j < n
          · have hlti2 : ((j : Int) < n) := by omega
            obtain rfl := ha2 (by omega)
            have hbw := hb2 (by omega)
            obtain ⟨y, hy⟩ : ∃ y, had[j]? = some y := ⟨had[j]'(by rw [← HN.out]; exact hlt2), List.getElem?_eq_getElem (by rw [← HN.out]; exact hlt2)⟩
            have d0 : wr.cell? ⟨b2, o2 + j, none⟩ = some (.int .i64 y) := (HB3.out.cell hbw).trans (HC2.out j y hy)
            have HY := hid hy
            have HWF : Hid (wfI y) := hid (HW.out.2 y (List.mem_of_getElem? hy))
            have e2 : wr.cell? ⟨V, 2, none⟩ = some (.map (some H)) := (cellAt' HV3.out 2).trans rfl
            obtain ⟨D, hD, hS⟩ := HH3.out
            have HS := hid hS
            have HDD := hid hD
            have hkm : j < maxLen := by unfold maxLen; omega
            have HFF := HF3
            clear hy hS hD
            go_wp2_with (first
              | (at_mapUpdate; refine wpList_mapUpdate_own _ rfl _ _ _ 61 rfl 3 77 (Maps.int_keyed Try.underlying3) Try.underlying61 unitElem H j D rfl HDD.out hkm _ _ (keyI y) rfl rfl (Maps.keyOf_int_mk Try.underlying3 HWF.out) _ [] unitElem_mk ?_; intro W2 hD2 hg; have HM2 : Hid (Mh W2 H (j + 1) (had.take (j + 1))) := hid (by rw [List.take_add_one, HY.out]; exact ⟨_, hD2, HS.out.put (own_isMapB HDD.out) y _⟩); have HG2 := hid hg; clear hD2 hg)
              | fail)
            go_roundw
            case rel => exact ⟨j + 1, by omega, by go_num, hid ((HG2.out.block V (Array.getElem?_eq_some_iff.1 HV3.out).1 (fun e => HNE.out.2.2.1 (Option.some.inj e))).trans HV3.out), hid (HF3.out.same (HG2.out.block F HF3.out.lt (fun e => HNE.out.1 (Option.some.inj e)))), HM2, hid ((HG2.out.block w.heap.size (Array.getElem?_eq_some_iff.1 HRS3.out).1 (fun e => by have := HNE.out.2.2.2.2.1; have := Option.some.inj e; omega)).trans HRS3.out), hid (HB3.out.grown HG2.out HB3.out.size (fun j hj => by cases hj; exact Nat.le_of_lt HNE.out.2.2.2.2.1))⟩
            case measure => first | omega | (simp [RowKit.intOf]; omega)
          · have hlti2 : ¬ ((j : Int) < n) := by omega
            have hjn : j = n := by omega
            have HH4 : Hid (Mh wr H n had) := hid (by have := HH3.out; rw [hjn, HN.out, List.take_length] at this; rw [HN.out]; exact this)
            have e0 : wr.cell? ⟨V, 0, none⟩ = some (.slice a m cap) := (cellAt' HV3.out 0).trans rfl
            have e1 : wr.cell? ⟨V, 1, none⟩ = some (.map (some F)) := (cellAt' HV3.out 1).trans rfl
            have e2 : wr.cell? ⟨V, 2, none⟩ = some (.map (some H)) := (cellAt' HV3.out 2).trans rfl
            have r0 : wr.cell? ⟨w.heap.size, 0, none⟩ = some (.slice none 0 0) := (cellAt' HRS3.out 0).trans rfl
            have r1 : wr.cell? ⟨w.heap.size, 1, none⟩ = some (.map none) := (cellAt' HRS3.out 1).trans rfl
            have r2 : wr.cell? ⟨w.heap.size, 2, none⟩ = some (.map none) := (cellAt' HRS3.out 2).trans rfl
            have f0 := frozen_of_row wr w.heap.size 0 _ _ HRS3.out
            have f1 := frozen_of_row wr w.heap.size 1 _ _ HRS3.out
            have f2 := frozen_of_row wr w.heap.size 2 _ _ HRS3.out
            clear HH3
            go_wp2_with fail
            have HRB := heap_setCell_same _ w.heap.size 2 _ _ (.map (some H)) (heap_setCell_same _ w.heap.size 1 _ _ (.map (some F)) (heap_setCell_same wr w.heap.size 0 _ _ (.slice a m cap) HRS3.out))
            have HG : wr.grownBy (((wr.setCell ⟨w.heap.size, 0, none⟩ (.slice a m cap)).setCell ⟨w.heap.size, 1, none⟩ (.map (some F))).setCell ⟨w.heap.size, 2, none⟩ (.map (some H))) (some w.heap.size) := grownTrans (grownTrans (grownSet _ _ _) (grownSet _ _ _)) (grownSet _ _ _)
            generalize ((wr.setCell ⟨w.heap.size, 0, none⟩ (.slice a m cap)).setCell ⟨w.heap.size, 1, none⟩ (.map (some F))).setCell ⟨w.heap.size, 2, none⟩ (.map (some H)) = W5 at HRB HG ⊢
            have k0 : W5.cell? ⟨w.heap.size, 0, none⟩ = some (.slice a m cap) := (cellAt' HRB 0).trans rfl
            have k1 : W5.cell? ⟨w.heap.size, 1, none⟩ = some (.map (some F)) := (cellAt' HRB 1).trans rfl
            have k2 : W5.cell? ⟨w.heap.size, 2, none⟩ = some (.map (some H)) := (cellAt' HRB 2).trans rfl
            refine bodyPost_ret (v := .agg (vwC (.slice a m cap) F H)) (by simp [results, Try.results20, go_sem, k0, k1, k2, vwC]) rfl ⟨F, H, rfl, HF3.out.same (HG.block F HF3.out.lt (fun e => ?_)), HH4.out.same (HG.block H HH4.out.lt (fun e => ?_)), Nat.le_of_lt HNE.out.2.2.2.1, Nat.le_of_lt HNE.out.2.2.2.2.1, HB3.out.grown HG HB3.out.size (fun j hj => by cases hj; exact Nat.le_refl _)⟩
            · have := Option.some.inj e; have := HNE.out.2.2.2.1; omega
            · have := Option.some.inj e; have := HNE.out.2.2.2.2.1; omega
end Go.Proofs.Ytmggggijamligaa
namespace Go.Proofs.Ytmggggijamligaa
set_option linter.unusedVariables false
open Go.RowKit
open Go.Lib (hid)
open Go.Sort (grow)
structure Vw (w : World) (lv : Value) (F H nf nh : Nat) (l : List En) (had : List Int) : Prop where
  sl : SlE w lv (evs l)
  at' : AllAt w l
  mf : Mf w F nf (findN l)
  mh : Mh w H nh had
  wf : WfA l had
theorem Vw.on {w w' : World} {lv : Value} {F H nf nh : Nat} {l : List En} {had : List Int} (h : Vw w lv F H nf nh l had) (hb : Below w.heap.size w w') : Vw w' lv F H nf nh l had := ⟨h.sl.on hb, h.at'.on hb, h.mf.on hb, h.mh.on hb, h.wf⟩
set_option maxHeartbeats 4000000 in
set_option maxRecDepth 100000 in
theorem cDeliv {w : World} {lv : Value} {F H nh : Nat} {had : List Int} (hM : Mh w H nh had) {id : Int} (hw : wfI id) {r : Bool} (hr : r = hasI had id) : Calls Try.prog 28 #[.agg (vwC lv F H), .int .i64 id] w fun e w' => e = .returned (.bool r) ∧ Below w.heap.size w w' := by
  have HM := hid hM
  have HR := hid hr
  clear hM hr
  unfold vwC
  go_enter Try.func28, Try.ntmps28
  go_upto_region 1 with fail
  have HB : Hid (Below w.heap.size w (w.alloc (.cells #[lv, .map (some F), .map (some H)] 63))) := hid ((Below.refl _ w).alloc (Nat.le_refl _) _)
  have HN : Hid ((w.alloc (.cells #[lv, .map (some F), .map (some H)] 63)).heap[w.heap.size]? = some (.cells #[lv, .map (some F), .map (some H)] 63 (0, 0))) := hid (heap_alloc_new w _)
  generalize w.alloc (.cells #[lv, .map (some F), .map (some H)] 63) = W at HB HN ⊢
  have e2 : W.cell? ⟨w.heap.size, 2, none⟩ = some (.map (some H)) := (cellAt' HN.out 2).trans rfl
  have hlk := run_lookH2 (HM.out.on HB.out) hw
  rw [← HR.out] at hlk
  go_wp2_with fail
  go_ret
  exact ⟨rfl, HB.out.alloc HB.out.size _⟩
theorem SlE.entry {w : World} {lv : Value} {l : List En} (h : SlE w lv (evs l)) {j : Nat} {y : En} (hy : l[j]? = some y) : ∃ b o cap, lv = .slice (some ⟨b, o, none⟩) l.length cap ∧ b < w.heap.size ∧ w.rangeAt b (o + j * 19) y.e.list := by
  obtain ⟨b, o, cap, a, rfl, ha, hc, hb⟩ := h
  have hlm : (evs l).length = l.length := List.length_map ..
  rw [hlm] at ha hb ⊢
  have hj := (List.getElem?_eq_some_iff.1 hy).1
  obtain rfl := ha (by omega)
  exact ⟨b, o, cap, rfl, hb (by omega), hc j y.e (at_evs hy)⟩
theorem dep_no {l : List En} {had : List Int} {t : Int} {c : C7} (h : findN l c.i = none) : depB l had t c = false := by
  unfold depB; rw [findN_none h]
theorem dep_yes {l : List En} {had : List Int} {t : Int} {c : C7} {j : Nat} {y : En} (h : findN l c.i = some j) (hy : l[j]? = some y) : depB l had t c = (y.e.dn && (decide (t < y.e.vt) || hasI had c.i)) := by
  obtain ⟨z, hz, _, hf⟩ := findN_some h
  rw [hz] at hy
  obtain rfl := Option.some.inj hy
  unfold depB; rw [hf]
set_option maxHeartbeats 4000000 in
set_option maxRecDepth 100000 in
theorem cStopped {w : World} {lv : Value} {F H nf nh : Nat} {l : List En} {had : List Int} (hV : Vw w lv F H nf nh l had) (hl : l.length ≤ 1000) {c : C7} {id t : Int} (hc : id = c.i) (hw : wfI id) {r : Bool} (hr : r = !depB l had t c) : Calls Try.prog 29 #[.agg (vwC lv F H), .int .i64 id, .int .i64 t] w fun e w' => e = .returned (.bool r) ∧ Below w.heap.size w w' := by
  have HV := hid hV
  have HR := hid hr
  have HC := hid hc
  have hD : Hid (∀ W, Below w.heap.size w W → ∀ q, q = hasI had id → Calls Try.prog 28 #[.agg (vwC lv F H), .int .i64 id] W fun e w' => e = .returned (.bool q) ∧ Below W.heap.size W w') := hid (fun W hW q hq => cDeliv (hV.mh.on hW) hw hq)
  clear hV hr hc
  unfold vwC at hD ⊢
  go_enter Try.func29, Try.ntmps29
  go_upto_region 1 with fail
  have HB : Hid (Below w.heap.size w (w.alloc (.cells #[lv, .map (some F), .map (some H)] 63))) := hid ((Below.refl _ w).alloc (Nat.le_refl _) _)
  have HN : Hid ((w.alloc (.cells #[lv, .map (some F), .map (some H)] 63)).heap[w.heap.size]? = some (.cells #[lv, .map (some F), .map (some H)] 63 (0, 0))) := hid (heap_alloc_new w _)
  generalize w.alloc (.cells #[lv, .map (some F), .map (some H)] 63) = W at HB HN ⊢
  have e0 : W.cell? ⟨w.heap.size, 0, none⟩ = some lv := (cellAt' HN.out 0).trans rfl
  have e1 : W.cell? ⟨w.heap.size, 1, none⟩ = some (.map (some F)) := (cellAt' HN.out 1).trans rfl
  have e2 : W.cell? ⟨w.heap.size, 2, none⟩ = some (.map (some H)) := (cellAt' HN.out 2).trans rfl
  have hlk := run_lookF2 (HV.out.mf.on HB.out) hw
  obtain ⟨fo, hfo⟩ : ∃ z, z = findN l id := ⟨_, rfl⟩
  rw [← hfo] at hlk
  have HFO := hid hfo
  clear hfo
  rcases fo with _ | j
  · have HRT : Hid (r = true) := hid (by rw [HR.out, dep_no (by rw [← HC.out]; exact HFO.out.symm)]; rfl)
    have hlk' : Sem.run Try.prog (Instr.lookup 60 (.map (some F)) (.int .i64 id) true) W = .ok (.tuple #[.int .i64 0, .bool false]) W := hlk
    clear hlk
    go_wp2_with fail
    go_ret
    exact ⟨by rw [HRT.out]; rfl, HB.out⟩
  · have hlk' : Sem.run Try.prog (Instr.lookup 60 (.map (some F)) (.int .i64 id) true) W = .ok (.tuple #[.int .i64 (j : Int), .bool true]) W := hlk
    clear hlk
    obtain ⟨y, hy, _, _⟩ := findN_some HFO.out.symm
    have hjl := (List.getElem?_eq_some_iff.1 hy).1
    obtain ⟨b, o, cap, hlv, hbw, hrg⟩ := HV.out.sl.entry hy
    have HDP : Hid (depB l had t c = (y.e.dn && (decide (t < y.e.vt) || hasI had c.i))) := hid (dep_yes (by rw [← HC.out]; exact HFO.out.symm) hy)
    obtain ⟨m, hm⟩ : ∃ m, m = l.length := ⟨_, rfl⟩
    rw [← hm] at hlv hjl hl
    obtain ⟨dn, hdn⟩ : ∃ z, z = y.e.dn := ⟨_, rfl⟩
    obtain ⟨vt, hvt⟩ : ∃ z, z = y.e.vt := ⟨_, rfl⟩
    have g16 : W.cell? ⟨b, o + j * 19 + 16, none⟩ = some (.bool dn) := (HB.out.cell hbw).trans (by rw [hdn]; exact hrg 16 _ rfl)
    have g17 : W.cell? ⟨b, o + j * 19 + 17, none⟩ = some (.int .i64 vt) := (HB.out.cell hbw).trans (by rw [hvt]; exact hrg 17 _ rfl)
    have hji : ((j : Int) < m) := by omega
    have HDN := hid hdn
    have HVT := hid hvt
    obtain ⟨q, hq⟩ : ∃ q, q = hasI had id := ⟨_, rfl⟩
    have HQ := hid hq
    have hcall := hD.out W HB.out q hq
    subst hlv
    clear hm hdn hvt hy hrg hq hD HV
    rcases dn with _ | _
    · have HRT : Hid (r = true) := hid (by rw [HR.out, HDP.out, ← HDN.out]; rfl)
      go_wp2_with fail
      go_ret
      exact ⟨by rw [HRT.out]; rfl, HB.out⟩
    · by_cases ht : vt ≤ t
      · have HRT : Hid (r = !q) := hid (by rw [HR.out, HDP.out, ← HDN.out, ← HVT.out, decide_eq_false (by omega), ← HC.out, ← HQ.out]; simp)
        have hle : decide (vt ≤ t) = true := decide_eq_true ht
        go_wp2_with (first
          | (go_at_call 28; refine hcall.mono ?_; clear hcall; rintro e w1 ⟨rfl, hB1⟩; have HB1 := hid (HB.out.trans (hB1.mono HB.out.size)); clear hB1)
          | fail)
        go_ret
        exact ⟨by rw [HRT.out]; rfl, HB1.out⟩
      · have HRT : Hid (r = false) := hid (by rw [HR.out, HDP.out, ← HDN.out, ← HVT.out, decide_eq_true (show t < vt by omega)]; rfl)
        have hle : decide (vt ≤ t) = false := decide_eq_false ht
        go_wp2_with fail
        go_ret
        exact ⟨by rw [HRT.out]; rfl, HB.out⟩
end Go.Proofs.Ytmggggijamligaa

import Derived.Test.YtogoibigabpkhaaGreatG27
import Derived.Test.YtogoibigabpkhaaGreatG22
import Derived.Test.YtogoibigabpkhaaGreatG19
/- All entries of the program's index, by their names. -/
namespace Go.Proofs.YtogoibigabpkhaaGreat
set_option linter.unusedVariables false
open Go.RowKit Go.Maps Go.Sort
open Go.Lib (hid)

set_option maxHeartbeats 1000000 in
theorem cValues (b : Nat) (w : World) : Calls Tryz.prog 43 #[.map (some b)] w fun e w' => e = .returned (.func (.func 81) #[] #[.pointer (some ⟨w.heap.size, 0, none⟩)]) ∧ w'.cell? ⟨w.heap.size, 0, none⟩ = some (Value.map (some b)) ∧ Below w.heap.size w w' ∧ w'.heap.size = w.heap.size + 1 := by
  go_enter Tryz.func43, Tryz.ntmps43
  go_wp2
  go_ret
  exact ⟨rfl, cellAt' (heap_alloc_new w _) 0, (Below.refl _ w).alloc (Nat.le_refl _) _, by simp⟩
set_option maxHeartbeats 2000000 in
set_option maxRecDepth 100000 in
theorem cSortedFunc {Bm b nn : Nat} {xs : List En} {w : World} (hBm : Bm < w.heap.size) (hm : w.cell? ⟨Bm, 0, none⟩ = some (Value.map (some b))) (hown : Mp w b nn xs) (hN : nn ≤ 20000) (hlx : xs.length ≤ 20000) :
    Calls Tryz.prog 42 #[.func (.func 81) #[] #[.pointer (some ⟨Bm, 0, none⟩)], .func (.func 44) #[] #[]] w fun e w' => ∃ v, e = .returned v ∧ SlE w' v (keptE xs) ∧ Below w.heap.size w w' := by
  have hC := cCollect Bm b nn xs w hBm hm hown (by omega)
  go_enter Tryz.func42, Tryz.ntmps42
  go_wp2_with fail
  go_at_call 79
  refine hC.mono ?_
  rintro e w1 ⟨v, es, rfl, hA, hO, hB⟩
  have hnn : es.length ≤ 100000 := by
    have h1 : (es.map fun e : Ev => e.c.i).Nodup := hA.1
    have h2 := hA.2
    have h3 : es.length ≤ xs.length := by
      have hsub : (es.map fun e : Ev => e.c.i) ⊆ xs.map En.id := fun i hi => by
        obtain ⟨e, he, rfl⟩ := List.mem_map.1 hi
        obtain ⟨x, hx, hxe⟩ := (h2 e).1 he
        obtain ⟨k1, k2⟩ := look_key En.id xs _ x hx
        exact List.mem_map.2 ⟨x, k2, k1⟩
      have := nodup_le _ _ h1 hsub
      simpa using this
    omega
  have hS := cSort hO hnn hA.1
  have HA := hid hA
  obtain ⟨g, cap, n, rfl, -⟩ := hO.asSlice
  have HB := hid hB
  clear hA hO hB
  go_wp2_with (go_at_call 80; refine hS.mono ?_; rintro e w2 ⟨rfl, s, hs, hp, hu, hB2⟩)
  go_ret
  exact ⟨_, rfl, by rw [← sorted_kept HA.out hp hu]; exact hs, HB.out.trans hB2⟩

set_option maxHeartbeats 2000000 in
set_option maxRecDepth 100000 in
theorem cAll {w : World} {x b b2 n : Nat} {nd c : Int} {xs : List En} {ids : List Int} (h : Ix w x b b2 n nd c xs ids) (hn : n ≤ 20000) (hl : xs.length ≤ 20000) :
    Calls Tryz.prog 12 #[ptr x] w fun e w' => ∃ v, e = .returned v ∧ SlE w' v (keptE xs) ∧ Below w.heap.size w w' := by
  have hM := cMade h
  obtain ⟨k0, k1, k2, k3, f1⟩ := h.cells
  have HM := hid h.mp
  clear h
  go_enter Tryz.func12, Tryz.ntmps12
  go_wp2_with (go_at_call 41; refine hM.mono ?_; rintro e w' ⟨rfl, rfl⟩)
  go_at_call 43
  refine (cValues b _).mono ?_
  rintro y w1 ⟨rfl, hm1, hB1, hs1⟩
  have HB1 := hid hB1
  have hS := cSortedFunc (by omega) hm1 (HM.out.on hB1) hn hl
  clear hB1 hm1 hs1
  go_wp2_with fail
  go_at_call 42
  refine hS.mono ?_
  rintro y w2 ⟨v, rfl, hv, hB2⟩
  have HV := hid hv
  have HB2 := hid (HB1.out.trans (hB2.mono HB1.out.size))
  clear hS hv hB2
  go_wp2_with fail
  go_ret
  exact ⟨v, rfl, HV.out, HB2.out⟩
theorem cAll_nil (w : World) : Calls Tryz.prog 12 #[.pointer none] w fun e w' => e = .returned (.slice none 0 0) ∧ w = w' := by
  have hM := cMade_nil w
  go_enter Tryz.func12, Tryz.ntmps12
  go_wp2_with (go_at_call 41; refine hM.mono ?_; rintro e w' ⟨rfl, rfl⟩)
  go_ret
  exact ⟨rfl, rfl⟩
end Go.Proofs.YtogoibigabpkhaaGreat

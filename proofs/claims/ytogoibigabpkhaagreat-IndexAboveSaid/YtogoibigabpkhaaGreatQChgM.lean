import Derived.Test.YtogoibigabpkhaaGreatG19
import Derived.Test.YtogoibigabpkhaaGreatShelf
import Derived.Test.YtogoibigabpkhaaGreatG27
import Derived.Test.YtogoibigabpkhaaGreatG14
import Derived.Maps.OwnSet
/- What changed: the names of the program's set, rising; and none behind it. -/
namespace Go.Proofs.YtogoibigabpkhaaGreat
set_option linter.unusedVariables false
open Go.RowKit Go.Maps Go.Sort
open Go.Lib (hid)

/-- Names, rising, each once. -/
abbrev upI (ids : List Int) : List Int := keptG (fun i : Int => i) ids
theorem upI_mem (ids : List Int) (i : Int) : i ∈ upI ids ↔ i ∈ ids := by
  rw [kept_mem]
  induction ids using snocRec with
  | nil => simp [lookG]
  | snoc xs x ih =>
    rw [look_snoc, List.mem_append, List.mem_singleton]
    by_cases h : x = i
    · simp [h]
    · simp [h, ih, Ne.symm h]
theorem sorts_any (m : Nat) : AnyZI.SortsIn Tryz.prog Tryz.sortedA_ren Fence.wide m :=
  ⟨fun blk off cap ss W hH hblk hsz => callsIn_wide.2 ((Tryz.slices_Sort_int blk off cap ss W hH hblk hsz)),
   fun p cap W => callsIn_wide.2 (Tryz.slices_Sort_int_none p cap W)⟩
theorem cKeys (mb : Option Nat) (w : World) : Calls Tryz.prog 64 #[.map mb] w fun e w' => e = .returned (.func (.func 93) #[] #[.pointer (some ⟨w.heap.size, 0, none⟩)]) ∧ w' = w.alloc (.cells #[.map mb] 70) :=
  (callsIn_wide (n := 5)).1 (AnyZI.keys_in Tryz.keysA Fence.wide 5 trivial rfl mb w)
theorem cSorted {w : World} {q b n : Nat} {ids : List Int} (hq : q < w.heap.size) (hm : w.cell? ⟨q, 0, none⟩ = some (.map (some b))) (h : Cg w b n ids) (hn : n ≤ 20000) :
    Calls Tryz.prog 63 #[.func (.func 93) #[] #[.pointer (some ⟨q, 0, none⟩)]] w fun e w' => ∃ v, e = .returned v ∧ OwnI w' w.heap.size v (upI ids) ∧ Below w.heap.size w w' := by
  obtain ⟨D, hD, hS⟩ := h
  have hsz := hD.size_le
  have hseq : SeqGives Fence.wide 2 Tryz.prog 93 #[.pointer (some ⟨q, 0, none⟩)] encZ (fun ss => ss.Perm (intKeys D)) (Maps.size D) w :=
    AnyZI.keys_gives (ρ := Tryz.keysA_ren) { Tryz.keysA with } Fence.wide _ trivial rfl (by omega) q b n D _ hq hm hD
  have cS := AnyZI.sorted_in Tryz.sortedA Fence.wide 5 trivial trivial trivial trivial rfl (by omega) (sorts_any _) (enters_of Tryz.func92 (by kernel_rfl) rfl) 93 #[.pointer (some ⟨q, 0, none⟩)] trivial (enters_of Tryz.func93 (by kernel_rfl) rfl) _ _ (by unfold maxLen; omega) (by omega) _ hseq
  change CallsIn _ _ Tryz.prog 63 _ _ _ at cS
  refine ((callsIn_wide (n := 5)).1 cS).mono ?_
  rintro e w' ⟨v, ss, rfl, hp, hrow, hnil, hb⟩
  have hu := kept_up (fun i : Int => i) ids
  have hk : (upI ids).Perm (intKeys D) := by
    refine CollectedI.perm (left := fun _ => false) ⟨hu.imp fun {a b} (h : a < b) => by omega, fun x => ?_⟩ hD (Maps.int_keyed Tryz.underlying3) Tryz.underlying3 fun _ => rfl
    rw [upI_mem, hS x]; simp
  have he : ss.mergeSort leI = upI ids := by
    rw [mergeSort_of_perm_i (hp.trans hk.symm)]
    exact List.mergeSort_of_pairwise (hu.imp fun {a b} (h : a < b) => by simp [leI]; omega)
  have hl : ss.length = (upI ids).length := (hp.trans hk.symm).length_eq
  refine ⟨v, rfl, ?_, hb⟩
  unfold OwnI nums
  rw [← he, List.length_mergeSort]
  exact hrow
theorem wpList_clear_own {H : Type} {P : Program} (w : World) {ops : Array Oper} {rest : List Oper} {o : Oper} {a : Act} {Q : Exit → Act → World → Prop} (hg : o.guard = none) (m : Operand) (t : TypeId) (hop : o.op = Op.call { callee := Callee.builtin Builtin.clear, args := #[m], argTypes := #[t] })
    (k e : TypeId) (ht : P.underlying t = some (.map k e)) (R : Value → Option (DataW H × List MemPlace)) (b n : Nat) (D : DataW H) (hm : a.eval m = .map (some b)) (hown : w.ownsMap P k R b n D)
    (hK : ∀ w', w'.ownsMap P k R b 0 (.map []) → w.mapTurned w' b → wpList P ops Q rest (a.put o.dst (.tuple #[])) w') : wpList P ops Q (o :: rest) a w := by
  obtain ⟨es, clock, hb, F, hs, rfl⟩ := hown
  refine wpList_plain hg fun K' hK' => ?_
  have hrun : (Builtin.clear_ #[t] o.type #[.map (some b)]).run P w = .ok (.tuple #[]) (ChangeMaps.setBlock w b (.map #[] clock)) := by
    simp [Builtin.clear_, run_underlying ht, MapKept.run_getObj_map hb, MapKept.run_setObj_map _ hb, Result.andThen]
    rfl
  unfold Oper.wp
  simp [execOp, hop, resolve, invoke, builtin, hm, hrun, Result.andThen]
  exact hK' _ _ (hK _ ⟨#[], clock, ChangeMaps.heap_setBlock_same hb _, ⟨by simp, MapKept.stamped_empty clock, by simp⟩, Nat.le_refl _, rfl⟩ ⟨es, clock, #[], clock, hb, rfl⟩)
set_option maxHeartbeats 2000000 in
set_option maxRecDepth 100000 in
theorem cChanged {w : World} {x b b2 n : Nat} {nd c : Int} {xs : List En} {ids : List Int} (h : Ix w x b b2 n nd c xs ids) (hn : n ≤ 20000) :
    Calls Tryz.prog 23 #[ptr x] w fun e w' => ∃ v, e = .returned v ∧ OwnI w' 0 v (upI ids) ∧ Ix w' x b b2 n nd c xs [] ∧ Tch (TI x b b2) w w' := by
  have hM := cMade h
  have HJ := hid h
  obtain ⟨k0, k1, k2, k3, f1⟩ := h.cells
  clear h
  go_enter Tryz.func23, Tryz.ntmps23
  go_wp2_with (go_at_call 41; refine hM.mono ?_; rintro e w' ⟨rfl, rfl⟩)
  go_at_call 64
  refine (cKeys (some b2) _).mono ?_
  rintro y w1 ⟨rfl, hw1⟩
  have hB1 : Below w.heap.size w w1 := by rw [hw1]; exact (Below.refl _ w).alloc (Nat.le_refl _) _
  have hm1 : w1.cell? ⟨w.heap.size, 0, none⟩ = some (Value.map (some b2)) := by rw [hw1]; exact cellAt' (heap_alloc_new w _) 0
  have hs1 : w1.heap.size = w.heap.size + 1 := by rw [hw1]; simp
  have HB1 := hid hB1
  have hS := cSorted (by omega) hm1 (HJ.out.on hB1).cg hn
  clear hB1 hm1 hs1 hw1 k0 k1 k2 k3 f1 hM
  go_wp2_with fail
  go_at_call 63
  refine hS.mono ?_
  rintro y w2 ⟨v, rfl, hv, hB2⟩
  have HV : Hid (OwnI w2 0 v (upI ids)) := hid (own_monoB hv (Nat.zero_le _))
  have HB2 := hid (HB1.out.trans (hB2.mono HB1.out.size))
  have HJ2 := hid (HJ.out.on HB2.out)
  obtain ⟨k0, k1, k2, k3, f1⟩ := HJ2.out.cells
  obtain ⟨D, hD, hDS⟩ := HJ2.out.cg
  clear hS hv hB2 HJ HB1
  go_wp2_with (first
    | (refine wpList_clear_own _ rfl _ 70 rfl 3 99 Tryz.underlying70 unitElem b2 n D rfl hD ?_; intro w3 hD3 hT3)
    | fail)
  have hT : Tch (fun k => k = b2) w2 w3 := Tch.ofGrown hT3.grown fun k e => (Option.some.inj e).symm
  have HV3 : Hid (OwnI w3 0 v (upI ids)) := hid (own_tch HV.out hT fun k hk e => by
    subst e
    obtain ⟨es, cl, hb⟩ := HJ2.out.cg.ob
    exact own_off HV.out hb (fun cur e => by cases e) hk)
  have HJ3 : Hid (Ix w3 x b b2 n nd c xs []) := hid ⟨hT.ob HJ2.out.ob HJ2.out.xb.2, HJ2.out.mp.keptT hT HJ2.out.ne, ⟨_, hD3.mono (Nat.zero_le _), fun i => by simp [Maps.has]⟩, HJ2.out.ne⟩
  have HT3 : Hid (Tch (TI x b b2) w w3) := hid ((Tch.ofBelow HB2.out).trans (hT.mono fun k e => .inr (.inr e)))
  clear hD hDS hD3 hT3 hT k0 k1 k2 k3 f1
  go_wp2_with fail
  go_ret
  exact ⟨v, rfl, HV3.out, HJ3.out, HT3.out⟩
theorem cChanged_nil (w : World) : Calls Tryz.prog 23 #[.pointer none] w fun e w' => e = .returned (.slice none 0 0) ∧ w = w' := by
  have hM := cMade_nil w
  go_enter Tryz.func23, Tryz.ntmps23
  go_wp2_with (go_at_call 41; refine hM.mono ?_; rintro e w' ⟨rfl, rfl⟩)
  go_ret
  exact ⟨rfl, rfl⟩
end Go.Proofs.YtogoibigabpkhaaGreat

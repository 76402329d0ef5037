import Derived.Test.YtlehcaacfgocaaaGreatG01
import Derived.Test.YtlehcaacfgocaaaGreatG02
import Derived.Deep.Light
import Derived.Test.YtlehcaacfgocaaaGreatShelf
import Derived.Lib.SliceRun
import Derived.Test.YtlehcaacfgocaaaGreatG03
import Derived.LoopTactic
import Derived.Test.YtlehcaacfgocaaaGreatG09
namespace Go.Proofs.YtlehcaacfgocaaaGreat
open Go.RowKit
open Go.Lib (hid)
theorem place_none {l : List C7} {k : Nat} (hk : l.length ≤ k) {id : Int} (h : ∀ j, j < k → ∀ c, l[j]? = some c → c.i ≠ id) : placeI l id = none := placeI_nowhere fun j hj => h j (by omega)
theorem not_next {l : List C7} {k : Nat} {id : Int} (h : ∀ j, j < k → ∀ c, l[j]? = some c → c.i ≠ id) {c : C7} (hc : l[k]? = some c) (hi : ¬ c.i = id) : ∀ j, j < k + 1 → ∀ c, l[j]? = some c → c.i ≠ id := fun j hj d hd => by
  by_cases e : j = k
  · subst e; rw [hc] at hd; rw [← Option.some.inj hd]; exact hi
  · exact h j (by omega) d hd
theorem placeV_some {l : List C7} {id : Int} {k : Nat} (h : placeI l id = some k) : placeV l id = (k : Int) := by unfold placeV; rw [h]
theorem placeV_none {l : List C7} {id : Int} (h : placeI l id = none) : placeV l id = -1 := by unfold placeV; rw [h]
set_option maxHeartbeats 600000 in
set_option maxRecDepth 100000 in
theorem rFind {v : Value} {cs : List C7} {w : World} (h : Sl w v cs) (hl : cs.length ≤ 100000) (id : Int) : Calls Tryz.prog 53 #[v, .int .i64 id] w fun e w' => e = .returned (.int .i64 (placeV cs id)) ∧ w = w' := by
  obtain ⟨b, o, cap, a, rfl, hn, ha, hc, hb⟩ := h
  go_enter Tryz.func53, Tryz.ntmps53
  go_wp2
  go_loopw [5] (fun i wr => ∃ k : Nat, k ≤ cs.length ∧ i = .int .i64 k ∧ Hid (∀ j, j < k → ∀ c, cs[j]? = some c → c.i ≠ id) ∧ wr = w) (fun i _ => cs.length - (intOf i).toNat)
  case atStart => exact ⟨0, Nat.zero_le _, rfl, fun j hj => absurd hj (by omega), rfl⟩
  case round =>
    obtain ⟨k, hk, rfl, hak, rfl⟩ := hrel
    by_cases hlt : k < cs.length
    · obtain rfl := ha (by omega)
      obtain ⟨c, hcc⟩ : ∃ c, cs[k]? = some c := ⟨cs[k], List.getElem?_eq_getElem hlt⟩
      have hbw := hb (by omega)
      obtain ⟨c0, _, _, _, _, _, _⟩ := hc.at hcc
      have HC := hid hcc
      clear hcc
      by_cases hi : c.i = id
      · have HI := hid hi
        have HS : Hid (placeV cs id = (k : Int)) := placeV_some (placeI_first hak.out HC.out hi)
        go_wp2
        go_ret
        exact ⟨ret_int HS.out.symm, rfl⟩
      · have HI := hid hi
        go_wp2
        go_roundw
        case rel => exact ⟨k + 1, by omega, by go_num, not_next hak.out HC.out HI.out, by first | rfl | trivial⟩
        case measure => simp [intOf]; omega
    · have HS : Hid (placeV cs id = -1) := placeV_none (place_none (by omega) hak.out)
      go_wp2
      go_ret
      exact ⟨ret_int HS.out.symm, rfl⟩
def foundC (cs : List C7) (id : Int) : C7 := match placeI cs id with | some k => (cs[k]?).getD default | none => default
def foundB (cs : List C7) (id : Int) : Bool := (placeI cs id).isSome
theorem found_some {cs : List C7} {id : Int} {k : Nat} {c : C7} (h : placeI cs id = some k) (hc : cs[k]? = some c) : foundC cs id = c ∧ foundB cs id = true := by
  unfold foundC foundB; rw [h]; simp [hc]
theorem found_none {cs : List C7} {id : Int} (h : placeI cs id = none) : foundC cs id = default ∧ foundB cs id = false := by
  unfold foundC foundB; rw [h]; simp
theorem box7 {w wr : World} (hB : Below (w.heap.size + 1) (w.alloc (.cells #[.int .i64 0, .int .i64 0, .int .i64 0, .int .i64 0, .int .i64 0, .int .i64 0, .int .i64 0] 45)) wr) :
    (w.heap.size < wr.heap.size) ∧ (∀ f, f < 7 → wr.cell? ⟨w.heap.size, f, none⟩ = some (.int .i64 0)) ∧ (∀ f, wr.frozen? ⟨w.heap.size, f, none⟩ = false) := by
  have hs := hB.size
  refine ⟨by simp at hs; omega, fun f hf => ?_, fun f => ?_⟩
  · rw [hB.cell (p := ⟨w.heap.size, f, none⟩) (by show w.heap.size < w.heap.size + 1; omega)]
    match f, hf with
    | 0, _ => simp [go_sem]
    | 1, _ => simp [go_sem]
    | 2, _ => simp [go_sem]
    | 3, _ => simp [go_sem]
    | 4, _ => simp [go_sem]
    | 5, _ => simp [go_sem]
    | 6, _ => simp [go_sem]
  · rw [hB.frozen (p := ⟨w.heap.size, f, none⟩) (by show w.heap.size < w.heap.size + 1; omega)]
    simp [go_sem]
abbrev cmB (c : C7) (b : Bool) : Value := .tuple #[c.v, .bool b]
set_option maxHeartbeats 600000 in
set_option maxRecDepth 100000 in
theorem cFind {v : Value} {cs : List C7} {w : World} (h : Sl w v cs) (hl : cs.length ≤ 100000) (id : Int) : Calls Tryz.prog 192 #[v, .int .i64 id] w fun e w' => e = .returned (cmB (foundC cs id) (foundB cs id)) ∧ Below w.heap.size w w' := by
  obtain ⟨b, o, cap, a, rfl, hn, ha, hc, hb⟩ := h
  go_enter Tryz.func192, Tryz.ntmps192
  go_wp2
  go_loopw [10] (fun i wr => ∃ k : Nat, k ≤ cs.length ∧ i = .int .i64 k ∧ Hid (∀ j, j < k → ∀ c, cs[j]? = some c → c.i ≠ id) ∧ Below (w.heap.size + 1) (w.alloc (.cells #[.int .i64 0, .int .i64 0, .int .i64 0, .int .i64 0, .int .i64 0, .int .i64 0, .int .i64 0] 45)) wr) (fun i _ => cs.length - (intOf i).toNat)
  case atStart => exact ⟨0, Nat.zero_le _, rfl, fun j hj => absurd hj (by omega), Below.refl _ _⟩
  case round =>
    obtain ⟨k, hk, rfl, hak, hB⟩ := hrel
    obtain ⟨hsz, hcell, hfr⟩ := box7 hB
    have k0 := hcell 0 (by omega); have k1 := hcell 1 (by omega); have k2 := hcell 2 (by omega); have k3 := hcell 3 (by omega); have k4 := hcell 4 (by omega); have k5 := hcell 5 (by omega); have k6 := hcell 6 (by omega)
    clear hcell
    by_cases hlt : k < cs.length
    · obtain rfl := ha (by omega)
      obtain ⟨c, hcc⟩ : ∃ c, cs[k]? = some c := ⟨cs[k], List.getElem?_eq_getElem hlt⟩
      have hbw := hb (by omega)
      obtain ⟨c0, c1, c2, c3, c4, c5, c6⟩ := (hc.on (w' := wr) (B := w.heap.size) (((Below.refl _ w).alloc (Nat.le_refl _) _).trans (hB.mono (by omega))) hbw).at hcc
      have HC := hid hcc
      clear hcc
      by_cases hi : c.i = id
      · have HI := hid hi
        have HF : Hid (foundC cs id = c ∧ foundB cs id = true) := found_some (placeI_first hak.out HC.out hi) HC.out
        have HW := hid (((Below.refl w.heap.size w).alloc (Nat.le_refl _) (.cells #[.int .i64 0, .int .i64 0, .int .i64 0, .int .i64 0, .int .i64 0, .int .i64 0, .int .i64 0] 45)).trans (hB.mono (by omega)))
        go_wp2
        refine bodyPost_ret (v := cmB ⟨id, c.k, c.s, c.t, c.d, c.p, c.q⟩ true) (by simp [results, Tryz.results192, go_sem, hsz, World.size_setCell, k0, k1, k2, k3, k4, k5, k6]) rfl ⟨?_, ?_⟩
        · rw [HF.out.1, HF.out.2, ← HI.out]
        · exact Below.alloc (((((((HW.out.setCell (Nat.le_refl _) _).setCell (Nat.le_refl _) _).setCell (Nat.le_refl _) _).setCell (Nat.le_refl _) _).setCell (Nat.le_refl _) _).setCell (Nat.le_refl _) _).setCell (Nat.le_refl _) _) (by simp; omega) _
      · have HI := hid hi
        go_wp2
        go_roundw
        case rel => exact ⟨k + 1, by omega, by go_num, not_next hak.out HC.out HI.out, hB.alloc (by omega) _⟩
        case measure => simp [intOf]; omega
    · have HF : Hid (foundC cs id = default ∧ foundB cs id = false) := found_none (place_none (by omega) hak.out)
      have HW := hid (((Below.refl w.heap.size w).alloc (Nat.le_refl _) (.cells #[.int .i64 0, .int .i64 0, .int .i64 0, .int .i64 0, .int .i64 0, .int .i64 0, .int .i64 0] 45)).trans (hB.mono (by omega)))
      go_wp2
      refine bodyPost_ret (v := cmB ⟨0, 0, 0, 0, 0, 0, 0⟩ false) (by simp [results, Tryz.results192, go_sem, k0, k1, k2, k3, k4, k5, k6]) rfl ⟨?_, ?_⟩
      · rw [HF.out.1, HF.out.2]; rfl
      · exact ((((((HW.out.setCell (Nat.le_refl _) _).setCell (Nat.le_refl _) _).setCell (Nat.le_refl _) _).setCell (Nat.le_refl _) _).setCell (Nat.le_refl _) _).setCell (Nat.le_refl _) _).setCell (Nat.le_refl _) _
end Go.Proofs.YtlehcaacfgocaaaGreat
namespace Go.Proofs.YtlehcaacfgocaaaGreat
open Go.RowKit
open Go.Lib (hid)
end Go.Proofs.YtlehcaacfgocaaaGreat
namespace Go.Proofs.YtlehcaacfgocaaaGreat
set_option linter.unusedVariables false
open Go.RowKit
open Go.Lib (hid)
open Go.Sort (SWO PermIn SortedIn grow HoldsK alloc_eq_grow grow_grow heap_grow_old)
def byI (x y : C7) : Int := Go.Lib.compareInt x.i y.i
theorem ltI (x y : C7) : ltOf byI x y = decide (x.i < y.i) := by
  unfold ltOf byI Go.Lib.compareInt
  by_cases h1 : x.i < y.i
  · simp [h1]
  · by_cases h2 : y.i < x.i <;> simp [h1, h2]
theorem swoI : SWO (ltOf byI) where
  irrefl x := by rw [ltI]; simp
  trans x y z h1 h2 := by rw [ltI] at *; simp at *; omega
  ntrans x y z h1 h2 := by rw [ltI] at *; simp at *; omega
theorem grownBy_sortK {w : World} {g m : Nat} {d : Array C7} {os : Array Obj} : w.grownBy (sortWorldK C7.cells 7 w g 0 m d os) (some g) := by
  unfold sortWorldK Go.Sort.putRowK
  refine ⟨rfl, rfl, rfl, by simp, fun k hk hne => ?_⟩
  rw [heap_grow_old _ _ (by simpa using hk)]
  have : g ≠ k := fun e => hne (by rw [e])
  simp [Go.Sort.putRow, Go.Sort.mapBlock, Go.Sort.ahead, Array.getElem?_modify, this]
theorem Own.holds {w : World} {B g cap : Nat} {cs : List C7} (h : Own w B (.slice (some ⟨g, 0, none⟩) cs.length cap) cs) : HoldsK C7.cells 7 w g 0 cs.toArray := by
  intro t ht
  rw [Go.Sort.size_flatK] at ht
  have ht' : t < cs.length * 7 := by simpa using ht
  refine ⟨?_, by rw [Nat.zero_add]; exact h.frozenAt t⟩
  rw [Nat.zero_add, h.cellAt t ht', Go.Sort.get_flatK _ _ _ _ ht]
  have hj : t / 7 < cs.length := by omega
  have hc : cs[t / 7]? = some cs[t / 7] := List.getElem?_eq_getElem hj
  have h7 : t % 7 < cs[t / 7].cells.length := Nat.mod_lt _ (by decide)
  have hv : cs[t / 7].cells[t % 7]? = some (cs[t / 7].cells[t % 7]) := List.getElem?_eq_getElem h7
  have := flat_at cs _ _ hc _ _ hv
  rw [show t / 7 * 7 + t % 7 = t by omega] at this
  rw [this]
  have e1 : cs.toArray[t / 7]! = cs[t / 7] := by simp [hj]
  rw [e1, getElem!_pos cs[t / 7].cells (t % 7) h7]
  rfl
theorem cms_of_holds {w : World} {g : Nat} {d : Array C7} (h : HoldsK C7.cells 7 w g 0 d) : CmsAt w g 0 d.toList := by
  intro j c hc f v hv
  have hj := (List.getElem?_eq_some_iff.1 hc).1
  have hf := (List.getElem?_eq_some_iff.1 hv).1
  have hj' : j < d.size := by simpa using hj
  have := (HoldsK.cell h hj' (show f < 7 from hf)).1
  rw [Nat.add_assoc] at this
  rw [this]
  have e1 : d[j]! = c := by
    rw [getElem!_pos d j hj']
    obtain ⟨_, e⟩ := List.getElem?_eq_some_iff.1 hc
    simpa using e
  rw [e1, getElem!_pos c.cells f hf]
  obtain ⟨_, e⟩ := List.getElem?_eq_some_iff.1 hv
  rw [e]
theorem perm_of {d d' : Array C7} (h : PermIn 0 d.size d d') : d'.toList.Perm d.toList := by
  obtain ⟨h1, _, h3⟩ := h
  rw [← h1] at h3
  have e1 : d'.extract 0 d'.size = d' := by simp
  have e2 : d.extract 0 d'.size = d := by rw [h1]; simp
  rwa [e1, e2] at h3
theorem sorted_of {d : Array C7} (h : SortedIn (ltOf byI) 0 d.size d) : Sorted7 d.toList := by
  refine List.pairwise_iff_getElem.2 fun i j hi hj hij => ?_
  have := h i j (Nat.zero_le _) hij (by simpa using hj)
  have hi' : i < d.size := by simpa using hi
  have hj' : j < d.size := by simpa using hj
  rw [ltI, getElem!_pos d i hi', getElem!_pos d j hj'] at this
  simp at this ⊢
  exact this
end Go.Proofs.YtlehcaacfgocaaaGreat
namespace Go.Proofs.YtlehcaacfgocaaaGreat
set_option linter.unusedVariables false
open Go.RowKit
open Go.Lib (hid)
end Go.Proofs.YtlehcaacfgocaaaGreat
namespace Go.Proofs.YtlehcaacfgocaaaGreat
set_option linter.unusedVariables false
open Go.RowKit
open Go.Lib (hid)
open Go.Sort (SWO PermIn SortedIn grow HoldsK alloc_eq_grow grow_grow heap_grow_old)
instance : Inhabited Ev := ⟨zE⟩
end Go.Proofs.YtlehcaacfgocaaaGreat
namespace Go.Proofs.YtlehcaacfgocaaaGreat
set_option linter.unusedVariables false
open Go.RowKit
open Go.Lib (hid)
open Go.Sort (SWO PermIn SortedIn grow HoldsK alloc_eq_grow grow_grow heap_grow_old)
set_option maxHeartbeats 1000000 in
theorem cByNameC (x y : C7) (W : World) : Calls Tryz.prog 52 #[.agg x.cells.toArray, .agg y.cells.toArray] W fun e w' => e = .returned (.int .i64 (byI x y)) ∧ w' = (W.alloc (.cells x.cells.toArray 45)).alloc (.cells y.cells.toArray 45) := by
  have hcon := fun W' => Tryz.cmp_Compare_int x.i y.i W'
  unfold byI
  generalize Go.Lib.compareInt x.i y.i = r at hcon ⊢
  go_enter Tryz.func52, Tryz.ntmps52
  go_wp2_with (go_at_call 97; refine (hcon _).mono ?_; rintro e w' ⟨rfl, rfl⟩)
  go_ret
  exact ⟨rfl, rfl⟩
theorem cmpLays (blk off size : Nat) (w : World) : CmpLays Tryz.prog 52 #[] C7.cells 7 byI blk off size w := fun _ _ _ _ x y => (cByNameC x y _).mono (by
  rintro e w' ⟨rfl, rfl⟩
  exact ⟨rfl, 0, _, by rw [alloc_eq_grow, alloc_eq_grow, grow_grow]; rfl⟩)
set_option maxHeartbeats 1000000 in
set_option maxRecDepth 100000 in
theorem cSortC {v : Value} {cs : List C7} {w : World} {B : Nat} (h : Own w B v cs) (hl : cs.length ≤ 100000) : Calls Tryz.prog 185 #[v, .func (.func 52) #[] #[]] w fun e w' => e = .returned (.tuple #[]) ∧ ∃ s, Sl w' v s ∧ s.Perm cs ∧ Sorted7 s ∧ Below B w w' := by
  rcases h.2 with ⟨rfl, h0⟩ | ⟨g, cap, cur, rfl, hb, hg, hn, hm, hs, ht⟩
  · obtain rfl : cs = [] := List.length_eq_zero_iff.1 h0
    have hS := AnyF.slices_SortFunc_none Tryz.sortC none 0 (.func (.func 52) #[] #[]) w
    change Calls Tryz.prog 185 _ _ _ at hS
    refine hS.mono ?_
    rintro e w' ⟨rfl, rfl⟩
    exact ⟨rfl, [], h.sl, List.Perm.refl _, List.Pairwise.nil, Below.refl _ _⟩
  · have eg : ∀ args w, (callFunc 52 args).run Tryz.prog w = .ok (.enter 52 args) w := enters_of Tryz.func52 (by kernel_rfl) rfl
    have hlt := h.lt g rfl
    have hS := AnyQ.slices_SortFunc Tryz.sortC 7 Tryz.isAgg45 Tryz.sizeOf45 C7.cells (fun _ => rfl) (fun x v hv => by simp at hv; rcases hv with rfl | rfl | rfl | rfl | rfl | rfl | rfl <;> rfl) byI swoI 52 #[] g 0 cap cs.toArray w eg (cmpLays g 0 _ w) h.holds hlt.2 (by simp; omega)
    change Calls Tryz.prog 185 #[.slice (some ⟨g, 0, none⟩) cs.length cap, .func (.func 52) #[] #[]] w _ at hS
    refine hS.mono ?_
    rintro e w' ⟨rfl, d', n, os, hp, hs, rfl⟩
    have hsz : d'.size = cs.length := by have := hp.1; simpa using this
    have hlen : d'.toList.length = cs.length := by simpa using hsz
    have hg2 : Below B w (sortWorldK C7.cells 7 w g 0 n d' os) := (Below.refl B w).grown grownBy_sortK (by omega) (fun k hk => by cases hk; exact hlt.1)
    refine ⟨rfl, d'.toList, ⟨g, 0, cap, some ⟨g, 0, none⟩, by rw [hlen], (fun e => by cases e), fun _ => rfl, ?_, fun _ => ?_⟩, by have := perm_of hp; simpa using this, sorted_of (by rw [hp.1]; exact hs), hg2⟩
    · exact cms_of_holds (holdsK_sortWorldK_c C7.cells 7 w g 0 cs.toArray d' n os h.holds hlt.2 (by rw [hsz]; simp))
    · have := (grownBy_sortK (w := w) (g := g) (m := n) (d := d') (os := os)).size
      omega
end Go.Proofs.YtlehcaacfgocaaaGreat
namespace Go.Proofs.YtlehcaacfgocaaaGreat
set_option linter.unusedVariables false
open Go.RowKit Go.Maps Go.Sort
open Go.Lib (hid)
end Go.Proofs.YtlehcaacfgocaaaGreat

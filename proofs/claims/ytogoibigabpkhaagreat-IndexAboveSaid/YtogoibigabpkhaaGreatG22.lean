import Derived.Test.YtogoibigabpkhaaGreatShelf
import Derived.Test.YtogoibigabpkhaaGreatG18
import Derived.Lib.SliceRun
import Derived.Deep.Light
import Derived.Test.YtogoibigabpkhaaGreatG15
/- Commands, and entries, in the order of their names: the library's sort under the program's comparisons. -/
namespace Go.Proofs.YtogoibigabpkhaaGreat
set_option linter.unusedVariables false
open Go.RowKit
open Go.Lib (hid)
open Go.Sort (SWO PermIn SortedIn grow HoldsK alloc_eq_grow grow_grow heap_grow_old)

def byI (x y : C7) : Int := Go.Lib.compareInt x.i y.i
theorem ltI (x y : C7) : ltOf byI x y = decide (x.i < y.i) := by
  unfold ltOf byI Go.Lib.compareInt
  by_cases h1 : x.i < y.i
  · simp [h1]
  · by_cases h2 : y.i < x.i <;> simp [h1, h2]
theorem swoI : SWO (ltOf byI) where
  irrefl x := by rw [ltI]; simp
  trans x y z h1 h2 := by rw [ltI] at *; simp at *; omega
  ntrans x y z h1 h2 := by rw [ltI] at *; simp at *; omega

set_option maxHeartbeats 1000000 in
theorem cByNameC (x y : C7) (W : World) : Calls Tryz.prog 45 #[.agg x.cells.toArray, .agg y.cells.toArray] W fun e w' => e = .returned (.int .i64 (byI x y)) ∧ w' = (W.alloc (.cells x.cells.toArray 40)).alloc (.cells y.cells.toArray 40) := by
  have hcon := fun W' => Tryz.cmp_Compare_int x.i y.i W'
  unfold byI
  generalize Go.Lib.compareInt x.i y.i = r at hcon ⊢
  go_enter Tryz.func45, Tryz.ntmps45
  go_wp2_with (go_at_call 82; refine (hcon _).mono ?_; rintro e w' ⟨rfl, rfl⟩)
  go_ret
  exact ⟨rfl, rfl⟩
theorem cmpLays (blk off size : Nat) (w : World) : CmpLays Tryz.prog 45 #[] C7.cells 7 byI blk off size w := fun _ _ _ _ x y => (cByNameC x y _).mono (by
  rintro e w' ⟨rfl, rfl⟩
  exact ⟨rfl, 0, _, by rw [alloc_eq_grow, alloc_eq_grow, grow_grow]; rfl⟩)

theorem grownBy_sortK {w : World} {g m : Nat} {d : Array C7} {os : Array Obj} : w.grownBy (sortWorldK C7.cells 7 w g 0 m d os) (some g) := by
  unfold sortWorldK Go.Sort.putRowK
  refine ⟨rfl, rfl, rfl, by simp, fun k hk hne => ?_⟩
  rw [heap_grow_old _ _ (by simpa using hk)]
  have : g ≠ k := fun e => hne (by rw [e])
  simp [Go.Sort.putRow, Go.Sort.mapBlock, Go.Sort.ahead, Array.getElem?_modify, this]

theorem Own.holds {w : World} {B g cap : Nat} {cs : List C7} (h : Own w B (.slice (some ⟨g, 0, none⟩) cs.length cap) cs) : HoldsK C7.cells 7 w g 0 cs.toArray := by
  intro t ht
  rw [Go.Sort.size_flatK] at ht
  have ht' : t < cs.length * 7 := by simpa using ht
  refine ⟨?_, by rw [Nat.zero_add]; exact h.frozenAt t⟩
  rw [Nat.zero_add, h.cellAt t ht', Go.Sort.get_flatK _ _ _ _ ht]
  have hj : t / 7 < cs.length := by omega
  have hc : cs[t / 7]? = some cs[t / 7] := List.getElem?_eq_getElem hj
  have h7 : t % 7 < cs[t / 7].cells.length := Nat.mod_lt _ (by decide)
  have hv : cs[t / 7].cells[t % 7]? = some (cs[t / 7].cells[t % 7]) := List.getElem?_eq_getElem h7
  have := flat_at cs _ _ hc _ _ hv
  rw [show t / 7 * 7 + t % 7 = t by omega] at this
  rw [this]
  have e1 : cs.toArray[t / 7]! = cs[t / 7] := by simp [hj]
  rw [e1, getElem!_pos cs[t / 7].cells (t % 7) h7]
  rfl
theorem cms_of_holds {w : World} {g : Nat} {d : Array C7} (h : HoldsK C7.cells 7 w g 0 d) : CmsAt w g 0 d.toList := by
  intro j c hc f v hv
  have hj := (List.getElem?_eq_some_iff.1 hc).1
  have hf := (List.getElem?_eq_some_iff.1 hv).1
  have hj' : j < d.size := by simpa using hj
  have := (HoldsK.cell h hj' (show f < 7 from hf)).1
  rw [Nat.add_assoc] at this
  rw [this]
  have e1 : d[j]! = c := by
    rw [getElem!_pos d j hj']
    obtain ⟨_, e⟩ := List.getElem?_eq_some_iff.1 hc
    simpa using e
  rw [e1, getElem!_pos c.cells f hf]
  obtain ⟨_, e⟩ := List.getElem?_eq_some_iff.1 hv
  rw [e]
theorem perm_of {d d' : Array C7} (h : PermIn 0 d.size d d') : d'.toList.Perm d.toList := by
  obtain ⟨h1, _, h3⟩ := h
  rw [← h1] at h3
  have e1 : d'.extract 0 d'.size = d' := by simp
  have e2 : d.extract 0 d'.size = d := by rw [h1]; simp
  rwa [e1, e2] at h3
theorem sorted_of {d : Array C7} (h : SortedIn (ltOf byI) 0 d.size d) : Sorted7 d.toList := by
  refine List.pairwise_iff_getElem.2 fun i j hi hj hij => ?_
  have := h i j (Nat.zero_le _) hij (by simpa using hj)
  have hi' : i < d.size := by simpa using hi
  have hj' : j < d.size := by simpa using hj
  rw [ltI, getElem!_pos d i hi', getElem!_pos d j hj'] at this
  simp at this ⊢
  exact this

set_option maxHeartbeats 1000000 in
set_option maxRecDepth 100000 in
/-- The sort of commands that the call made. -/
theorem cSortC {v : Value} {cs : List C7} {w : World} {B : Nat} (h : Own w B v cs) (hl : cs.length ≤ 100000) : Calls Tryz.prog 89 #[v, .func (.func 45) #[] #[]] w fun e w' => e = .returned (.tuple #[]) ∧ ∃ s, Sl w' v s ∧ s.Perm cs ∧ Sorted7 s ∧ Below B w w' := by
  rcases h.2 with ⟨rfl, h0⟩ | ⟨g, cap, cur, rfl, hb, hg, hn, hm, hs, ht⟩
  · obtain rfl : cs = [] := List.length_eq_zero_iff.1 h0
    have hS := AnyF.slices_SortFunc_none Tryz.sortC none 0 (.func (.func 45) #[] #[]) w
    change Calls Tryz.prog 89 _ _ _ at hS
    refine hS.mono ?_
    rintro e w' ⟨rfl, rfl⟩
    exact ⟨rfl, [], h.sl, List.Perm.refl _, List.Pairwise.nil, Below.refl _ _⟩
  · have eg : ∀ args w, (callFunc 45 args).run Tryz.prog w = .ok (.enter 45 args) w := enters_of Tryz.func45 (by kernel_rfl) rfl
    have hlt := h.lt g rfl
    have hS := AnyQ.slices_SortFunc Tryz.sortC 7 Tryz.isAgg40 Tryz.sizeOf40 C7.cells (fun _ => rfl) (fun x v hv => by simp at hv; rcases hv with rfl | rfl | rfl | rfl | rfl | rfl | rfl <;> rfl) byI swoI 45 #[] g 0 cap cs.toArray w eg (cmpLays g 0 _ w) h.holds hlt.2 (by simp; omega)
    change Calls Tryz.prog 89 #[.slice (some ⟨g, 0, none⟩) cs.length cap, .func (.func 45) #[] #[]] w _ at hS
    refine hS.mono ?_
    rintro e w' ⟨rfl, d', n, os, hp, hs, rfl⟩
    have hsz : d'.size = cs.length := by have := hp.1; simpa using this
    have hlen : d'.toList.length = cs.length := by simpa using hsz
    have hg2 : Below B w (sortWorldK C7.cells 7 w g 0 n d' os) := (Below.refl B w).grown grownBy_sortK (by omega) (fun k hk => by cases hk; exact hlt.1)
    refine ⟨rfl, d'.toList, ⟨g, 0, cap, some ⟨g, 0, none⟩, by rw [hlen], (fun e => by cases e), fun _ => rfl, ?_, fun _ => ?_⟩, by have := perm_of hp; simpa using this, sorted_of (by rw [hp.1]; exact hs), hg2⟩
    · exact cms_of_holds (holdsK_sortWorldK_c C7.cells 7 w g 0 cs.toArray d' n os h.holds hlt.2 (by rw [hsz]; simp))
    · have := (grownBy_sortK (w := w) (g := g) (m := n) (d := d') (os := os)).size
      omega

def byE (x y : Ev) : Int := byI x.c y.c
theorem ltE (x y : Ev) : ltOf byE x y = decide (x.c.i < y.c.i) := ltI x.c y.c
theorem swoE : SWO (ltOf byE) where
  irrefl x := by rw [ltE]; simp
  trans x y z h1 h2 := by rw [ltE] at *; simp at *; omega
  ntrans x y z h1 h2 := by rw [ltE] at *; simp at *; omega
instance : Inhabited Ev := ⟨zE⟩
set_option maxHeartbeats 1000000 in
set_option maxRecDepth 100000 in
theorem cCmpE (x y : Ev) (W : World) : Calls Tryz.prog 44 #[.agg x.list.toArray, .agg y.list.toArray] W fun e w' => e = .returned (.int .i64 (byE x y)) ∧ ∃ q os', w' = grow (W.drewN q) os' := by
  have hN := fun W' => cByNameC x.c y.c W'
  unfold byE
  generalize byI x.c y.c = r at hN ⊢
  have h0 := laid2_0 W (.cells x.arr 44) (.cells y.arr 44)
  have h1 := laid2_1 W (.cells x.arr 44) (.cells y.arr 44)
  have x0 : ((W.alloc (.cells x.arr 44)).alloc (.cells y.arr 44)).cell? ⟨W.heap.size, 0, none⟩ = some (.int .i64 x.c.i) := (cellAt' h0 0).trans rfl
  have x1 : ((W.alloc (.cells x.arr 44)).alloc (.cells y.arr 44)).cell? ⟨W.heap.size, 1, none⟩ = some (.int .i64 x.c.k) := (cellAt' h0 1).trans rfl
  have x2 : ((W.alloc (.cells x.arr 44)).alloc (.cells y.arr 44)).cell? ⟨W.heap.size, 2, none⟩ = some (.int .i64 x.c.s) := (cellAt' h0 2).trans rfl
  have x3 : ((W.alloc (.cells x.arr 44)).alloc (.cells y.arr 44)).cell? ⟨W.heap.size, 3, none⟩ = some (.int .i64 x.c.t) := (cellAt' h0 3).trans rfl
  have x4 : ((W.alloc (.cells x.arr 44)).alloc (.cells y.arr 44)).cell? ⟨W.heap.size, 4, none⟩ = some (.int .i64 x.c.d) := (cellAt' h0 4).trans rfl
  have x5 : ((W.alloc (.cells x.arr 44)).alloc (.cells y.arr 44)).cell? ⟨W.heap.size, 5, none⟩ = some (.int .i64 x.c.p) := (cellAt' h0 5).trans rfl
  have x6 : ((W.alloc (.cells x.arr 44)).alloc (.cells y.arr 44)).cell? ⟨W.heap.size, 6, none⟩ = some (.int .i64 x.c.q) := (cellAt' h0 6).trans rfl
  have y0 : ((W.alloc (.cells x.arr 44)).alloc (.cells y.arr 44)).cell? ⟨W.heap.size + 1, 0, none⟩ = some (.int .i64 y.c.i) := (cellAt' h1 0).trans rfl
  have y1 : ((W.alloc (.cells x.arr 44)).alloc (.cells y.arr 44)).cell? ⟨W.heap.size + 1, 1, none⟩ = some (.int .i64 y.c.k) := (cellAt' h1 1).trans rfl
  have y2 : ((W.alloc (.cells x.arr 44)).alloc (.cells y.arr 44)).cell? ⟨W.heap.size + 1, 2, none⟩ = some (.int .i64 y.c.s) := (cellAt' h1 2).trans rfl
  have y3 : ((W.alloc (.cells x.arr 44)).alloc (.cells y.arr 44)).cell? ⟨W.heap.size + 1, 3, none⟩ = some (.int .i64 y.c.t) := (cellAt' h1 3).trans rfl
  have y4 : ((W.alloc (.cells x.arr 44)).alloc (.cells y.arr 44)).cell? ⟨W.heap.size + 1, 4, none⟩ = some (.int .i64 y.c.d) := (cellAt' h1 4).trans rfl
  have y5 : ((W.alloc (.cells x.arr 44)).alloc (.cells y.arr 44)).cell? ⟨W.heap.size + 1, 5, none⟩ = some (.int .i64 y.c.p) := (cellAt' h1 5).trans rfl
  have y6 : ((W.alloc (.cells x.arr 44)).alloc (.cells y.arr 44)).cell? ⟨W.heap.size + 1, 6, none⟩ = some (.int .i64 y.c.q) := (cellAt' h1 6).trans rfl
  clear h0 h1
  change Calls Tryz.prog 44 #[.agg x.arr, .agg y.arr] W _
  go_enter Tryz.func44, Tryz.ntmps44
  go_wp2_with (go_at_call 45; refine (hN _).mono ?_; rintro e w' ⟨rfl, rfl⟩)
  go_ret
  exact ⟨rfl, 0, _, by rw [alloc_eq_grow, alloc_eq_grow, alloc_eq_grow, alloc_eq_grow, grow_grow, grow_grow, grow_grow]; rfl⟩
theorem cmpLaysE (blk off size : Nat) (w : World) : CmpLays Tryz.prog 44 #[] Ev.list 19 byE blk off size w := fun _ _ _ _ x y => cCmpE x y _

theorem grownBy_sortE {w : World} {g m : Nat} {d : Array Ev} {os : Array Obj} : w.grownBy (sortWorldK Ev.list 19 w g 0 m d os) (some g) := by
  unfold sortWorldK Go.Sort.putRowK
  refine ⟨rfl, rfl, rfl, by simp, fun k hk hne => ?_⟩
  rw [heap_grow_old _ _ (by simpa using hk)]
  have : g ≠ k := fun e => hne (by rw [e])
  simp [Go.Sort.putRow, Go.Sort.mapBlock, Go.Sort.ahead, Array.getElem?_modify, this]
theorem frozenAtE {w : World} {B g n cap : Nat} {xs : List Value} {T : TypeId} {K : Nat} (h : w.ownsRow B T K (.slice (some ⟨g, 0, none⟩) n cap) n xs) (j : Nat) : w.frozen? ⟨g, j, none⟩ = false := by
  rcases h.2 with ⟨e, _⟩ | ⟨g', cap', cur, e, _, hg, _⟩
  · cases e
  · cases e; exact frozenAt hg j
theorem holdsEv {w : World} {B g cap : Nat} {es : List Ev} (h : OwnE w B (.slice (some ⟨g, 0, none⟩) es.length cap) es) : HoldsK Ev.list 19 w g 0 es.toArray := by
  intro t ht
  rw [Go.Sort.size_flatK] at ht
  have ht' : t < es.length * 19 := by simpa using ht
  refine ⟨?_, by rw [Nat.zero_add]; exact frozenAtE h t⟩
  have hj : t / 19 < es.length := by omega
  have h7 : t % 19 < es[t / 19].list.length := Nat.mod_lt _ (by decide)
  have hc : es[t / 19]? = some es[t / 19] := List.getElem?_eq_getElem hj
  have hv : es[t / 19].list[t % 19]? = some (es[t / 19].list[t % 19]) := List.getElem?_eq_getElem h7
  have := flatG_at kE es _ _ hc _ _ hv
  rw [show t / 19 * 19 + t % 19 = t by omega] at this
  have hcell := h.cells (g := g) rfl t _ this
  rw [addr_add] at hcell
  rw [Nat.zero_add, hcell, Go.Sort.get_flatK _ _ _ _ ht]
  have e1 : es.toArray[t / 19]! = es[t / 19] := by simp [hj]
  rw [e1, getElem!_pos es[t / 19].list (t % 19) h7]
  rfl
theorem rows_of_holds {w : World} {g : Nat} {d : Array Ev} (h : HoldsK Ev.list 19 w g 0 d) : RowsG Ev.list 19 w g 0 d.toList := by
  intro j c hc f v hv
  have hj := (List.getElem?_eq_some_iff.1 hc).1
  have hf := (List.getElem?_eq_some_iff.1 hv).1
  have hj' : j < d.size := by simpa using hj
  have := (HoldsK.cell h hj' (show f < 19 from hf)).1
  rw [this]
  have e1 : d[j]! = c := by
    rw [getElem!_pos d j hj']
    obtain ⟨_, e⟩ := List.getElem?_eq_some_iff.1 hc
    simpa using e
  rw [e1, getElem!_pos c.list f hf]
  obtain ⟨_, e⟩ := List.getElem?_eq_some_iff.1 hv
  rw [e]
theorem permE {d d' : Array Ev} (h : PermIn 0 d.size d d') : d'.toList.Perm d.toList := by
  obtain ⟨h1, _, h3⟩ := h
  rw [← h1] at h3
  have e1 : d'.extract 0 d'.size = d' := by simp
  have e2 : d.extract 0 d'.size = d := by rw [h1]; simp
  rwa [e1, e2] at h3
theorem sortedE {d : Array Ev} (h : SortedIn (ltOf byE) 0 d.size d) : d.toList.Pairwise fun a b => a.c.i ≤ b.c.i := by
  refine List.pairwise_iff_getElem.2 fun i j hi hj hij => ?_
  have := h i j (Nat.zero_le _) hij (by simpa using hj)
  have hi' : i < d.size := by simpa using hi
  have hj' : j < d.size := by simpa using hj
  rw [ltE, getElem!_pos d i hi', getElem!_pos d j hj'] at this
  simp at this ⊢
  exact this
set_option maxHeartbeats 1000000 in
set_option maxRecDepth 100000 in
/-- The sort of entries whose names are not twice there: they rise behind it. -/
theorem cSort {v : Value} {es : List Ev} {w : World} {B : Nat} (h : OwnE w B v es) (hl : es.length ≤ 100000) (hnd : (es.map fun e => e.c.i).Nodup) :
    Calls Tryz.prog 80 #[v, .func (.func 44) #[] #[]] w fun e w' => e = .returned (.tuple #[]) ∧ ∃ s, SlE w' v s ∧ s.Perm es ∧ Up (fun e : Ev => e.c.i) s ∧ Below B w w' := by
  have hlt := h.lt
  rcases h.2 with ⟨rfl, h0⟩ | ⟨g, cap, cur, rfl, hb, hg, hn, hm, hs, ht⟩
  · obtain rfl : es = [] := List.length_eq_zero_iff.1 h0
    have hS := AnyF.slices_SortFunc_none Tryz.sortE none 0 (.func (.func 44) #[] #[]) w
    change Calls Tryz.prog 80 _ _ _ at hS
    refine hS.mono ?_
    rintro e w' ⟨rfl, rfl⟩
    exact ⟨rfl, [], SlG.nil _ _ _, List.Perm.refl _, List.Pairwise.nil, Below.refl _ _⟩
  · have eg : ∀ args w, (callFunc 44 args).run Tryz.prog w = .ok (.enter 44 args) w := enters_of Tryz.func44 (by kernel_rfl) rfl
    have hlt := hlt g rfl
    have hS := AnyQ.slices_SortFunc Tryz.sortE 19 Tryz.isAgg44 Tryz.sizeOf44 Ev.list kE (fun x v hv => oneE x v hv) byE swoE 44 #[] g 0 cap es.toArray w eg (cmpLaysE g 0 _ w) (holdsEv h) hlt.2 (by simp; omega)
    change Calls Tryz.prog 80 #[.slice (some ⟨g, 0, none⟩) es.length cap, .func (.func 44) #[] #[]] w _ at hS
    refine hS.mono ?_
    rintro e w' ⟨rfl, d', n, os, hp, hs, rfl⟩
    have hsz : d'.size = es.length := by have := hp.1; simpa using this
    have hlen : d'.toList.length = es.length := by simpa using hsz
    have hperm : d'.toList.Perm es := by have := permE hp; simpa using this
    have hsort := sortedE (d := d') (by rw [hp.1]; exact hs)
    refine ⟨rfl, d'.toList, ⟨g, 0, cap, some ⟨g, 0, none⟩, by rw [hlen], fun _ => rfl, ?_, fun _ => ?_⟩, hperm, ?_, (Below.refl B w).grown grownBy_sortE (by omega) (fun k hk => by cases hk; exact hlt.1)⟩
    · exact rows_of_holds (holdsK_sortWorldK_c Ev.list 19 w g 0 es.toArray d' n os (holdsEv h) hlt.2 (by rw [hsz]; simp))
    · have := (grownBy_sortE (w := w) (g := g) (m := n) (d := d') (os := os)).size
      omega
    · have hnd' : (d'.toList.map fun e => e.c.i).Nodup := (hperm.map _).nodup_iff.2 hnd
      have hne : d'.toList.Pairwise fun a b => a.c.i ≠ b.c.i := List.pairwise_map.1 hnd'
      exact (hsort.and hne).imp fun {a b} h => show a.c.i < b.c.i by have h1 := h.1; have h2 := h.2; omega
end Go.Proofs.YtogoibigabpkhaaGreat
/- What is kept of entries, by their names, rising. -/
namespace Go.Proofs.YtogoibigabpkhaaGreat
set_option linter.unusedVariables false
open Go.RowKit Go.Maps Go.Sort
open Go.Lib (hid)

/-- What is kept of entries, as they stand in memory. -/
def keptE (xs : List En) : List Ev := (keptG En.id xs).map En.e
theorem keptE_up (xs : List En) : Up (fun e : Ev => e.c.i) (keptE xs) := List.pairwise_map.2 (kept_up En.id xs)
theorem keptE_mem (xs : List En) (e : Ev) : e ∈ keptE xs ↔ ∃ x, lookG En.id xs e.c.i = some x ∧ x.e = e := by
  unfold keptE
  rw [List.mem_map]
  constructor
  · rintro ⟨x, hx, rfl⟩; exact ⟨x, (kept_mem En.id xs x).1 hx, rfl⟩
  · rintro ⟨x, hx, rfl⟩; exact ⟨x, (kept_mem En.id xs x).2 hx, rfl⟩
theorem sorted_kept {xs : List En} {es s : List Ev} (h : AllOf xs es) (hp : s.Perm es) (hu : Up (fun e : Ev => e.c.i) s) : s = keptE xs := by
  refine up_same (fun e : Ev => e.c.i) s (keptE xs) hu (keptE_up xs) fun y => ?_
  rw [keptE_mem, hp.mem_iff, h.2 y]

theorem nodup_le {α : Type} [DecidableEq α] : ∀ (a b : List α), a.Nodup → a ⊆ b → a.length ≤ b.length
  | [], b, _, _ => Nat.zero_le _
  | x :: a, b, h, hs => by
    obtain ⟨h1, h2⟩ := List.nodup_cons.1 h
    have hx : x ∈ b := hs (List.mem_cons_self ..)
    have := nodup_le a (b.erase x) h2 fun y hy => (List.mem_erase_of_ne (fun e => by subst e; exact h1 hy)).2 (hs (List.mem_cons_of_mem _ hy))
    rw [List.length_erase_of_mem hx] at this
    have := List.length_pos_of_mem hx
    simp only [List.length_cons]
    omega
end Go.Proofs.YtogoibigabpkhaaGreat
/- Entries by value: New; the live question of layer 6. -/
namespace Go.Proofs.YtogoibigabpkhaaGreat
set_option linter.unusedVariables false
open Go.RowKit
open Go.Lib (hid)

abbrev newE (c : C7) : Ev := { zE with c := c }
theorem loadGC {ops : Array Oper} {rest : List Oper} {op : Oper} {a : Act} {w : World} {Q : Exit → Act → World → Prop} {x : Operand} {b : Nat} (e : Ev) (hgd : Region.wanted op (yielded ops a.tmps) = true) (ho : op.op = .load 44 x)
    (hx : a.eval x = .pointer (some ⟨b, 0, none⟩)) {T : TypeId} (hc : Ob w b T e) (h : wpList Tryz.prog ops Q rest (a.put op.dst (.agg e.arr)) w) : wpList Tryz.prog ops Q (op :: rest) a w :=
  BigFrame.wpList_want hgd fun _ hK => wp_load_mid 44 x ho b 0 hx e.list _ hc.range Tryz.underlying44 rfl (infoEc e) (hK _ _ h)
theorem loadGR {ops : Array Oper} {rest : List Oper} {op : Oper} {a : Act} {w : World} {Q : Exit → Act → World → Prop} {x : Operand} {b : Nat} (e : Ev) (hgd : Region.wanted op (yielded ops a.tmps) = true) (ho : op.op = .load 74 x)
    (hx : a.eval x = .pointer (some ⟨b, 0, none⟩)) {T : TypeId} (hc : Ob w b T e) (h : wpList Tryz.prog ops Q rest (a.put op.dst (.agg e.arr)) w) : wpList Tryz.prog ops Q (op :: rest) a w :=
  BigFrame.wpList_want hgd fun _ hK => wp_load_mid 74 x ho b 0 hx e.list _ hc.range Tryz.underlying74 rfl (infoE e) (hK _ _ h)
set_option maxHeartbeats 8000000 in
set_option maxRecDepth 100000 in
theorem cNew {c : C7} {w : World} (hc : c.ok = true) : Calls Tryz.prog 66 #[.agg #[.int .i64 c.i, .int .i64 c.k, .int .i64 c.s, .int .i64 c.t, .int .i64 c.d, .int .i64 c.p, .int .i64 c.q]] w fun x w' => x = .returned (.tuple #[.agg (newE c).arr, .int .i64 0]) ∧ Below w.heap.size w w' := by
  have hO : ∀ (W : World) (u : Value), Sl W u [c] → Calls Tryz.prog 65 #[u] W fun x w' => x = .returned (.bool true) ∧ Below W.heap.size W w' := fun W u hu => by
    have := cRight' hu (by simp)
    simpa [hc] using this
  have HO := hid hO
  clear hO hc
  have HC : Hid (((w.alloc (.cells #[.int .i64 c.i, .int .i64 c.k, .int .i64 c.s, .int .i64 c.t, .int .i64 c.d, .int .i64 c.p, .int .i64 c.q] 40)).alloc zeroEc).heap[w.heap.size]? = some ((.cells #[.int .i64 c.i, .int .i64 c.k, .int .i64 c.s, .int .i64 c.t, .int .i64 c.d, .int .i64 c.p, .int .i64 c.q] 40))) := hid (laid2_0 w (.cells #[.int .i64 c.i, .int .i64 c.k, .int .i64 c.s, .int .i64 c.t, .int .i64 c.d, .int .i64 c.p, .int .i64 c.q] 40) zeroEc)
  have HZ : Hid (Ob ((w.alloc (.cells #[.int .i64 c.i, .int .i64 c.k, .int .i64 c.s, .int .i64 c.t, .int .i64 c.d, .int .i64 c.p, .int .i64 c.q] 40)).alloc zeroEc) (w.heap.size + 1) 44 zE) := hid (laid2_1 w (.cells #[.int .i64 c.i, .int .i64 c.k, .int .i64 c.s, .int .i64 c.t, .int .i64 c.d, .int .i64 c.p, .int .i64 c.q] 40) zeroEc)
  have HW : Hid (Below w.heap.size w ((w.alloc (.cells #[.int .i64 c.i, .int .i64 c.k, .int .i64 c.s, .int .i64 c.t, .int .i64 c.d, .int .i64 c.p, .int .i64 c.q] 40)).alloc zeroEc)) := hid (laid2_b w (.cells #[.int .i64 c.i, .int .i64 c.k, .int .i64 c.s, .int .i64 c.t, .int .i64 c.d, .int .i64 c.p, .int .i64 c.q] 40) zeroEc)
  have tok : Hid (0 = 0) := hid rfl
  go_enter Tryz.func66, Tryz.ntmps66
  go_wp2_with (first
    | (clear tok; (with_reducible refine opaqueW ((w.alloc (.cells #[.int .i64 c.i, .int .i64 c.k, .int .i64 c.s, .int .i64 c.t, .int .i64 c.d, .int .i64 c.p, .int .i64 c.q] 40)).alloc zeroEc) ?_); intro W0 hW; rw [← hW] at HC HZ HW; clear hW; have kC0 : W0.cell? ⟨w.heap.size, 0, none⟩ = some (.int .i64 c.i) := (cellAt' HC.out 0).trans rfl; have kC1 : W0.cell? ⟨w.heap.size, 1, none⟩ = some (.int .i64 c.k) := (cellAt' HC.out 1).trans rfl; have kC2 : W0.cell? ⟨w.heap.size, 2, none⟩ = some (.int .i64 c.s) := (cellAt' HC.out 2).trans rfl; have kC3 : W0.cell? ⟨w.heap.size, 3, none⟩ = some (.int .i64 c.t) := (cellAt' HC.out 3).trans rfl; have kC4 : W0.cell? ⟨w.heap.size, 4, none⟩ = some (.int .i64 c.d) := (cellAt' HC.out 4).trans rfl; have kC5 : W0.cell? ⟨w.heap.size, 5, none⟩ = some (.int .i64 c.p) := (cellAt' HC.out 5).trans rfl; have kC6 : W0.cell? ⟨w.heap.size, 6, none⟩ = some (.int .i64 c.q) := (cellAt' HC.out 6).trans rfl)
    | fail)
  go_at_call 65
  refine (HO.out _ _ (Sl.madeC (c := c) rfl)).mono ?_
  rintro x w1 ⟨rfl, hB⟩
  have GC : Hid (w1.heap[w.heap.size]? = some ((.cells #[.int .i64 c.i, .int .i64 c.k, .int .i64 c.s, .int .i64 c.t, .int .i64 c.d, .int .i64 c.p, .int .i64 c.q] 40))) := hid (heapB ((obAlloc HC.out)) hB (Array.getElem?_eq_some_iff.1 ((obAlloc HC.out))).1)
  have GZ : Hid (Ob w1 (w.heap.size + 1) 44 zE) := hid (heapB ((obAlloc HZ.out)) hB (Array.getElem?_eq_some_iff.1 ((obAlloc HZ.out))).1)
  have GW := hid (((HW.out.alloc HW.out.size _)).trans (hB.mono ((HW.out.alloc HW.out.size _)).size))
  clear kC0 kC1 kC2 kC3 kC4 kC5 kC6
  clear hB HC HZ HW
  have HC := GC; clear GC
  have HZ := GZ; clear GZ
  have HW := GW; clear GW
  have kC0 : w1.cell? ⟨w.heap.size, 0, none⟩ = some (.int .i64 c.i) := (cellAt' HC.out 0).trans rfl
  have kC1 : w1.cell? ⟨w.heap.size, 1, none⟩ = some (.int .i64 c.k) := (cellAt' HC.out 1).trans rfl
  have kC2 : w1.cell? ⟨w.heap.size, 2, none⟩ = some (.int .i64 c.s) := (cellAt' HC.out 2).trans rfl
  have kC3 : w1.cell? ⟨w.heap.size, 3, none⟩ = some (.int .i64 c.t) := (cellAt' HC.out 3).trans rfl
  have kC4 : w1.cell? ⟨w.heap.size, 4, none⟩ = some (.int .i64 c.d) := (cellAt' HC.out 4).trans rfl
  have kC5 : w1.cell? ⟨w.heap.size, 5, none⟩ = some (.int .i64 c.p) := (cellAt' HC.out 5).trans rfl
  have kC6 : w1.cell? ⟨w.heap.size, 6, none⟩ = some (.int .i64 c.q) := (cellAt' HC.out 6).trans rfl
  go_wp2_with (first
    | ((with_reducible refine storeC (x := ?sx1) (y := ?sy1) (b := ?sb1) (T := 44) (newE c) ?sg1 ?so1 ?sxx1 ?syy1 ?sc1 ?sh1); (case sg1 => rfl); (case so1 => rfl); (case sxx1 => rfl); (case syy1 => rfl); (case sc1 => exact Ob.room HZ.out); intro W9 hO hU; have GZ := hid hO; have GC : Hid (W9.heap[w.heap.size]? = some ((.cells #[.int .i64 c.i, .int .i64 c.k, .int .i64 c.s, .int .i64 c.t, .int .i64 c.d, .int .i64 c.p, .int .i64 c.q] 40))) := hid (hU.ob (HC.out) (by omega)); have GW := hid ((HW.out).trans (hU.below _ (by first | exact Nat.le_refl _ | omega))); clear hO hU; clear kC0 kC1 kC2 kC3 kC4 kC5 kC6; clear HC HZ HW; have HC := GC; clear GC; have HZ := GZ; clear GZ; have HW := GW; clear GW))
  refine bodyPost_ret (ret_cell_tmp rfl rfl rfl (HZ.out).range Tryz.underlying44 rfl (infoEc (newE c))) rfl ⟨rfl, HW.out⟩

abbrev aC : C7 := ⟨16, 1, 0, 17, 0, 0, 0⟩
abbrev nS : Sv := ⟨none, 0, 0⟩
abbrev aE1 : Ev := { newE aC with lo := 33, hi := 33, ft := 33 }
abbrev aE2 : Ev := { aE1 with pr := 5, hi := 48, ab := 5, xt := 48 }
theorem nilS (W : World) : Sl W nS.v [] := (Own.nil W 0).sl
theorem a_ahead (W : World) : Calls Tryz.prog 56 #[.agg aE1.arr, .int .i64 34] W fun x w' => x = .returned (.bool true) ∧ Below W.heap.size W w' := cAheadE aE1 34 W
theorem a_holds (W : World) : Calls Tryz.prog 59 #[.agg aE1.arr, .int .i64 32] W fun x w' => x = .returned (.bool true) ∧ Below W.heap.size W w' := cHoldsE aE1 32 W
theorem a_new (W : World) : Calls Tryz.prog 66 #[.agg #[.int .i64 16, .int .i64 1, .int .i64 0, .int .i64 17, .int .i64 0, .int .i64 0, .int .i64 0]] W fun x w' => x = .returned (.tuple #[.agg (newE aC).arr, .int .i64 0]) ∧ Below W.heap.size W w' := cNew (c := aC) (by decide)

end Go.Proofs.YtogoibigabpkhaaGreat

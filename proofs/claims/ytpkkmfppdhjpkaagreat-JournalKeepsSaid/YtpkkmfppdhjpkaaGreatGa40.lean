import Derived.Shelf.SlGeneric
import Derived.Shelf.SlSortCmp.WholeK
import Derived.Shelf.SlSortCmp.NoneTotal
import Derived.Ground.SlsfProg
import Derived.Test.YtpkkmfppdhjpkaaGreatProg
import Derived.Test.YtpkkmfppdhjpkaaGreatGa27
import Derived.LoopTactic
import Derived.Test.YtpkkmfppdhjpkaaGreatJMathM
import Derived.Lib.SliceRun
import Derived.Deep.Light
import Derived.Test.YtpkkmfppdhjpkaaGreatGa39
import Derived.Deep.RegionHeld3
import Derived.Test.YtpkkmfppdhjpkaaGreatGa36
/- Contracts of the library at this program, laid by program out of the shelf: the declarations that this seat uses. -/
namespace Go.Proofs
open Go.Shelf
def Tryz.sortC_ren : Go.Shelf.Ren := ⟨fun | 6 => 59 | 15 => 78 | 14 => 77 | 28 => 103 | 29 => 104 | 20 => 95 | 21 => 96 | 22 => 97 | 23 => 98 | 24 => 99 | 25 => 100 | 26 => 101 | 27 => 102 | 46 => 107 | 47 => 108 | 48 => 109 | 49 => 110 | 50 => 111 | 57 => 112 | n => n, fun | 22 => 22 | 24 => 48 | 25 => 91 | 3 => 3 | 39 => 129 | 0 => 0 | 53 => 112 | 55 => 152 | 4 => 4 | 46 => 144 | 45 => 143 | 50 => 148 | 5 => 5 | 9 => 9 | 66 => 153 | 70 => 157 | 76 => 159 | 77 => 160 | n => n, fun | n => n⟩
theorem Tryz.sortC : Go.Proofs.SlLaysF0.n6 Tryz.prog Tryz.sortC_ren := {
  mixed := by kernel_rfl
  f6 := ⟨Tryz.f59.name, by decide, Tryz.func59.trans (congrArg some (by kernel_rfl))⟩
  f14 := ⟨Tryz.f77.name, by decide, Tryz.func77.trans (congrArg some (by kernel_rfl))⟩
  f15 := Tryz.func78.trans (congrArg some (by kernel_rfl))
  f20 := ⟨Tryz.f95.name, by decide, Tryz.func95.trans (congrArg some (by kernel_rfl))⟩
  f21 := ⟨Tryz.f96.name, by decide, Tryz.func96.trans (congrArg some (by kernel_rfl))⟩
  f22 := ⟨Tryz.f97.name, by decide, Tryz.func97.trans (congrArg some (by kernel_rfl))⟩
  f23 := ⟨Tryz.f98.name, by decide, Tryz.func98.trans (congrArg some (by kernel_rfl))⟩
  f24 := ⟨Tryz.f99.name, by decide, Tryz.func99.trans (congrArg some (by kernel_rfl))⟩
  f25 := ⟨Tryz.f100.name, by decide, Tryz.func100.trans (congrArg some (by kernel_rfl))⟩
  f26 := ⟨Tryz.f101.name, by decide, Tryz.func101.trans (congrArg some (by kernel_rfl))⟩
  f27 := ⟨Tryz.f102.name, by decide, Tryz.func102.trans (congrArg some (by kernel_rfl))⟩
  f28 := Tryz.func103.trans (congrArg some (by kernel_rfl))
  f29 := Tryz.func104.trans (congrArg some (by kernel_rfl))
  f46 := ⟨Tryz.f107.name, by decide, Tryz.func107.trans (congrArg some (by kernel_rfl))⟩
  f47 := Tryz.func108.trans (congrArg some (by kernel_rfl))
  f48 := Tryz.func109.trans (congrArg some (by kernel_rfl))
  f49 := ⟨Tryz.f110.name, by decide, Tryz.func110.trans (congrArg some (by kernel_rfl))⟩
  f50 := ⟨Tryz.f111.name, by decide, Tryz.func111.trans (congrArg some (by kernel_rfl))⟩
  f57 := ⟨Tryz.f112.name, by decide, Tryz.func112.trans (congrArg some (by kernel_rfl))⟩
  t0 := Tryz.underlying0
  a0 := Tryz.isAgg0
  z0 := Tryz.sizeOf0
  v0 := Tryz.zeroValue0
  t3 := Tryz.underlying3
  a3 := Tryz.isAgg3
  z3 := Tryz.sizeOf3
  v3 := Tryz.zeroValue3
  t4 := Tryz.underlying4
  a4 := Tryz.isAgg4
  z4 := Tryz.sizeOf4
  v4 := Tryz.zeroValue4
  t5 := Tryz.underlying5
  a5 := Tryz.isAgg5
  z5 := Tryz.sizeOf5
  v5 := Tryz.zeroValue5
  t9 := Tryz.underlying9
  a9 := Tryz.isAgg9
  z9 := Tryz.sizeOf9
  v9 := Tryz.zeroValue9
  t22 := Tryz.underlying22
  a22 := Tryz.isAgg22
  z22 := Tryz.sizeOf22
  v22 := Tryz.zeroValue22
  t25 := Tryz.underlying91
  a25 := Tryz.isAgg91
  z25 := Tryz.sizeOf91
  v25 := Tryz.zeroValue91
  t39 := Tryz.underlying129
  a39 := Tryz.isAgg129
  z39 := Tryz.sizeOf129
  v39 := Tryz.zeroValue129
  t45 := Tryz.underlying143
  a45 := Tryz.isAgg143
  z45 := Tryz.sizeOf143
  v45 := Tryz.zeroValue143
  t46 := Tryz.underlying144
  a46 := Tryz.isAgg144
  z46 := Tryz.sizeOf144
  v46 := Tryz.zeroValue144
  t50 := Tryz.underlying148
  a50 := Tryz.isAgg148
  z50 := Tryz.sizeOf148
  v50 := Tryz.zeroValue148
  t53 := Tryz.underlying112
  a53 := Tryz.isAgg112
  z53 := Tryz.sizeOf112
  v53 := Tryz.zeroValue112
  t55 := Tryz.underlying152
  a55 := Tryz.isAgg152
  z55 := Tryz.sizeOf152
  v55 := Tryz.zeroValue152
  t66 := Tryz.underlying153
  a66 := Tryz.isAgg153
  z66 := Tryz.sizeOf153
  v66 := Tryz.zeroValue153
  t70 := Tryz.underlying157
  a70 := Tryz.isAgg157
  z70 := Tryz.sizeOf157
  v70 := Tryz.zeroValue157
  t76 := Tryz.underlying159
  a76 := Tryz.isAgg159
  z76 := Tryz.sizeOf159
  v76 := Tryz.zeroValue159
  t77 := Tryz.underlying160
  a77 := Tryz.isAgg160
  z77 := Tryz.sizeOf160
  v77 := Tryz.zeroValue160 }
end Go.Proofs

/- The order of entries' names: the library's Compare, and the program's byName. -/
namespace Go.Proofs.YtpkkmfppdhjpkaaGreat
set_option linter.unusedVariables false
open Go.RowKit
open Go.Lib (hid)

def cmpI (x y : Int) : Int := if x < y then -1 else if y < x then 1 else 0
theorem cNaN (x : Int) (w : World) : Calls Tryz.prog 79 #[.int .i64 x] w fun e w' => e = .returned (.bool false) ∧ w = w' := by
  go_enter Tryz.func79, Tryz.ntmps79
  go_wp2
  go_ret
  exact ⟨by first | rfl | simp, rfl⟩
set_option maxHeartbeats 1000000 in
theorem cCompare (x y : Int) (w : World) : Calls Tryz.prog 61 #[.int .i64 x, .int .i64 y] w fun e w' => e = .returned (.int .i64 (cmpI x y)) ∧ w = w' := by
  have hN := cNaN
  have hc : (x < y ∧ ¬ y < x) ∨ (¬ x < y ∧ y < x) ∨ (¬ x < y ∧ ¬ y < x) := by omega
  rcases hc with ⟨h1, h2⟩ | ⟨h1, h2⟩ | ⟨h1, h2⟩
  · have HE := hid (show cmpI x y = -1 by unfold cmpI; rw [if_pos h1])
    go_enter Tryz.func61, Tryz.ntmps61
    go_wp2_with (go_at_call 79; refine (hN _ _).mono ?_; rintro e w' ⟨rfl, rfl⟩)
    go_ret
    exact ⟨by rw [HE.out]; rfl, rfl⟩
  · have HE := hid (show cmpI x y = 1 by unfold cmpI; rw [if_neg h1, if_pos h2])
    go_enter Tryz.func61, Tryz.ntmps61
    go_wp2_with (go_at_call 79; refine (hN _ _).mono ?_; rintro e w' ⟨rfl, rfl⟩)
    go_ret
    exact ⟨by rw [HE.out]; rfl, rfl⟩
  · have HE := hid (show cmpI x y = 0 by unfold cmpI; rw [if_neg h1, if_neg h2])
    go_enter Tryz.func61, Tryz.ntmps61
    go_wp2_with (go_at_call 79; refine (hN _ _).mono ?_; rintro e w' ⟨rfl, rfl⟩)
    go_ret
    exact ⟨by rw [HE.out]; rfl, rfl⟩
def byE (x y : Ev) : Int := cmpI x.c.i y.c.i
set_option maxHeartbeats 1000000 in
set_option maxRecDepth 100000 in
theorem cByName (x y : Ev) (w : World) : Calls Tryz.prog 37 #[.agg x.arr, .agg y.arr] w fun e w' => e = .returned (.int .i64 (byE x y)) ∧ w' = (w.alloc (.cells x.arr 48)).alloc (.cells y.arr 48) := by
  have hC := fun W => cCompare x.c.i y.c.i W
  obtain ⟨r, hr⟩ : ∃ r, r = cmpI x.c.i y.c.i := ⟨_, rfl⟩
  rw [← hr] at hC
  have HR := hid (show byE x y = r from hr.symm)
  clear hr
  have h0 := laid2_0 w (.cells x.arr 48) (.cells y.arr 48)
  have h1 := laid2_1 w (.cells x.arr 48) (.cells y.arr 48)
  have c0 : ((w.alloc (.cells x.arr 48)).alloc (.cells y.arr 48)).cell? ⟨w.heap.size, 0, none⟩ = some (.int .i64 x.c.i) := (cellAt' h0 0).trans rfl
  have c1 : ((w.alloc (.cells x.arr 48)).alloc (.cells y.arr 48)).cell? ⟨w.heap.size + 1, 0, none⟩ = some (.int .i64 y.c.i) := (cellAt' h1 0).trans rfl
  clear h0 h1
  go_enter Tryz.func37, Tryz.ntmps37
  go_wp2_with (go_at_call 61; refine (hC _).mono ?_; rintro e w' ⟨rfl, rfl⟩)
  go_ret
  exact ⟨by rw [HR.out]; rfl, rfl⟩
end Go.Proofs.YtpkkmfppdhjpkaaGreat



/- The library's sort of entries under the program's byName. -/
namespace Go.Proofs.YtpkkmfppdhjpkaaGreat
set_option linter.unusedVariables false
open Go.RowKit
open Go.Lib (hid)
open Go.Sort (SWO PermIn SortedIn grow HoldsK alloc_eq_grow grow_grow heap_grow_old)

theorem ltE (x y : Ev) : ltOf byE x y = decide (x.c.i < y.c.i) := by
  unfold ltOf byE cmpI
  by_cases h1 : x.c.i < y.c.i
  · simp [h1]
  · by_cases h2 : y.c.i < x.c.i <;> simp [h1, h2]
theorem swoE : SWO (ltOf byE) where
  irrefl x := by rw [ltE]; simp
  trans x y z h1 h2 := by rw [ltE] at *; simp at *; omega
  ntrans x y z h1 h2 := by rw [ltE] at *; simp at *; omega
instance : Inhabited Ev := ⟨zE⟩
theorem cCmpE (x y : Ev) (W : World) : Calls Tryz.prog 37 #[.agg x.list.toArray, .agg y.list.toArray] W fun e w' => e = .returned (.int .i64 (byE x y)) ∧ ∃ q os', w' = grow (W.drewN q) os' :=
  by
  refine (cByName x y W).mono ?_
  rintro e w' ⟨rfl, rfl⟩
  exact ⟨rfl, 0, _, by rw [alloc_eq_grow, alloc_eq_grow, grow_grow]; rfl⟩
theorem cmpLaysE (blk off size : Nat) (w : World) : CmpLays Tryz.prog 37 #[] Ev.list 19 byE blk off size w := fun _ _ _ _ x y => cCmpE x y _

theorem grownBy_sortE {w : World} {g m : Nat} {d : Array Ev} {os : Array Obj} : w.grownBy (sortWorldK Ev.list 19 w g 0 m d os) (some g) := by
  unfold sortWorldK Go.Sort.putRowK
  refine ⟨rfl, rfl, rfl, by simp, fun k hk hne => ?_⟩
  rw [heap_grow_old _ _ (by simpa using hk)]
  have : g ≠ k := fun e => hne (by rw [e])
  simp [Go.Sort.putRow, Go.Sort.mapBlock, Go.Sort.ahead, Array.getElem?_modify, this]
theorem frozenAtE {w : World} {B g n cap : Nat} {xs : List Value} {T : TypeId} {K : Nat} (h : w.ownsRow B T K (.slice (some ⟨g, 0, none⟩) n cap) n xs) (j : Nat) : w.frozen? ⟨g, j, none⟩ = false := by
  rcases h.2 with ⟨e, _⟩ | ⟨g', cap', cur, e, _, hg, _⟩
  · cases e
  · cases e; exact frozenAt hg j
theorem holdsEv {w : World} {B g cap : Nat} {es : List Ev} (h : OwnE w B (.slice (some ⟨g, 0, none⟩) es.length cap) es) : HoldsK Ev.list 19 w g 0 es.toArray := by
  intro t ht
  rw [Go.Sort.size_flatK] at ht
  have ht' : t < es.length * 19 := by simpa using ht
  refine ⟨?_, by rw [Nat.zero_add]; exact frozenAtE h t⟩
  have hj : t / 19 < es.length := by omega
  have h7 : t % 19 < es[t / 19].list.length := Nat.mod_lt _ (by decide)
  have hc : es[t / 19]? = some es[t / 19] := List.getElem?_eq_getElem hj
  have hv : es[t / 19].list[t % 19]? = some (es[t / 19].list[t % 19]) := List.getElem?_eq_getElem h7
  have := flatG_at kE es _ _ hc _ _ hv
  rw [show t / 19 * 19 + t % 19 = t by omega] at this
  have hcell := h.cells (g := g) rfl t _ this
  rw [addr_add] at hcell
  rw [Nat.zero_add, hcell, Go.Sort.get_flatK _ _ _ _ ht]
  have e1 : es.toArray[t / 19]! = es[t / 19] := by simp [hj]
  rw [e1, getElem!_pos es[t / 19].list (t % 19) h7]
  rfl
theorem rows_of_holds {w : World} {g : Nat} {d : Array Ev} (h : HoldsK Ev.list 19 w g 0 d) : RowsG Ev.list 19 w g 0 d.toList := by
  intro j c hc f v hv
  have hj := (List.getElem?_eq_some_iff.1 hc).1
  have hf := (List.getElem?_eq_some_iff.1 hv).1
  have hj' : j < d.size := by simpa using hj
  have := (HoldsK.cell h hj' (show f < 19 from hf)).1
  rw [this]
  have e1 : d[j]! = c := by
    rw [getElem!_pos d j hj']
    obtain ⟨_, e⟩ := List.getElem?_eq_some_iff.1 hc
    simpa using e
  rw [e1, getElem!_pos c.list f hf]
  obtain ⟨_, e⟩ := List.getElem?_eq_some_iff.1 hv
  rw [e]
theorem permE {d d' : Array Ev} (h : PermIn 0 d.size d d') : d'.toList.Perm d.toList := by
  obtain ⟨h1, _, h3⟩ := h
  rw [← h1] at h3
  have e1 : d'.extract 0 d'.size = d' := by simp
  have e2 : d.extract 0 d'.size = d := by rw [h1]; simp
  rwa [e1, e2] at h3
theorem sortedE {d : Array Ev} (h : SortedIn (ltOf byE) 0 d.size d) : d.toList.Pairwise fun a b => a.c.i ≤ b.c.i := by
  refine List.pairwise_iff_getElem.2 fun i j hi hj hij => ?_
  have := h i j (Nat.zero_le _) hij (by simpa using hj)
  have hi' : i < d.size := by simpa using hi
  have hj' : j < d.size := by simpa using hj
  rw [ltE, getElem!_pos d i hi', getElem!_pos d j hj'] at this
  simp at this ⊢
  exact this
set_option maxHeartbeats 1000000 in
set_option maxRecDepth 100000 in
/-- The sort of entries whose names are not twice there: they rise behind it. -/
theorem cSort {v : Value} {es : List Ev} {w : World} {B : Nat} (h : OwnE w B v es) (hl : es.length ≤ 100000) (hnd : (es.map fun e => e.c.i).Nodup) :
    Calls Tryz.prog 59 #[v, .func (.func 37) #[] #[]] w fun e w' => e = .returned (.tuple #[]) ∧ ∃ s, SlE w' v s ∧ s.Perm es ∧ Up (fun e : Ev => e.c.i) s ∧ Below B w w' := by
  have hlt := h.lt
  rcases h.2 with ⟨rfl, h0⟩ | ⟨g, cap, cur, rfl, hb, hg, hn, hm, hs, ht⟩
  · obtain rfl : es = [] := List.length_eq_zero_iff.1 h0
    have hS := AnyF.slices_SortFunc_none Tryz.sortC none 0 (.func (.func 37) #[] #[]) w
    change Calls Tryz.prog 59 _ _ _ at hS
    refine hS.mono ?_
    rintro e w' ⟨rfl, rfl⟩
    exact ⟨rfl, [], SlG.nil _ _ _, List.Perm.refl _, List.Pairwise.nil, Below.refl _ _⟩
  · have eg : ∀ args w, (callFunc 37 args).run Tryz.prog w = .ok (.enter 37 args) w := enters_of Tryz.func37 (by kernel_rfl) rfl
    have hlt := hlt g rfl
    have hS := AnyQ.slices_SortFunc Tryz.sortC 19 Tryz.isAgg48 Tryz.sizeOf48 Ev.list kE (fun x v hv => oneE x v hv) byE swoE 37 #[] g 0 cap es.toArray w eg (cmpLaysE g 0 _ w) (holdsEv h) hlt.2 (by simp; omega)
    change Calls Tryz.prog 59 #[.slice (some ⟨g, 0, none⟩) es.length cap, .func (.func 37) #[] #[]] w _ at hS
    refine hS.mono ?_
    rintro e w' ⟨rfl, d', n, os, hp, hs, rfl⟩
    have hsz : d'.size = es.length := by have := hp.1; simpa using this
    have hlen : d'.toList.length = es.length := by simpa using hsz
    have hperm : d'.toList.Perm es := by have := permE hp; simpa using this
    have hsort := sortedE (d := d') (by rw [hp.1]; exact hs)
    refine ⟨rfl, d'.toList, ⟨g, 0, cap, some ⟨g, 0, none⟩, by rw [hlen], fun _ => rfl, ?_, fun _ => ?_⟩, hperm, ?_, (Below.refl B w).grown grownBy_sortE (by omega) (fun k hk => by cases hk; exact hlt.1)⟩
    · exact rows_of_holds (holdsK_sortWorldK_c Ev.list 19 w g 0 es.toArray d' n os (holdsEv h) hlt.2 (by rw [hsz]; simp))
    · have := (grownBy_sortE (w := w) (g := g) (m := n) (d := d') (os := os)).size
      omega
    · have hnd' : (d'.toList.map fun e => e.c.i).Nodup := (hperm.map _).nodup_iff.2 hnd
      have hne : d'.toList.Pairwise fun a b => a.c.i ≠ b.c.i := List.pairwise_map.1 hnd'
      exact (hsort.and hne).imp fun {a b} h => show a.c.i < b.c.i by have h1 := h.1; have h2 := h.2; omega
end Go.Proofs.YtpkkmfppdhjpkaaGreat
/- What the journal keeps: its entries by their names, rising. -/
namespace Go.Proofs.YtpkkmfppdhjpkaaGreat
set_option linter.unusedVariables false
open Go.RowKit Go.Maps Go.Sort
open Go.Lib (hid)

/-- What is kept of entries, as they stand in memory. -/
def keptE (xs : List En) : List Ev := (keptG En.id xs).map En.e
theorem keptE_up (xs : List En) : Up (fun e : Ev => e.c.i) (keptE xs) := List.pairwise_map.2 (kept_up En.id xs)
theorem keptE_mem (xs : List En) (e : Ev) : e ∈ keptE xs ↔ ∃ x, lookG En.id xs e.c.i = some x ∧ x.e = e := by
  unfold keptE
  rw [List.mem_map]
  constructor
  · rintro ⟨x, hx, rfl⟩; exact ⟨x, (kept_mem En.id xs x).1 hx, rfl⟩
  · rintro ⟨x, hx, rfl⟩; exact ⟨x, (kept_mem En.id xs x).2 hx, rfl⟩
theorem sorted_kept {xs : List En} {es s : List Ev} (h : AllOf xs es) (hp : s.Perm es) (hu : Up (fun e : Ev => e.c.i) s) : s = keptE xs := by
  refine up_same (fun e : Ev => e.c.i) s (keptE xs) hu (keptE_up xs) fun y => ?_
  rw [keptE_mem, hp.mem_iff, h.2 y]

theorem nodup_le {α : Type} [DecidableEq α] : ∀ (a b : List α), a.Nodup → a ⊆ b → a.length ≤ b.length
  | [], b, _, _ => Nat.zero_le _
  | x :: a, b, h, hs => by
    obtain ⟨h1, h2⟩ := List.nodup_cons.1 h
    have hx : x ∈ b := hs (List.mem_cons_self ..)
    have := nodup_le a (b.erase x) h2 fun y hy => (List.mem_erase_of_ne (fun e => by subst e; exact h1 hy)).2 (hs (List.mem_cons_of_mem _ hy))
    rw [List.length_erase_of_mem hx] at this
    have := List.length_pos_of_mem hx
    simp only [List.length_cons]
    omega
set_option maxHeartbeats 1000000 in
theorem cValues (b : Nat) (w : World) : Calls Tryz.prog 36 #[.map (some b)] w fun e w' => e = .returned (.func (.func 60) #[] #[.pointer (some ⟨w.heap.size, 0, none⟩)]) ∧ w'.cell? ⟨w.heap.size, 0, none⟩ = some (Value.map (some b)) ∧ Below w.heap.size w w' ∧ w'.heap.size = w.heap.size + 1 := by
  go_enter Tryz.func36, Tryz.ntmps36
  go_wp2
  go_ret
  exact ⟨rfl, cellAt' (heap_alloc_new w _) 0, (Below.refl _ w).alloc (Nat.le_refl _) _, by simp⟩
set_option maxHeartbeats 2000000 in
set_option maxRecDepth 100000 in
theorem cSortedFunc {Bm b nn : Nat} {xs : List En} {w : World} (hBm : Bm < w.heap.size) (hm : w.cell? ⟨Bm, 0, none⟩ = some (Value.map (some b))) (hown : Mp w b nn xs) (hN : nn ≤ 1000) (hlx : xs.length ≤ 1000) :
    Calls Tryz.prog 35 #[.func (.func 60) #[] #[.pointer (some ⟨Bm, 0, none⟩)], .func (.func 37) #[] #[]] w fun e w' => ∃ v, e = .returned v ∧ SlE w' v (keptE xs) ∧ Below w.heap.size w w' := by
  have hC := cCollect Bm b nn xs w hBm hm hown (by omega)
  go_enter Tryz.func35, Tryz.ntmps35
  go_wp2_with fail
  go_at_call 58
  refine hC.mono ?_
  rintro e w1 ⟨v, es, rfl, hA, hO, hB⟩
  have hnn : es.length ≤ 100000 := by
    have h1 : (es.map fun e : Ev => e.c.i).Nodup := hA.1
    have h2 := hA.2
    have h3 : es.length ≤ xs.length := by
      have hsub : (es.map fun e : Ev => e.c.i) ⊆ xs.map En.id := fun i hi => by
        obtain ⟨e, he, rfl⟩ := List.mem_map.1 hi
        obtain ⟨x, hx, hxe⟩ := (h2 e).1 he
        obtain ⟨k1, k2⟩ := look_key En.id xs _ x hx
        exact List.mem_map.2 ⟨x, k2, k1⟩
      have := nodup_le _ _ h1 hsub
      simpa using this
    omega
  have hS := cSort hO hnn hA.1
  have HA := hid hA
  obtain ⟨g, cap, n, rfl, -⟩ := hO.asSlice
  have HB := hid hB
  clear hA hO hB
  go_wp2_with (go_at_call 59; refine hS.mono ?_; rintro e w2 ⟨rfl, s, hs, hp, hu, hB2⟩)
  go_ret
  exact ⟨_, rfl, by rw [← sorted_kept HA.out hp hu]; exact hs, HB.out.trans hB2⟩

set_option maxHeartbeats 4000000 in
set_option maxRecDepth 100000 in
theorem cKept {w : World} {j b n : Nat} {dp : Value} {c : Int} {xs : List En} (hj : Jn w j dp b c) (hm : Mp w b n xs) (hn : n ≤ 1000) (hl : xs.length ≤ 1000) :
    Calls Tryz.prog 13 #[ptr j] w fun e w' => ∃ v, e = .returned (.tuple #[v, .int .i64 c]) ∧ SlE w' v (keptE xs) ∧ Below w.heap.size w w' := by
  have HM := hid hm
  have k1 : w.cell? ⟨j, 1, none⟩ = some (Value.map (some b)) := (cellAt' hj 1).trans rfl
  have k2 : w.cell? ⟨j, 2, none⟩ = some (.int .i64 c) := (cellAt' hj 2).trans rfl
  have hjl : j < w.heap.size := (Array.getElem?_eq_some_iff.1 hj).1
  have HK := hid (fun (W W' : World) (h : w.heap.size ≤ W.heap.size ∧ Below w.heap.size w W ∧ W.cell? ⟨j, 1, none⟩ = some (Value.map (some b)) ∧ W.cell? ⟨j, 2, none⟩ = some (.int .i64 c)) (hb : Below w.heap.size W W') => (show w.heap.size ≤ W'.heap.size ∧ Below w.heap.size w W' ∧ W'.cell? ⟨j, 1, none⟩ = some (Value.map (some b)) ∧ W'.cell? ⟨j, 2, none⟩ = some (.int .i64 c) from ⟨Nat.le_trans h.1 hb.size, h.2.1.trans hb, (hb.cell (p := ⟨j, 1, none⟩) hjl).trans h.2.2.1, (hb.cell (p := ⟨j, 2, none⟩) hjl).trans h.2.2.2⟩))
  have HS0 := hid (show w.heap.size ≤ w.drew.heap.size ∧ Below w.heap.size w w.drew ∧ w.drew.cell? ⟨j, 1, none⟩ = some (Value.map (some b)) ∧ w.drew.cell? ⟨j, 2, none⟩ = some (.int .i64 c) from ⟨Nat.le_refl _, belowDrew (Below.refl _ w), k1, k2⟩)
  clear hj hm
  go_enter Tryz.func13, Tryz.ntmps13
  go_wp2_with fail
  go_region_held3 (fun W => w.heap.size ≤ W.heap.size ∧ Below w.heap.size w W ∧ W.cell? ⟨j, 1, none⟩ = some (Value.map (some b)) ∧ W.cell? ⟨j, 2, none⟩ = some (.int .i64 c)) (first | exact HS0.out | assumption) (first
    | (go_at_call 36; refine (cValues b _).mono ?_; rintro x w1 ⟨rfl, hm1, hB1, hs1⟩; have hS1 := HK.out _ _ HS0.out hB1)
    | (go_at_call 35; refine (cSortedFunc (by omega) hm1 (HM.out.on hS1.2.1) hn hl).mono ?_; rintro x w2 ⟨v, rfl, hs2, hB2⟩; have hS2 := HK.out _ _ hS1 (hB2.mono hS1.1)))
  go_wp2_with fail
  go_ret2
  exact ⟨v, rfl, hs2, hS2.2.1⟩
/-- Sync, of a journal whose disk it is. -/
theorem cDisk {w : World} {j b : Nat} {dp : Value} {c : Int} (hj : Jn w j dp b c) : Calls Tryz.prog 29 #[ptr j] w fun e w' => e = .returned dp ∧ w = w' := by
  have k0 : w.cell? ⟨j, 0, none⟩ = some dp := (cellAt' hj 0).trans rfl
  go_enter Tryz.func29, Tryz.ntmps29
  go_wp2
  go_ret
  exact ⟨rfl, rfl⟩
theorem cJSync {w : World} {j b p : Nat} {c : Int} {room s : Int} {v : Value} {l : List UInt8} (hj : Jn w j (ptr p) b c) (h : Dk w p room v s) (hv : SlB w v l) : Calls Tryz.prog 10 #[ptr j] w fun e w' => e = .returned (.tuple #[]) ∧ Dk w' p room v l.length ∧ w.grownBy w' (some p) := by
  have h1 := cDisk hj
  have h2 := cSync h hv
  go_enter Tryz.func10, Tryz.ntmps10
  go_wp2_with (first | (go_at_call 29; refine h1.mono ?_; rintro e w' ⟨rfl, rfl⟩) | (go_at_call 30; refine h2.mono ?_; rintro e w' ⟨rfl, hD, hg⟩))
  go_end0
  exact ⟨rfl, hD, hg⟩
end Go.Proofs.YtpkkmfppdhjpkaaGreat

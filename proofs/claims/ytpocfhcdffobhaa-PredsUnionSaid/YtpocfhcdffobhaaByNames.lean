/- Commands in the order of their names: the library's copy, its sort under the program's comparison, and the program's byNames. -/
import Derived.Test.YtpocfhcdffobhaaShelf
import Derived.Test.YtpocfhcdffobhaaMinusR
import Derived.Lib.SliceRun
namespace Go.Proofs.Ytpocfhcdffobhaa
set_option linter.unusedVariables false
open Go.RowKit
open Go.Lib (hid)
open Go.Sort (SWO PermIn SortedIn grow HoldsK alloc_eq_grow grow_grow heap_grow_old)

def byI (x y : C7) : Int := Go.Lib.compareInt x.i y.i
theorem ltI (x y : C7) : ltOf byI x y = decide (x.i < y.i) := by
  unfold ltOf byI Go.Lib.compareInt
  by_cases h1 : x.i < y.i
  · simp [h1]
  · by_cases h2 : y.i < x.i <;> simp [h1, h2]
theorem swoI : SWO (ltOf byI) where
  irrefl x := by rw [ltI]; simp
  trans x y z h1 h2 := by rw [ltI] at *; simp at *; omega
  ntrans x y z h1 h2 := by rw [ltI] at *; simp at *; omega

set_option maxHeartbeats 1000000 in
theorem cCmp (x y : C7) (W : World) : Calls Try.prog 32 #[.agg x.cells.toArray, .agg y.cells.toArray] W fun e w' => e = .returned (.int .i64 (byI x y)) ∧ ∃ q os', w' = grow (W.drewN q) os' := by
  have hcon := fun W' => Try.cmp_Compare_int x.i y.i W'
  unfold byI
  generalize Go.Lib.compareInt x.i y.i = r at hcon ⊢
  go_enter Try.func32, Try.ntmps32
  go_wp2_with (go_at_call 33; refine (hcon _).mono ?_; rintro e w' ⟨rfl, rfl⟩)
  go_ret
  exact ⟨rfl, 0, _, by rw [alloc_eq_grow, alloc_eq_grow, grow_grow]; rfl⟩
theorem cmpLays (blk off size : Nat) (w : World) : CmpLays Try.prog 32 #[] C7.cells 7 byI blk off size w := fun _ _ _ _ x y => cCmp x y _

theorem grownBy_sortK {w : World} {g m : Nat} {d : Array C7} {os : Array Obj} : w.grownBy (sortWorldK C7.cells 7 w g 0 m d os) (some g) := by
  unfold sortWorldK Go.Sort.putRowK
  refine ⟨rfl, rfl, rfl, by simp, fun k hk hne => ?_⟩
  rw [heap_grow_old _ _ (by simpa using hk)]
  have : g ≠ k := fun e => hne (by rw [e])
  simp [Go.Sort.putRow, Go.Sort.mapBlock, Go.Sort.ahead, Array.getElem?_modify, this]

theorem Own.holds {w : World} {B g cap : Nat} {cs : List C7} (h : Own w B (.slice (some ⟨g, 0, none⟩) cs.length cap) cs) : HoldsK C7.cells 7 w g 0 cs.toArray := by
  intro t ht
  rw [Go.Sort.size_flatK] at ht
  have ht' : t < cs.length * 7 := by simpa using ht
  refine ⟨?_, by rw [Nat.zero_add]; exact h.frozenAt t⟩
  rw [Nat.zero_add, h.cellAt t ht', Go.Sort.get_flatK _ _ _ _ ht]
  have hj : t / 7 < cs.length := by omega
  have hc : cs[t / 7]? = some cs[t / 7] := List.getElem?_eq_getElem hj
  have h7 : t % 7 < cs[t / 7].cells.length := Nat.mod_lt _ (by decide)
  have hv : cs[t / 7].cells[t % 7]? = some (cs[t / 7].cells[t % 7]) := List.getElem?_eq_getElem h7
  have := flat_at cs _ _ hc _ _ hv
  rw [show t / 7 * 7 + t % 7 = t by omega] at this
  rw [this]
  have e1 : cs.toArray[t / 7]! = cs[t / 7] := by simp [hj]
  rw [e1, getElem!_pos cs[t / 7].cells (t % 7) h7]
  rfl
theorem cms_of_holds {w : World} {g : Nat} {d : Array C7} (h : HoldsK C7.cells 7 w g 0 d) : CmsAt w g 0 d.toList := by
  intro j c hc f v hv
  have hj := (List.getElem?_eq_some_iff.1 hc).1
  have hf := (List.getElem?_eq_some_iff.1 hv).1
  have hj' : j < d.size := by simpa using hj
  have := (HoldsK.cell h hj' (show f < 7 from hf)).1
  rw [Nat.add_assoc] at this
  rw [this]
  have e1 : d[j]! = c := by
    rw [getElem!_pos d j hj']
    obtain ⟨_, e⟩ := List.getElem?_eq_some_iff.1 hc
    simpa using e
  rw [e1, getElem!_pos c.cells f hf]
  obtain ⟨_, e⟩ := List.getElem?_eq_some_iff.1 hv
  rw [e]
theorem perm_of {d d' : Array C7} (h : PermIn 0 d.size d d') : d'.toList.Perm d.toList := by
  obtain ⟨h1, _, h3⟩ := h
  rw [← h1] at h3
  have e1 : d'.extract 0 d'.size = d' := by simp
  have e2 : d.extract 0 d'.size = d := by rw [h1]; simp
  rwa [e1, e2] at h3
theorem sorted_of {d : Array C7} (h : SortedIn (ltOf byI) 0 d.size d) : Sorted7 d.toList := by
  refine List.pairwise_iff_getElem.2 fun i j hi hj hij => ?_
  have := h i j (Nat.zero_le _) hij (by simpa using hj)
  have hi' : i < d.size := by simpa using hi
  have hj' : j < d.size := by simpa using hj
  rw [ltI, getElem!_pos d i hi', getElem!_pos d j hj'] at this
  simp at this ⊢
  exact this

set_option maxHeartbeats 1000000 in
set_option maxRecDepth 100000 in
theorem cClone_nil (w : World) : Calls Try.prog 30 #[.slice none 0 0] w fun e w' => e = .returned (.slice none 0 0) ∧ w = w' := by
  have q22 : ∀ (w : World) (a : Option Addr) (n c n' c' : Nat), (binOp .eql 22 (.slice a n c) (.slice none n' c')).run Try.prog w = .ok (.bool a.isNone) w := fun w a n c n' c' => Go.Lib.run_eql_slice_nil w _ _ a n c n' c' Try.underlying22
  go_enter Try.func30, Try.ntmps30
  go_wp2
  go_ret
  exact ⟨rfl, rfl⟩

set_option maxHeartbeats 1000000 in
set_option maxRecDepth 100000 in
theorem cClone (ad : Addr) (cap : Nat) (cs : List C7) (w : World) (hc : ∀ (j : Nat) u, (flat cs)[j]? = some u → w.cell? (ad.add j) = some u) (hl : cs.length ≤ 100000) :
    Calls Try.prog 30 #[.slice (some ad) cs.length cap] w fun e w' => ∃ g cap', e = .returned (.slice (some ⟨g, 0, none⟩) cs.length cap') ∧ Own w' w.heap.size (.slice (some ⟨g, 0, none⟩) cs.length cap') cs ∧ Below w.heap.size w w' := by
  have q22 : ∀ (w : World) (a : Option Addr) (n c n' c' : Nat), (binOp .eql 22 (.slice a n c) (.slice none n' c')).run Try.prog w = .ok (.bool a.isNone) w := fun w a n c n' c' => Go.Lib.run_eql_slice_nil w _ _ a n c n' c' Try.underlying22
  obtain ⟨i0, hi, hz0, hz1, hz2⟩ := info_parts Try.infoC
  have HC := hid hc
  clear hc
  go_enter Try.func30, Try.ntmps30
  go_wp2_with (at_builtin; refine wpList_append_own _ rfl _ _ 22 rfl w.heap.size 34 i0 _ 7 56 Try.underlying22 hi hz0 hz1 hz2 rfl (by decide) _ _ _ rfl (World.ownsRow_made w #[] 0 (Nat.le_refl _) (Nat.zero_le _) (by simp)) ad cs.length cap (flat cs) rfl (flat_len cs) ?qc2 (flat_one cs) ?qc4 ?qc5 ?qc6 ?_)
  case qc2 =>
    intro j u hj
    exact Go.Lib.cell?_alloc_some _ (HC.out j u hj)
  case qc4 => unfold maxLen; omega
  case qc5 => omega
  case qc6 => simp
  intro v' w1 hown hgrow hnil
  have hown' : Own w1 w.heap.size v' cs := by
    first | exact hown | (rw [Nat.zero_add, List.nil_append] at hown; exact hown)
  have hB : Below w.heap.size w w1 := ((Below.refl _ w).alloc (Nat.le_refl _) _).grown hgrow (by simp) (by intro k hk; simp [Value.ownBlock] at hk; omega)
  have hne : v' ≠ .slice none 0 0 := hnil
  rcases hown'.shape with ⟨e, _⟩ | ⟨g, cap', rfl, _⟩
  · exact absurd e hne
  have HO := hid (And.intro hown' hB)
  clear hown hown' hgrow hnil hB hne
  go_wp2
  go_ret
  exact ⟨_, _, rfl, HO.out.1, HO.out.2⟩

set_option maxHeartbeats 1000000 in
set_option maxRecDepth 100000 in
theorem cByNames {v : Value} {cs : List C7} {w : World} (h : Sl w v cs) (hl : cs.length ≤ 100000) : Calls Try.prog 23 #[v] w fun e w' => ∃ r s, e = .returned r ∧ Sl w' r s ∧ s.Perm cs ∧ Sorted7 s ∧ Below w.heap.size w w' := by
  rcases h.src with ⟨rfl, rfl⟩ | ⟨ad, cap, rfl, hc, _⟩
  · have hC := cClone_nil w
    have hS := fun fv => AnyF.slices_SortFunc_none Try.sortC none 0 fv w
    change ∀ fv, Calls Try.prog 31 _ _ _ at hS
    have H := hid h
    clear h
    go_enter Try.func23, Try.ntmps23
    go_wp2_with (first | (go_at_call 30; refine hC.mono ?_; rintro e w' ⟨rfl, rfl⟩) | (go_at_call 31; refine (hS _).mono ?_; rintro e w' ⟨rfl, rfl⟩))
    go_ret
    exact ⟨_, [], rfl, H.out, List.Perm.refl _, List.Pairwise.nil, Below.refl _ _⟩
  · have hC := cClone ad cap cs w hc hl
    have H := hid h
    clear h hc
    go_enter Try.func23, Try.ntmps23
    go_wp2_with (go_at_call 30; refine hC.mono ?_; rintro e w1 ⟨g, cap', rfl, hown, hB⟩)
    have hlt := hown.lt g rfl
    have eg : ∀ args w, (callFunc 32 args).run Try.prog w = .ok (.enter 32 args) w := enters_of Try.func32 (by kernel_rfl) rfl
    have hS := AnyQ.slices_SortFunc Try.sortC 7 Try.isAgg34 Try.sizeOf34 C7.cells (fun _ => rfl) (fun x v hv => by simp at hv; rcases hv with rfl | rfl | rfl | rfl | rfl | rfl | rfl <;> rfl) byI swoI 32 #[] g 0 cap' cs.toArray w1 eg (cmpLays g 0 _ w1) hown.holds hlt.2 (by simp; omega)
    change Calls Try.prog 31 #[.slice (some ⟨g, 0, none⟩) cs.length cap', .func (.func 32) #[] #[]] w1 _ at hS
    have HH := hid (And.intro hown hB)
    have HL := hid hlt
    clear hown hB hlt eg
    go_wp2_with (go_at_call 31; refine hS.mono ?_; rintro e w' ⟨rfl, d', n, os, hp, hs, rfl⟩)
    go_ret
    have hsz : d'.size = cs.length := by have := hp.1; simpa using this
    have hlen : d'.toList.length = cs.length := by simpa using hsz
    have hg : Below w.heap.size w (sortWorldK C7.cells 7 w1 g 0 n d' os) := HH.out.2.grown grownBy_sortK HH.out.2.size (fun k hk => by cases hk; exact HL.out.1)
    refine ⟨_, d'.toList, rfl, ⟨g, 0, cap', some ⟨g, 0, none⟩, by rw [hlen]; rfl, (fun e => by cases e), fun _ => rfl, ?_, fun _ => ?_⟩, by have := perm_of hp; simpa using this, sorted_of (by rw [hp.1]; exact hs), hg⟩
    · exact cms_of_holds (holdsK_sortWorldK_c C7.cells 7 w1 g 0 cs.toArray d' n os HH.out.1.holds HL.out.2 (by rw [hsz]; simp))
    · have := (grownBy_sortK (w := w1) (g := g) (m := n) (d := d') (os := os)).size
      have := HL.out.2
      omega
end Go.Proofs.Ytpocfhcdffobhaa

import Derived.Test.YtbcmhnaiabifjaaG02
import Derived.Test.YtbcmhnaiabifjaaG03
import Derived.Deep.Light
import Derived.Test.YtbcmhnaiabifjaaShelf
import Derived.Lib.SliceRun
import Derived.Deep.QuietTactic
import Derived.BigQuiet
namespace Go.Proofs.Ytbcmhnaiabifjaa
open Go.RowKit
open Go.Lib (hid)
theorem place_none {l : List C7} {k : Nat} (hk : l.length ≤ k) {id : Int} (h : ∀ j, j < k → ∀ c, l[j]? = some c → c.i ≠ id) : placeI l id = none := placeI_nowhere fun j hj => h j (by omega)
theorem not_next {l : List C7} {k : Nat} {id : Int} (h : ∀ j, j < k → ∀ c, l[j]? = some c → c.i ≠ id) {c : C7} (hc : l[k]? = some c) (hi : ¬ c.i = id) : ∀ j, j < k + 1 → ∀ c, l[j]? = some c → c.i ≠ id := fun j hj d hd => by
  by_cases e : j = k
  · subst e; rw [hc] at hd; rw [← Option.some.inj hd]; exact hi
  · exact h j (by omega) d hd
theorem placeV_some {l : List C7} {id : Int} {k : Nat} (h : placeI l id = some k) : placeV l id = (k : Int) := by unfold placeV; rw [h]
theorem placeV_none {l : List C7} {id : Int} (h : placeI l id = none) : placeV l id = -1 := by unfold placeV; rw [h]
set_option maxHeartbeats 600000 in
set_option maxRecDepth 100000 in
theorem rFind {v : Value} {cs : List C7} {w : World} (h : Sl w v cs) (hl : cs.length ≤ 100000) (id : Int) : Calls Try.prog 58 #[v, .int .i64 id] w fun e w' => e = .returned (.int .i64 (placeV cs id)) ∧ w = w' := by
  obtain ⟨b, o, cap, a, rfl, hn, ha, hc, hb⟩ := h
  go_enter Try.func58, Try.ntmps58
  go_wp2
  go_loopw [5] (fun i wr => ∃ k : Nat, k ≤ cs.length ∧ i = .int .i64 k ∧ Hid (∀ j, j < k → ∀ c, cs[j]? = some c → c.i ≠ id) ∧ wr = w) (fun i _ => cs.length - (intOf i).toNat)
  case atStart => exact ⟨0, Nat.zero_le _, rfl, fun j hj => absurd hj (by omega), rfl⟩
  case round =>
    obtain ⟨k, hk, rfl, hak, rfl⟩ := hrel
    by_cases hlt : k < cs.length
    · obtain rfl := ha (by omega)
      obtain ⟨c, hcc⟩ : ∃ c, cs[k]? = some c := ⟨cs[k], List.getElem?_eq_getElem hlt⟩
      have hbw := hb (by omega)
      obtain ⟨c0, _, _, _, _, _, _⟩ := hc.at hcc
      have HC := hid hcc
      clear hcc
      by_cases hi : c.i = id
      · have HI := hid hi
        have HS : Hid (placeV cs id = (k : Int)) := placeV_some (placeI_first hak.out HC.out hi)
        go_wp2
        go_ret
        exact ⟨ret_int HS.out.symm, rfl⟩
      · have HI := hid hi
        go_wp2
        go_roundw
        case rel => exact ⟨k + 1, by omega, by go_num, not_next hak.out HC.out HI.out, by first | rfl | trivial⟩
        case measure => simp [intOf]; omega
    · have HS : Hid (placeV cs id = -1) := placeV_none (place_none (by omega) hak.out)
      go_wp2
      go_ret
      exact ⟨ret_int HS.out.symm, rfl⟩
end Go.Proofs.Ytbcmhnaiabifjaa
namespace Go.Proofs.Ytbcmhnaiabifjaa
open Go.RowKit
open Go.Lib (hid)
end Go.Proofs.Ytbcmhnaiabifjaa
namespace Go.Proofs.Ytbcmhnaiabifjaa
set_option linter.unusedVariables false
open Go.RowKit
open Go.Lib (hid)
open Go.Sort (SWO PermIn SortedIn grow HoldsK alloc_eq_grow grow_grow heap_grow_old)
def byI (x y : C7) : Int := Go.Lib.compareInt x.i y.i
theorem ltI (x y : C7) : ltOf byI x y = decide (x.i < y.i) := by
  unfold ltOf byI Go.Lib.compareInt
  by_cases h1 : x.i < y.i
  · simp [h1]
  · by_cases h2 : y.i < x.i <;> simp [h1, h2]
theorem swoI : SWO (ltOf byI) where
  irrefl x := by rw [ltI]; simp
  trans x y z h1 h2 := by rw [ltI] at *; simp at *; omega
  ntrans x y z h1 h2 := by rw [ltI] at *; simp at *; omega
set_option maxHeartbeats 1000000 in
theorem cCmp (x y : C7) (W : World) : Calls Try.prog 78 #[.agg x.cells.toArray, .agg y.cells.toArray] W fun e w' => e = .returned (.int .i64 (byI x y)) ∧ ∃ q os', w' = grow (W.drewN q) os' := by
  have hcon := fun W' => Try.cmp_Compare_int x.i y.i W'
  unfold byI
  generalize Go.Lib.compareInt x.i y.i = r at hcon ⊢
  go_enter Try.func78, Try.ntmps78
  go_wp2_with (go_at_call 79; refine (hcon _).mono ?_; rintro e w' ⟨rfl, rfl⟩)
  go_ret
  exact ⟨rfl, 0, _, by rw [alloc_eq_grow, alloc_eq_grow, grow_grow]; rfl⟩
theorem cmpLays (blk off size : Nat) (w : World) : CmpLays Try.prog 78 #[] C7.cells 7 byI blk off size w := fun _ _ _ _ x y => cCmp x y _
theorem grownBy_sortK {w : World} {g m : Nat} {d : Array C7} {os : Array Obj} : w.grownBy (sortWorldK C7.cells 7 w g 0 m d os) (some g) := by
  unfold sortWorldK Go.Sort.putRowK
  refine ⟨rfl, rfl, rfl, by simp, fun k hk hne => ?_⟩
  rw [heap_grow_old _ _ (by simpa using hk)]
  have : g ≠ k := fun e => hne (by rw [e])
  simp [Go.Sort.putRow, Go.Sort.mapBlock, Go.Sort.ahead, Array.getElem?_modify, this]
theorem Own.holds {w : World} {B g cap : Nat} {cs : List C7} (h : Own w B (.slice (some ⟨g, 0, none⟩) cs.length cap) cs) : HoldsK C7.cells 7 w g 0 cs.toArray := by
  intro t ht
  rw [Go.Sort.size_flatK] at ht
  have ht' : t < cs.length * 7 := by simpa using ht
  refine ⟨?_, by rw [Nat.zero_add]; exact h.frozenAt t⟩
  rw [Nat.zero_add, h.cellAt t ht', Go.Sort.get_flatK _ _ _ _ ht]
  have hj : t / 7 < cs.length := by omega
  have hc : cs[t / 7]? = some cs[t / 7] := List.getElem?_eq_getElem hj
  have h7 : t % 7 < cs[t / 7].cells.length := Nat.mod_lt _ (by decide)
  have hv : cs[t / 7].cells[t % 7]? = some (cs[t / 7].cells[t % 7]) := List.getElem?_eq_getElem h7
  have := flat_at cs _ _ hc _ _ hv
  rw [show t / 7 * 7 + t % 7 = t by omega] at this
  rw [this]
  have e1 : cs.toArray[t / 7]! = cs[t / 7] := by simp [hj]
  rw [e1, getElem!_pos cs[t / 7].cells (t % 7) h7]
  rfl
theorem cms_of_holds {w : World} {g : Nat} {d : Array C7} (h : HoldsK C7.cells 7 w g 0 d) : CmsAt w g 0 d.toList := by
  intro j c hc f v hv
  have hj := (List.getElem?_eq_some_iff.1 hc).1
  have hf := (List.getElem?_eq_some_iff.1 hv).1
  have hj' : j < d.size := by simpa using hj
  have := (HoldsK.cell h hj' (show f < 7 from hf)).1
  rw [Nat.add_assoc] at this
  rw [this]
  have e1 : d[j]! = c := by
    rw [getElem!_pos d j hj']
    obtain ⟨_, e⟩ := List.getElem?_eq_some_iff.1 hc
    simpa using e
  rw [e1, getElem!_pos c.cells f hf]
  obtain ⟨_, e⟩ := List.getElem?_eq_some_iff.1 hv
  rw [e]
theorem perm_of {d d' : Array C7} (h : PermIn 0 d.size d d') : d'.toList.Perm d.toList := by
  obtain ⟨h1, _, h3⟩ := h
  rw [← h1] at h3
  have e1 : d'.extract 0 d'.size = d' := by simp
  have e2 : d.extract 0 d'.size = d := by rw [h1]; simp
  rwa [e1, e2] at h3
theorem sorted_of {d : Array C7} (h : SortedIn (ltOf byI) 0 d.size d) : Sorted7 d.toList := by
  refine List.pairwise_iff_getElem.2 fun i j hi hj hij => ?_
  have := h i j (Nat.zero_le _) hij (by simpa using hj)
  have hi' : i < d.size := by simpa using hi
  have hj' : j < d.size := by simpa using hj
  rw [ltI, getElem!_pos d i hi', getElem!_pos d j hj'] at this
  simp at this ⊢
  exact this
set_option maxHeartbeats 1000000 in
set_option maxRecDepth 100000 in
theorem cClone_nil (w : World) : Calls Try.prog 40 #[.slice none 0 0] w fun e w' => e = .returned (.slice none 0 0) ∧ w = w' := by
  have q22 : ∀ (w : World) (a : Option Addr) (n c n' c' : Nat), (binOp .eql 26 (.slice a n c) (.slice none n' c')).run Try.prog w = .ok (.bool a.isNone) w := fun w a n c n' c' => Go.Lib.run_eql_slice_nil w _ _ a n c n' c' Try.underlying26
  go_enter Try.func40, Try.ntmps40
  go_wp2
  go_ret
  exact ⟨rfl, rfl⟩
set_option maxHeartbeats 1000000 in
set_option maxRecDepth 100000 in
theorem cClone (ad : Addr) (cap : Nat) (cs : List C7) (w : World) (hc : ∀ (j : Nat) u, (flat cs)[j]? = some u → w.cell? (ad.add j) = some u) (hl : cs.length ≤ 100000) :
    Calls Try.prog 40 #[.slice (some ad) cs.length cap] w fun e w' => ∃ g cap', e = .returned (.slice (some ⟨g, 0, none⟩) cs.length cap') ∧ Own w' w.heap.size (.slice (some ⟨g, 0, none⟩) cs.length cap') cs ∧ Below w.heap.size w w' := by
  have q22 : ∀ (w : World) (a : Option Addr) (n c n' c' : Nat), (binOp .eql 26 (.slice a n c) (.slice none n' c')).run Try.prog w = .ok (.bool a.isNone) w := fun w a n c n' c' => Go.Lib.run_eql_slice_nil w _ _ a n c n' c' Try.underlying26
  obtain ⟨i0, hi, hz0, hz1, hz2⟩ := info_parts Try.infoC
  have HC := hid hc
  clear hc
  go_enter Try.func40, Try.ntmps40
  go_wp2_with (at_builtin; refine wpList_append_own _ rfl _ _ 26 rfl w.heap.size 47 i0 _ 7 56 Try.underlying26 hi hz0 hz1 hz2 rfl (by decide) _ _ _ rfl (World.ownsRow_made w #[] 0 (Nat.le_refl _) (Nat.zero_le _) (by simp)) ad cs.length cap (flat cs) rfl (flat_len cs) ?qc2 (flat_one cs) ?qc4 ?qc5 ?qc6 ?_)
  case qc2 =>
    intro j u hj
    exact Go.Lib.cell?_alloc_some _ (HC.out j u hj)
  case qc4 => unfold maxLen; omega
  case qc5 => omega
  case qc6 => simp
  intro v' w1 hown hgrow hnil
  have hown' : Own w1 w.heap.size v' cs := by
    first | exact hown | (rw [Nat.zero_add, List.nil_append] at hown; exact hown)
  have hB : Below w.heap.size w w1 := ((Below.refl _ w).alloc (Nat.le_refl _) _).grown hgrow (by simp) (by intro k hk; simp [Value.ownBlock] at hk; omega)
  have hne : v' ≠ .slice none 0 0 := hnil
  rcases hown'.shape with ⟨e, _⟩ | ⟨g, cap', rfl, _⟩
  · exact absurd e hne
  have HO := hid (And.intro hown' hB)
  clear hown hown' hgrow hnil hB hne
  go_wp2
  go_ret
  exact ⟨_, _, rfl, HO.out.1, HO.out.2⟩
set_option maxHeartbeats 1000000 in
set_option maxRecDepth 100000 in
theorem cByNames {v : Value} {cs : List C7} {w : World} (h : Sl w v cs) (hl : cs.length ≤ 100000) : Calls Try.prog 69 #[v] w fun e w' => ∃ r s, e = .returned r ∧ Sl w' r s ∧ s.Perm cs ∧ Sorted7 s ∧ Below w.heap.size w w' := by
  rcases h.src with ⟨rfl, rfl⟩ | ⟨ad, cap, rfl, hc, _⟩
  · have hC := cClone_nil w
    have hS := fun fv => AnyF.slices_SortFunc_none Try.sortC none 0 fv w
    change ∀ fv, Calls Try.prog 77 _ _ _ at hS
    have H := hid h
    clear h
    go_enter Try.func69, Try.ntmps69
    go_wp2_with (first | (go_at_call 40; refine hC.mono ?_; rintro e w' ⟨rfl, rfl⟩) | (go_at_call 77; refine (hS _).mono ?_; rintro e w' ⟨rfl, rfl⟩))
    go_ret
    exact ⟨_, [], rfl, H.out, List.Perm.refl _, List.Pairwise.nil, Below.refl _ _⟩
  · have hC := cClone ad cap cs w hc hl
    have H := hid h
    clear h hc
    go_enter Try.func69, Try.ntmps69
    go_wp2_with (go_at_call 40; refine hC.mono ?_; rintro e w1 ⟨g, cap', rfl, hown, hB⟩)
    have hlt := hown.lt g rfl
    have eg : ∀ args w, (callFunc 78 args).run Try.prog w = .ok (.enter 78 args) w := enters_of Try.func78 (by kernel_rfl) rfl
    have hS := AnyQ.slices_SortFunc Try.sortC 7 Try.isAgg47 Try.sizeOf47 C7.cells (fun _ => rfl) (fun x v hv => by simp at hv; rcases hv with rfl | rfl | rfl | rfl | rfl | rfl | rfl <;> rfl) byI swoI 78 #[] g 0 cap' cs.toArray w1 eg (cmpLays g 0 _ w1) hown.holds hlt.2 (by simp; omega)
    change Calls Try.prog 77 #[.slice (some ⟨g, 0, none⟩) cs.length cap', .func (.func 78) #[] #[]] w1 _ at hS
    have HH := hid (And.intro hown hB)
    have HL := hid hlt
    clear hown hB hlt eg
    go_wp2_with (go_at_call 77; refine hS.mono ?_; rintro e w' ⟨rfl, d', n, os, hp, hs, rfl⟩)
    go_ret
    have hsz : d'.size = cs.length := by have := hp.1; simpa using this
    have hlen : d'.toList.length = cs.length := by simpa using hsz
    have hg : Below w.heap.size w (sortWorldK C7.cells 7 w1 g 0 n d' os) := HH.out.2.grown grownBy_sortK HH.out.2.size (fun k hk => by cases hk; exact HL.out.1)
    refine ⟨_, d'.toList, rfl, ⟨g, 0, cap', some ⟨g, 0, none⟩, by rw [hlen]; rfl, (fun e => by cases e), fun _ => rfl, ?_, fun _ => ?_⟩, by have := perm_of hp; simpa using this, sorted_of (by rw [hp.1]; exact hs), hg⟩
    · exact cms_of_holds (holdsK_sortWorldK_c C7.cells 7 w1 g 0 cs.toArray d' n os HH.out.1.holds HL.out.2 (by rw [hsz]; simp))
    · have := (grownBy_sortK (w := w1) (g := g) (m := n) (d := d') (os := os)).size
      have := HL.out.2
      omega
end Go.Proofs.Ytbcmhnaiabifjaa
namespace Go.Proofs.Ytbcmhnaiabifjaa
set_option linter.unusedVariables false
open Go.RowKit
open Go.Lib (hid)
def PutAt (l : List C7) (c : C7) (k : Nat) (done : Bool) (out : List C7) : Prop :=
  (done = false ∧ out = l.take k ∧ (∀ x ∈ l.take k, x.i ≤ c.i)) ∨
  (done = true ∧ ∃ m, m < k ∧ (∀ x ∈ l.take m, x.i ≤ c.i) ∧ (∃ y, l[m]? = some y ∧ c.i < y.i) ∧ out = l.take m ++ c :: (l.take k).drop m)
theorem PutAt.start (l : List C7) (c : C7) : PutAt l c 0 false [] := .inl ⟨rfl, by simp, by simp⟩
theorem PutAt.stay {l : List C7} {c x : C7} {k : Nat} {out : List C7} (h : PutAt l c k false out) (hx : l[k]? = some x) (hle : x.i ≤ c.i) : PutAt l c (k + 1) false (out ++ [x]) := by
  rcases h with ⟨_, rfl, h3⟩ | ⟨h, _⟩
  · refine .inl ⟨rfl, (take_snoc hx).symm, fun y hy => ?_⟩
    rw [take_snoc hx] at hy
    rcases List.mem_append.1 hy with hy | hy
    · exact h3 y hy
    · rw [List.mem_singleton] at hy; subst hy; exact hle
  · cases h
theorem PutAt.put {l : List C7} {c x : C7} {k : Nat} {out : List C7} (h : PutAt l c k false out) (hx : l[k]? = some x) (hgt : c.i < x.i) : PutAt l c (k + 1) true (out ++ [c] ++ [x]) := by
  have hk := (List.getElem?_eq_some_iff.1 hx).1
  rcases h with ⟨_, rfl, h3⟩ | ⟨h, _⟩
  · refine .inr ⟨rfl, k, by omega, h3, ⟨x, hx, hgt⟩, ?_⟩
    rw [take_snoc hx, List.drop_append_of_le_length (by simp; omega), List.drop_of_length_le (by simp; omega)]
    simp
  · cases h
theorem PutAt.past {l : List C7} {c x : C7} {k : Nat} {out : List C7} (h : PutAt l c k true out) (hx : l[k]? = some x) : PutAt l c (k + 1) true (out ++ [x]) := by
  have hk := (List.getElem?_eq_some_iff.1 hx).1
  rcases h with ⟨h, _⟩ | ⟨_, m, hm, h3, h4, rfl⟩
  · cases h
  · refine .inr ⟨rfl, m, by omega, h3, h4, ?_⟩
    rw [take_snoc hx, List.drop_append_of_le_length (by simp; omega)]
    simp
theorem PutAt.len {l : List C7} {c : C7} {k : Nat} {d : Bool} {out : List C7} (h : PutAt l c k d out) : out.length ≤ k + 1 := by
  rcases h with ⟨_, rfl, _⟩ | ⟨_, m, hm, _, _, rfl⟩
  · simp; omega
  · simp; omega
theorem takeWhile_all {l : List C7} {n : Int} (h : ∀ x ∈ l, x.i ≤ n) : l.takeWhile (fun x => decide (x.i ≤ n)) = l ∧ l.dropWhile (fun x => decide (x.i ≤ n)) = [] := by
  induction l with
  | nil => simp
  | cons a l ih =>
    have := ih fun x hx => h x (List.mem_cons_of_mem _ hx)
    have ha := h a (List.mem_cons_self ..)
    simp [ha, this.1, this.2]
theorem takeWhile_upto {n : Int} : ∀ (m : Nat) (l : List C7), (∀ x ∈ l.take m, x.i ≤ n) → (∃ y, l[m]? = some y ∧ n < y.i) → l.takeWhile (fun x => decide (x.i ≤ n)) = l.take m ∧ l.dropWhile (fun x => decide (x.i ≤ n)) = l.drop m
  | 0, [], _, ⟨y, hy, _⟩ => by simp at hy
  | 0, a :: l, _, ⟨y, hy, hn⟩ => by
    simp at hy; subst hy
    have : ¬ a.i ≤ n := by omega
    simp [this]
  | m + 1, [], _, ⟨y, hy, _⟩ => by simp at hy
  | m + 1, a :: l, h, ⟨y, hy, hn⟩ => by
    have ha := h a (by simp)
    have := takeWhile_upto m l (fun x hx => h x (by simp; exact .inr hx)) ⟨y, by simpa using hy, hn⟩
    simp [ha, this.1, this.2]
theorem PutAt.all {l : List C7} {c : C7} {out : List C7} (hn : placeI l c.i = none) (h : PutAt l c l.length true out) : putL l c = out := by
  unfold putL; rw [hn, if_neg (by simp)]
  rcases h with ⟨h, _⟩ | ⟨_, m, hm, h3, h4, rfl⟩
  · cases h
  · rw [(takeWhile_upto m l h3 h4).1, (takeWhile_upto m l h3 h4).2, List.take_length]
theorem PutAt.none {l : List C7} {c : C7} {out : List C7} (hn : placeI l c.i = none) (h : PutAt l c l.length false out) : putL l c = out ++ [c] := by
  unfold putL; rw [hn, if_neg (by simp)]
  rcases h with ⟨_, rfl, h3⟩ | ⟨h, _⟩
  · rw [List.take_length] at h3
    rw [(takeWhile_all h3).1, (takeWhile_all h3).2, List.take_length]
  · cases h
theorem own_drewN {w : World} {base : Nat} {e : TypeId} {size : Nat} {v : Value} {n : Nat} {xs : List Value} (h : w.ownsRow base e size v n xs) (q : Nat) : (w.drewN q).ownsRow base e size v n xs := h
theorem own_mono {w : World} {B B' : Nat} {e : TypeId} {size : Nat} {v : Value} {n : Nat} {xs : List Value} (h : w.ownsRow B e size v n xs) (hB : B' ≤ B) : w.ownsRow B' e size v n xs := by
  refine ⟨h.1, ?_⟩
  rcases h.2 with h2 | ⟨g, cap, cur, rfl, hb, r⟩
  · exact .inl h2
  · exact .inr ⟨g, cap, cur, rfl, Nat.le_trans hB hb, r⟩
theorem box_below {w wr : World} {xs : Array Value} {T : TypeId} (h : Below (w.heap.size + 1) (w.alloc (.cells xs T)) wr) : (∀ o, wr.cell? ⟨w.heap.size, o, none⟩ = xs[o]?) ∧ w.heap.size + 1 ≤ wr.heap.size ∧ Below w.heap.size w wr := by
  obtain ⟨h1, h2, h3⟩ := box_cells (w := w) (w1 := wr) (xs := xs) (T := T) (by simpa using h)
  exact ⟨h1, h2, h3⟩
theorem take_len (l : List C7) (k : Nat) : (l.take k).length ≤ k := by simp; omega
set_option maxHeartbeats 1600000 in
set_option maxRecDepth 100000 in
theorem rPut_has {v : Value} {l : List C7} {w : World} (h : Sl w v l) (hl : l.length ≤ 100000) (c : C7) {j : Nat} (hp : placeI l c.i = some j) : Calls Try.prog 59 #[v, c.v] w fun e w' => ∃ r, e = .returned r ∧ Own w' w.heap.size r l ∧ Below w.heap.size w w' := by
  have H := hid h
  obtain ⟨b, o, cap, a, rfl, ha, hc, hb⟩ := h.open
  clear h
  obtain ⟨i0, hi, hz0, hz1, hz2⟩ := info_parts Try.infoC
  have hF := fun W (hB : Below w.heap.size w W) => rFind (H.out.on hB) hl c.i
  rw [placeV_some hp] at hF
  clear hp
  go_enter Try.func59, Try.ntmps59
  go_wp2_with (go_at_call 58; refine (hF _ ((Below.refl _ w).alloc (Nat.le_refl _) _)).mono ?_; rintro e w' ⟨rfl, rfl⟩)
  go_loopw [5, 6, 7] (fun u dn i wr => ∃ (k : Nat) (out : List C7), k ≤ l.length ∧ i = .int .i64 k ∧ dn = .bool true ∧ Hid (out = l.take k) ∧ Own wr w.heap.size u out ∧ Below w.heap.size w wr) (fun _ _ i _ => l.length - (intOf i).toNat)
  case atStart => exact ⟨0, [], Nat.zero_le _, rfl, rfl, rfl, Own.nil _ _, (Below.refl _ w).alloc (Nat.le_refl _) _⟩
  case round =>
    clear hF
    obtain ⟨k, out, hk, rfl, rfl, hout, hown, hB⟩ := hrel
    have hsz := hB.size
    have htl : out.length ≤ k := by rw [hout.out]; exact take_len l k
    by_cases hlt : k < l.length
    · obtain rfl := ha (by omega)
      obtain ⟨x, hxx⟩ : ∃ x, l[k]? = some x := ⟨l[k], List.getElem?_eq_getElem hlt⟩
      have hbw := hb (by omega)
      obtain ⟨c0, c1, c2, c3, c4, c5, c6⟩ := (hc.on hB hbw).at hxx
      have HC := hid hxx
      have HB := hid hB
      have HO := hid hown
      clear hxx hB
      go_wp2
      go_quiet (fail)
      go_wp2_with (at_builtin; refine wpList_append_own _ rfl _ _ 26 rfl w.heap.size 47 i0 _ 7 56 Try.underlying26 hi hz0 hz1 hz2 rfl (by decide) _ _ _ rfl ((own_drewN hown _).alloc _) ⟨wr.heap.size, 0, none⟩ 1 1 x.cells rfl rfl ?c1 ?c2 ?c3 ?c4 ?c5 ?_)
      case c1 => exact new_cell rfl
      case c2 => exact cells_one x
      case c3 => unfold maxLen; omega
      case c4 => omega
      case c5 => simp; omega
      intro v' w1 hown' hgrow _
      have R := Own.grows ((Below.drewN' HB.out _).alloc hsz _) (by simp; omega) (fun k hk => (HO.out.lt k hk).1) hown' hgrow
      clear hown' hgrow hown
      go_wp2
      go_roundw
      case rel => exact ⟨k + 1, _, by omega, by go_num, rfl, hid (by rw [hout.out, take_snoc HC.out]), R.1, R.2⟩
      case measure => simp [intOf]; omega
    · have HR : Hid (out = l) := hid (by rw [hout.out, List.take_of_length_le (by omega)])
      rw [HR.out] at hown
      have HR := hid hown
      clear hown
      go_wp2
      go_ret
      exact ⟨_, rfl, HR.out, hB⟩
set_option maxHeartbeats 1600000 in
set_option maxRecDepth 100000 in
theorem rPut_new {v : Value} {l : List C7} {w : World} (h : Sl w v l) (hl : l.length ≤ 100000) (c : C7) (hp : placeI l c.i = none) : Calls Try.prog 59 #[v, c.v] w fun e w' => ∃ r, e = .returned r ∧ Own w' w.heap.size r (putL l c) ∧ Below w.heap.size w w' := by
  have H := hid h
  obtain ⟨b, o, cap, a, rfl, ha, hc, hb⟩ := h.open
  clear h
  obtain ⟨i0, hi, hz0, hz1, hz2⟩ := info_parts Try.infoC
  have hF := fun W (hB : Below w.heap.size w W) => rFind (H.out.on hB) hl c.i
  rw [placeV_none hp] at hF
  have HP := hid hp
  clear hp
  go_enter Try.func59, Try.ntmps59
  go_wp2_with (go_at_call 58; refine (hF _ ((Below.refl _ w).alloc (Nat.le_refl _) _)).mono ?_; rintro e w' ⟨rfl, rfl⟩)
  go_loopw [5, 6, 7] (fun u dn i wr => ∃ (k : Nat) (d : Bool) (out : List C7), k ≤ l.length ∧ i = .int .i64 k ∧ dn = .bool d ∧ Hid (PutAt l c k d out) ∧ Own wr (w.heap.size + 1) u out ∧ Below (w.heap.size + 1) (w.alloc (.cells c.cells.toArray 47)) wr) (fun _ _ i _ => l.length - (intOf i).toNat)
  case atStart => exact ⟨0, false, [], Nat.zero_le _, rfl, rfl, PutAt.start l c, Own.nil _ _, Below.refl _ _⟩
  case round =>
    clear hF
    obtain ⟨k, d, out, hk, rfl, rfl, hat, hown, hB0⟩ := hrel
    obtain ⟨hcell, hsz, hB⟩ := box_below hB0
    have hol := hat.out.len
    have k0 : wr.cell? ⟨w.heap.size, 0, none⟩ = some (.int .i64 c.i) := hcell 0
    have k1 : wr.cell? ⟨w.heap.size, 1, none⟩ = some (.int .i64 c.k) := hcell 1
    have k2 : wr.cell? ⟨w.heap.size, 2, none⟩ = some (.int .i64 c.s) := hcell 2
    have k3 : wr.cell? ⟨w.heap.size, 3, none⟩ = some (.int .i64 c.t) := hcell 3
    have k4 : wr.cell? ⟨w.heap.size, 4, none⟩ = some (.int .i64 c.d) := hcell 4
    have k5 : wr.cell? ⟨w.heap.size, 5, none⟩ = some (.int .i64 c.p) := hcell 5
    have k6 : wr.cell? ⟨w.heap.size, 6, none⟩ = some (.int .i64 c.q) := hcell 6
    clear hcell
    have HB := hid (And.intro hB0 hB)
    have HO := hid hown
    by_cases hlt : k < l.length
    · obtain rfl := ha (by omega)
      obtain ⟨x, hxx⟩ : ∃ x, l[k]? = some x := ⟨l[k], List.getElem?_eq_getElem hlt⟩
      have hbw := hb (by omega)
      obtain ⟨c0, c1, c2, c3, c4, c5, c6⟩ := (hc.on hB hbw).at hxx
      have HC := hid hxx
      clear hxx hB hB0
      rcases d with _ | _
      · by_cases hgt : c.i < x.i
        · have HG := hid hgt
          go_wp2
          go_quiet (fail)
          go_wp2_with (at_builtin; refine wpList_append_own _ rfl _ _ 26 rfl (w.heap.size + 1) 47 i0 _ 7 56 Try.underlying26 hi hz0 hz1 hz2 rfl (by decide) _ _ _ rfl ((own_drewN hown _).alloc _) ⟨wr.heap.size, 0, none⟩ 1 1 c.cells rfl rfl ?a1 ?a2 ?a3 ?a4 ?a5 ?_)
          case a1 => exact new_cell (by first | rfl | simp)
          case a2 => exact cells_one c
          case a3 => unfold maxLen; omega
          case a4 => omega
          case a5 => first | omega | (simp; omega)
          intro v1 w1 hown1 hgrow1 _
          have R1 := Own.grows ((Below.drewN' HB.out.1 nq).alloc (by simp; omega) _) (by simp; omega) (fun k hk => (HO.out.lt k hk).1) hown1 hgrow1
          obtain ⟨out1, ho1⟩ : ∃ q, q = out ++ [c] := ⟨_, rfl⟩
          rw [← ho1] at R1
          have hol1 : out1.length ≤ k + 2 := by rw [ho1]; simp; omega
          have HQ := hid ho1
          clear ho1
          obtain ⟨_, hsz1, hB1⟩ := box_below R1.2
          obtain ⟨e0, e1, e2, e3, e4, e5, e6⟩ := (hc.on hB1 hbw).at HC.out
          have hown1 := R1.1
          have HO1 := hid R1
          clear hown hgrow1 R1 hB1 c0 c1 c2 c3 c4 c5 c6 k0 k1 k2 k3 k4 k5 k6
          go_wp2_with (at_builtin; refine wpList_append_own _ rfl _ _ 26 rfl (w.heap.size + 1) 47 i0 _ 7 56 Try.underlying26 hi hz0 hz1 hz2 rfl (by decide) _ _ _ rfl (hown1.alloc _) ⟨w1.heap.size, 0, none⟩ 1 1 x.cells rfl rfl ?c1 ?c2 ?c3 ?c4 ?c5 ?_)
          case c1 => exact new_cell (by first | rfl | simp)
          case c2 => exact cells_one x
          case c3 => unfold maxLen; omega
          case c4 => omega
          case c5 => first | omega | (simp; omega)
          intro v2 w2 hown2 hgrow2 _
          have R2 := Own.grows (HO1.out.2.alloc (by omega) _) (by simp; omega) (fun k hk => (HO1.out.1.lt k hk).1) hown2 hgrow2
          clear hown2 hgrow2 hown1
          go_wp2
          go_roundw
          case rel => exact ⟨k + 1, true, _, by omega, by go_num, rfl, hid (HQ.out ▸ hat.out.put HC.out HG.out), R2.1, R2.2⟩
          case measure => simp [intOf]; omega
        · have HG := hid hgt
          go_wp2
          go_quiet (fail)
          go_wp2_with (at_builtin; refine wpList_append_own _ rfl _ _ 26 rfl (w.heap.size + 1) 47 i0 _ 7 56 Try.underlying26 hi hz0 hz1 hz2 rfl (by decide) _ _ _ rfl ((own_drewN hown _).alloc _) ⟨wr.heap.size, 0, none⟩ 1 1 x.cells rfl rfl ?b1 ?b2 ?b3 ?b4 ?b5 ?_)
          case b1 => exact new_cell (by first | rfl | simp)
          case b2 => exact cells_one x
          case b3 => unfold maxLen; omega
          case b4 => omega
          case b5 => first | omega | (simp; omega)
          intro v' w1 hown' hgrow _
          have R := Own.grows ((Below.drewN' HB.out.1 nq).alloc (by simp; omega) _) (by simp; omega) (fun k hk => (HO.out.lt k hk).1) hown' hgrow
          clear hown' hgrow hown
          go_wp2
          go_roundw
          case rel => exact ⟨k + 1, false, _, by omega, by go_num, rfl, hid (hat.out.stay HC.out HG.out), R.1, R.2⟩
          case measure => simp [intOf]; omega
      · go_wp2
        go_quiet (fail)
        go_wp2_with (at_builtin; refine wpList_append_own _ rfl _ _ 26 rfl (w.heap.size + 1) 47 i0 _ 7 56 Try.underlying26 hi hz0 hz1 hz2 rfl (by decide) _ _ _ rfl ((own_drewN hown _).alloc _) ⟨wr.heap.size, 0, none⟩ 1 1 x.cells rfl rfl ?d1 ?d2 ?d3 ?d4 ?d5 ?_)
        case d1 => exact new_cell (by first | rfl | simp)
        case d2 => exact cells_one x
        case d3 => unfold maxLen; omega
        case d4 => omega
        case d5 => first | omega | (simp; omega)
        intro v' w1 hown' hgrow _
        have R := Own.grows ((Below.drewN' HB.out.1 nq).alloc (by simp; omega) _) (by simp; omega) (fun k hk => (HO.out.lt k hk).1) hown' hgrow
        clear hown' hgrow hown
        go_wp2
        go_roundw
        case rel => exact ⟨k + 1, true, _, by omega, by go_num, rfl, hid (hat.out.past HC.out), R.1, R.2⟩
        case measure => simp [intOf]; omega
    · have hkl : k = l.length := by omega
      rcases d with _ | _
      · have HR : Hid (putL l c = out ++ [c]) := hid (PutAt.none HP.out (hkl ▸ hat.out))
        clear hkl
        go_wp2_with (at_builtin; refine wpList_append_own _ rfl _ _ 26 rfl (w.heap.size + 1) 47 i0 _ 7 56 Try.underlying26 hi hz0 hz1 hz2 rfl (by decide) _ _ _ rfl (hown.alloc _) ⟨wr.heap.size, 0, none⟩ 1 1 c.cells rfl rfl ?e1 ?e2 ?e3 ?e4 ?e5 ?_)
        case e1 => exact new_cell (by first | rfl | simp)
        case e2 => exact cells_one c
        case e3 => unfold maxLen; omega
        case e4 => omega
        case e5 => first | omega | (simp; omega)
        intro v' w1 hown' hgrow _
        have R := Own.grows (HB.out.1.alloc (by omega) _) (by simp; omega) (fun k hk => (HO.out.lt k hk).1) hown' hgrow
        clear hown' hgrow hown
        go_wp2
        go_ret
        exact ⟨_, rfl, by rw [HR.out]; exact own_mono R.1 (by omega), (box_below R.2).2.2⟩
      · have HR : Hid (putL l c = out) := hid (PutAt.all HP.out (hkl ▸ hat.out))
        clear hkl
        go_wp2
        go_ret
        exact ⟨_, rfl, by rw [HR.out]; exact own_mono HO.out (by omega), HB.out.2⟩
theorem rPut {v : Value} {l : List C7} {w : World} (h : Sl w v l) (hl : l.length ≤ 100000) (c : C7) : Calls Try.prog 59 #[v, c.v] w fun e w' => ∃ r, e = .returned r ∧ Own w' w.heap.size r (putL l c) ∧ Below w.heap.size w w' := by
  rcases hp : placeI l c.i with _ | j
  · exact rPut_new h hl c hp
  · rw [putL_has (by simp [hp])]; exact rPut_has h hl c hp
end Go.Proofs.Ytbcmhnaiabifjaa
namespace Go.Proofs.Ytbcmhnaiabifjaa
set_option linter.unusedVariables false
open Go.RowKit
open Go.Lib (hid)
theorem Sl.drewN {w : World} {v : Value} {cs : List C7} (h : Sl w v cs) (q : Nat) : Sl (w.drewN q) v cs := h
abbrev slE (r : Value) (n : Int) : Value := .tuple #[r, .int .i64 n]
theorem Own.parts {w : World} {B : Nat} {v : Value} {cs : List C7} (h : Own w B v cs) (h0 : 0 < cs.length) : ∃ g cap n, v = .slice (some ⟨g, 0, none⟩) n cap ∧ n = cs.length ∧ B ≤ g ∧ g < w.heap.size ∧
    ∀ j c, cs[j]? = some c → w.cell? ⟨g, j * 7, none⟩ = some (.int .i64 c.i) ∧ w.cell? ⟨g, j * 7 + 1, none⟩ = some (.int .i64 c.k) ∧ w.cell? ⟨g, j * 7 + 2, none⟩ = some (.int .i64 c.s) ∧ w.cell? ⟨g, j * 7 + 3, none⟩ = some (.int .i64 c.t) ∧
    w.cell? ⟨g, j * 7 + 4, none⟩ = some (.int .i64 c.d) ∧ w.cell? ⟨g, j * 7 + 5, none⟩ = some (.int .i64 c.p) ∧ w.cell? ⟨g, j * 7 + 6, none⟩ = some (.int .i64 c.q) := by
  rcases h.shape with ⟨_, rfl⟩ | ⟨g, cap, rfl, hb, hl, hc⟩
  · simp at h0
  · refine ⟨g, cap, _, rfl, rfl, hb, hl, fun j c hj => ?_⟩
    have := hc.at hj
    simp only [Nat.zero_add] at this
    exact this
end Go.Proofs.Ytbcmhnaiabifjaa
namespace Go.Proofs.Ytbcmhnaiabifjaa
set_option linter.unusedVariables false
open Go.RowKit
open Go.Lib (hid)
theorem mem_of_perm {s cs : List C7} (h : s.Perm cs) : ∀ x, x ∈ s ↔ x ∈ cs := fun x => h.mem_iff
theorem Own.growsN {w W0 w1 : World} {B n : Nat} {v v' : Value} {cs : List C7} {c : C7} (hB : Below B w W0) (hsz : B ≤ W0.heap.size) (hlt : ∀ k, v.ownBlock = some k → B ≤ k)
    (hown' : w1.ownsRow B 47 7 v' n (flat cs ++ c.cells)) (hn : n = cs.length + 1) (hg : W0.grownBy w1 v.ownBlock) : Own w1 B v' (cs ++ [c]) ∧ Below B w w1 :=
  Own.grows hB hsz hlt (hn ▸ hown') hg
end Go.Proofs.Ytbcmhnaiabifjaa

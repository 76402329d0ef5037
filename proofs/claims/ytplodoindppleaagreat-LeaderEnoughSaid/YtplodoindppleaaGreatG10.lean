import Derived.Test.YtplodoindppleaaGreatG02
import Derived.Deep.Light
import Derived.Test.YtplodoindppleaaGreatShelf
import Derived.Lib.SliceRun
import Derived.Deep.QuietTactic
import Derived.BigQuiet
namespace Go.Proofs.YtplodoindppleaaGreat
open Go.RowKit
open Go.Lib (hid)
end Go.Proofs.YtplodoindppleaaGreat
namespace Go.Proofs.YtplodoindppleaaGreat
open Go.RowKit
open Go.Lib (hid)
end Go.Proofs.YtplodoindppleaaGreat
namespace Go.Proofs.YtplodoindppleaaGreat
set_option linter.unusedVariables false
open Go.RowKit
open Go.Lib (hid)
open Go.Sort (SWO PermIn SortedIn grow HoldsK alloc_eq_grow grow_grow heap_grow_old)
def byI (x y : C7) : Int := Go.Lib.compareInt x.i y.i
theorem ltI (x y : C7) : ltOf byI x y = decide (x.i < y.i) := by
 unfold ltOf byI Go.Lib.compareInt
 by_cases h1 : x.i < y.i
 · simp [h1]
 · by_cases h2 : y.i < x.i <;> simp [h1, h2]
theorem swoI : SWO (ltOf byI) where
 irrefl x := by rw [ltI]; simp
 trans x y z h1 h2 := by rw [ltI] at *; simp at *; omega
 ntrans x y z h1 h2 := by rw [ltI] at *; simp at *; omega
set_option maxHeartbeats 1000000 in
theorem cCmp (x y : C7) (W : World) : Calls Tryz.prog 138 #[.agg x.cells.toArray, .agg y.cells.toArray] W fun e w' => e = .returned (.int .i64 (byI x y)) ∧ ∃ q os', w' = grow (W.drewN q) os' := by
 have hcon := fun W' => Tryz.cmp_Compare_int x.i y.i W'
 unfold byI
 generalize Go.Lib.compareInt x.i y.i = r at hcon ⊢
 go_enter Tryz.func138, Tryz.ntmps138
 go_wp2_with (go_at_call 139; refine (hcon _).mono ?_; rintro e w' ⟨rfl, rfl⟩)
 go_ret
 exact ⟨rfl, 0, _, by rw [alloc_eq_grow, alloc_eq_grow, grow_grow]; rfl⟩
theorem cmpLays (blk off size : Nat) (w : World) : CmpLays Tryz.prog 138 #[] C7.cells 7 byI blk off size w := fun _ _ _ _ x y => cCmp x y _
theorem grownBy_sortK {w : World} {g m : Nat} {d : Array C7} {os : Array Obj} : w.grownBy (sortWorldK C7.cells 7 w g 0 m d os) (some g) := by
 unfold sortWorldK Go.Sort.putRowK
 refine ⟨rfl, rfl, rfl, by simp, fun k hk hne => ?_⟩
 rw [heap_grow_old _ _ (by simpa using hk)]
 have : g ≠ k := fun e => hne (by rw [e])
 simp [Go.Sort.putRow, Go.Sort.mapBlock, Go.Sort.ahead, Array.getElem?_modify, this]
theorem Own.holds {w : World} {B g cap : Nat} {cs : List C7} (h : Own w B (.slice (some ⟨g, 0, none⟩) cs.length cap) cs) : HoldsK C7.cells 7 w g 0 cs.toArray := by
 intro t ht
 rw [Go.Sort.size_flatK] at ht
 have ht' : t < cs.length * 7 := by simpa using ht
 refine ⟨?_, by rw [Nat.zero_add]; exact h.frozenAt t⟩
 rw [Nat.zero_add, h.cellAt t ht', Go.Sort.get_flatK _ _ _ _ ht]
 have hj : t / 7 < cs.length := by omega
 have hc : cs[t / 7]? = some cs[t / 7] := List.getElem?_eq_getElem hj
 have h7 : t % 7 < cs[t / 7].cells.length := Nat.mod_lt _ (by decide)
 have hv : cs[t / 7].cells[t % 7]? = some (cs[t / 7].cells[t % 7]) := List.getElem?_eq_getElem h7
 have := flat_at cs _ _ hc _ _ hv
 rw [show t / 7 * 7 + t % 7 = t by omega] at this
 rw [this]
 have e1 : cs.toArray[t / 7]! = cs[t / 7] := by simp [hj]
 rw [e1, getElem!_pos cs[t / 7].cells (t % 7) h7]
 rfl
theorem cms_of_holds {w : World} {g : Nat} {d : Array C7} (h : HoldsK C7.cells 7 w g 0 d) : CmsAt w g 0 d.toList := by
 intro j c hc f v hv
 have hj := (List.getElem?_eq_some_iff.1 hc).1
 have hf := (List.getElem?_eq_some_iff.1 hv).1
 have hj' : j < d.size := by simpa using hj
 have := (HoldsK.cell h hj' (show f < 7 from hf)).1
 rw [Nat.add_assoc] at this
 rw [this]
 have e1 : d[j]! = c := by
  rw [getElem!_pos d j hj']
  obtain ⟨_, e⟩ := List.getElem?_eq_some_iff.1 hc
  simpa using e
 rw [e1, getElem!_pos c.cells f hf]
 obtain ⟨_, e⟩ := List.getElem?_eq_some_iff.1 hv
 rw [e]
theorem perm_of {d d' : Array C7} (h : PermIn 0 d.size d d') : d'.toList.Perm d.toList := by
 obtain ⟨h1, _, h3⟩ := h
 rw [← h1] at h3
 have e1 : d'.extract 0 d'.size = d' := by simp
 have e2 : d.extract 0 d'.size = d := by rw [h1]; simp
 rwa [e1, e2] at h3
theorem sorted_of {d : Array C7} (h : SortedIn (ltOf byI) 0 d.size d) : Sorted7 d.toList := by
 refine List.pairwise_iff_getElem.2 fun i j hi hj hij => ?_
 have := h i j (Nat.zero_le _) hij (by simpa using hj)
 have hi' : i < d.size := by simpa using hi
 have hj' : j < d.size := by simpa using hj
 rw [ltI, getElem!_pos d i hi', getElem!_pos d j hj'] at this
 simp at this ⊢
 exact this
set_option maxHeartbeats 1000000 in
set_option maxRecDepth 100000 in
theorem cClone_nil (w : World) : Calls Tryz.prog 54 #[.slice none 0 0] w fun e w' => e = .returned (.slice none 0 0) ∧ w = w' := by
 have q22 : ∀ (w : World) (a : Option Addr) (n c n' c' : Nat), (binOp .eql 32 (.slice a n c) (.slice none n' c')).run Tryz.prog w = .ok (.bool a.isNone) w := fun w a n c n' c' => Go.Lib.run_eql_slice_nil w _ _ a n c n' c' Tryz.underlying32
 go_enter Tryz.func54, Tryz.ntmps54
 go_wp2
 go_ret
 exact ⟨rfl, rfl⟩
set_option maxHeartbeats 1000000 in
set_option maxRecDepth 100000 in
theorem cClone (ad : Addr) (cap : Nat) (cs : List C7) (w : World) (hc : ∀ (j : Nat) u, (flat cs)[j]? = some u → w.cell? (ad.add j) = some u) (hl : cs.length ≤ 100000) :
 Calls Tryz.prog 54 #[.slice (some ad) cs.length cap] w fun e w' => ∃ g cap', e = .returned (.slice (some ⟨g, 0, none⟩) cs.length cap') ∧ Own w' w.heap.size (.slice (some ⟨g, 0, none⟩) cs.length cap') cs ∧ Below w.heap.size w w' := by
 have q22 : ∀ (w : World) (a : Option Addr) (n c n' c' : Nat), (binOp .eql 32 (.slice a n c) (.slice none n' c')).run Tryz.prog w = .ok (.bool a.isNone) w := fun w a n c n' c' => Go.Lib.run_eql_slice_nil w _ _ a n c n' c' Tryz.underlying32
 obtain ⟨i0, hi, hz0, hz1, hz2⟩ := info_parts Tryz.infoC
 have HC := hid hc
 clear hc
 go_enter Tryz.func54, Tryz.ntmps54
 go_wp2_with (at_builtin; refine wpList_append_own _ rfl _ _ 32 rfl w.heap.size 42 i0 _ 7 56 Tryz.underlying32 hi hz0 hz1 hz2 rfl (by decide) _ _ _ rfl (World.ownsRow_made w #[] 0 (Nat.le_refl _) (Nat.zero_le _) (by simp)) ad cs.length cap (flat cs) rfl (flat_len cs) ?qc2 (flat_one cs) ?qc4 ?qc5 ?qc6 ?_)
 case qc2 =>
  intro j u hj
  exact Go.Lib.cell?_alloc_some _ (HC.out j u hj)
 case qc4 => unfold maxLen; omega
 case qc5 => omega
 case qc6 => simp
 intro v' w1 hown hgrow hnil
 have hown' : Own w1 w.heap.size v' cs := by
  first | exact hown | (rw [Nat.zero_add, List.nil_append] at hown; exact hown)
 have hB : Below w.heap.size w w1 := ((Below.refl _ w).alloc (Nat.le_refl _) _).grown hgrow (by simp) (by intro k hk; simp [Value.ownBlock] at hk; omega)
 have hne : v' ≠ .slice none 0 0 := hnil
 rcases hown'.shape with ⟨e, _⟩ | ⟨g, cap', rfl, _⟩
 · exact absurd e hne
 have HO := hid (And.intro hown' hB)
 clear hown hown' hgrow hnil hB hne
 go_wp2
 go_ret
 exact ⟨_, _, rfl, HO.out.1, HO.out.2⟩
set_option maxHeartbeats 1000000 in
set_option maxRecDepth 100000 in
theorem cByNames {v : Value} {cs : List C7} {w : World} (h : Sl w v cs) (hl : cs.length ≤ 100000) : Calls Tryz.prog 134 #[v] w fun e w' => ∃ r s, e = .returned r ∧ Sl w' r s ∧ s.Perm cs ∧ Sorted7 s ∧ Below w.heap.size w w' := by
 rcases h.src with ⟨rfl, rfl⟩ | ⟨ad, cap, rfl, hc, _⟩
 · have hC := cClone_nil w
   have hS := fun fv => AnyF.slices_SortFunc_none Tryz.sortC none 0 fv w
   change ∀ fv, Calls Tryz.prog 137 _ _ _ at hS
   have H := hid h
   clear h
   go_enter Tryz.func134, Tryz.ntmps134
   go_wp2_with (first | (go_at_call 54; refine hC.mono ?_; rintro e w' ⟨rfl, rfl⟩) | (go_at_call 137; refine (hS _).mono ?_; rintro e w' ⟨rfl, rfl⟩))
   go_ret
   exact ⟨_, [], rfl, H.out, List.Perm.refl _, List.Pairwise.nil, Below.refl _ _⟩
 · have hC := cClone ad cap cs w hc hl
   have H := hid h
   clear h hc
   go_enter Tryz.func134, Tryz.ntmps134
   go_wp2_with (go_at_call 54; refine hC.mono ?_; rintro e w1 ⟨g, cap', rfl, hown, hB⟩)
   have hlt := hown.lt g rfl
   have eg : ∀ args w, (callFunc 138 args).run Tryz.prog w = .ok (.enter 138 args) w := enters_of Tryz.func138 (by kernel_rfl) rfl
   have hS := AnyQ.slices_SortFunc Tryz.sortC 7 Tryz.isAgg42 Tryz.sizeOf42 C7.cells (fun _ => rfl) (fun x v hv => by simp at hv; rcases hv with rfl | rfl | rfl | rfl | rfl | rfl | rfl <;> rfl) byI swoI 138 #[] g 0 cap' cs.toArray w1 eg (cmpLays g 0 _ w1) hown.holds hlt.2 (by simp; omega)
   change Calls Tryz.prog 137 #[.slice (some ⟨g, 0, none⟩) cs.length cap', .func (.func 138) #[] #[]] w1 _ at hS
   have HH := hid (And.intro hown hB)
   have HL := hid hlt
   clear hown hB hlt eg
   go_wp2_with (go_at_call 137; refine hS.mono ?_; rintro e w' ⟨rfl, d', n, os, hp, hs, rfl⟩)
   go_ret
   have hsz : d'.size = cs.length := by have := hp.1; simpa using this
   have hlen : d'.toList.length = cs.length := by simpa using hsz
   have hg : Below w.heap.size w (sortWorldK C7.cells 7 w1 g 0 n d' os) := HH.out.2.grown grownBy_sortK HH.out.2.size (fun k hk => by cases hk; exact HL.out.1)
   refine ⟨_, d'.toList, rfl, ⟨g, 0, cap', some ⟨g, 0, none⟩, by rw [hlen]; rfl, (fun e => by cases e), fun _ => rfl, ?_, fun _ => ?_⟩, by have := perm_of hp; simpa using this, sorted_of (by rw [hp.1]; exact hs), hg⟩
   · exact cms_of_holds (holdsK_sortWorldK_c C7.cells 7 w1 g 0 cs.toArray d' n os HH.out.1.holds HL.out.2 (by rw [hsz]; simp))
   · have := (grownBy_sortK (w := w1) (g := g) (m := n) (d := d') (os := os)).size
     have := HL.out.2
     omega
end Go.Proofs.YtplodoindppleaaGreat
namespace Go.Proofs.YtplodoindppleaaGreat
set_option linter.unusedVariables false
open Go.RowKit
open Go.Lib (hid)
def PutAt (l : List C7) (c : C7) (k : Nat) (done : Bool) (out : List C7) : Prop :=
 (done = false ∧ out = l.take k ∧ (∀ x ∈ l.take k, x.i ≤ c.i)) ∨
 (done = true ∧ ∃ m, m < k ∧ (∀ x ∈ l.take m, x.i ≤ c.i) ∧ (∃ y, l[m]? = some y ∧ c.i < y.i) ∧ out = l.take m ++ c :: (l.take k).drop m)
theorem PutAt.start (l : List C7) (c : C7) : PutAt l c 0 false [] := .inl ⟨rfl, by simp, by simp⟩
theorem PutAt.stay {l : List C7} {c x : C7} {k : Nat} {out : List C7} (h : PutAt l c k false out) (hx : l[k]? = some x) (hle : x.i ≤ c.i) : PutAt l c (k + 1) false (out ++ [x]) := by
 rcases h with ⟨_, rfl, h3⟩ | ⟨h, _⟩
 · refine .inl ⟨rfl, (take_snoc hx).symm, fun y hy => ?_⟩
   rw [take_snoc hx] at hy
   rcases List.mem_append.1 hy with hy | hy
   · exact h3 y hy
   · rw [List.mem_singleton] at hy; subst hy; exact hle
 · cases h
theorem PutAt.put {l : List C7} {c x : C7} {k : Nat} {out : List C7} (h : PutAt l c k false out) (hx : l[k]? = some x) (hgt : c.i < x.i) : PutAt l c (k + 1) true (out ++ [c] ++ [x]) := by
 have hk := (List.getElem?_eq_some_iff.1 hx).1
 rcases h with ⟨_, rfl, h3⟩ | ⟨h, _⟩
 · refine .inr ⟨rfl, k, by omega, h3, ⟨x, hx, hgt⟩, ?_⟩
   rw [take_snoc hx, List.drop_append_of_le_length (by simp; omega), List.drop_of_length_le (by simp; omega)]
   simp
 · cases h
theorem PutAt.len {l : List C7} {c : C7} {k : Nat} {d : Bool} {out : List C7} (h : PutAt l c k d out) : out.length ≤ k + 1 := by
 rcases h with ⟨_, rfl, _⟩ | ⟨_, m, hm, _, _, rfl⟩
 · simp; omega
 · simp; omega
theorem takeWhile_all {l : List C7} {n : Int} (h : ∀ x ∈ l, x.i ≤ n) : l.takeWhile (fun x => decide (x.i ≤ n)) = l ∧ l.dropWhile (fun x => decide (x.i ≤ n)) = [] := by
 induction l with
 | nil => simp
 | cons a l ih =>
  have := ih fun x hx => h x (List.mem_cons_of_mem _ hx)
  have ha := h a (List.mem_cons_self ..)
  simp [ha, this.1, this.2]
theorem takeWhile_upto {n : Int} : ∀ (m : Nat) (l : List C7), (∀ x ∈ l.take m, x.i ≤ n) → (∃ y, l[m]? = some y ∧ n < y.i) → l.takeWhile (fun x => decide (x.i ≤ n)) = l.take m ∧ l.dropWhile (fun x => decide (x.i ≤ n)) = l.drop m
 | 0, [], _, ⟨y, hy, _⟩ => by simp at hy
 | 0, a :: l, _, ⟨y, hy, hn⟩ => by
  simp at hy; subst hy
  have : ¬ a.i ≤ n := by omega
  simp [this]
 | m + 1, [], _, ⟨y, hy, _⟩ => by simp at hy
 | m + 1, a :: l, h, ⟨y, hy, hn⟩ => by
  have ha := h a (by simp)
  have := takeWhile_upto m l (fun x hx => h x (by simp; exact .inr hx)) ⟨y, by simpa using hy, hn⟩
  simp [ha, this.1, this.2]
theorem PutAt.all {l : List C7} {c : C7} {out : List C7} (hn : placeI l c.i = none) (h : PutAt l c l.length true out) : putL l c = out := by
 unfold putL; rw [hn, if_neg (by simp)]
 rcases h with ⟨h, _⟩ | ⟨_, m, hm, h3, h4, rfl⟩
 · cases h
 · rw [(takeWhile_upto m l h3 h4).1, (takeWhile_upto m l h3 h4).2, List.take_length]
theorem PutAt.none {l : List C7} {c : C7} {out : List C7} (hn : placeI l c.i = none) (h : PutAt l c l.length false out) : putL l c = out ++ [c] := by
 unfold putL; rw [hn, if_neg (by simp)]
 rcases h with ⟨_, rfl, h3⟩ | ⟨h, _⟩
 · rw [List.take_length] at h3
   rw [(takeWhile_all h3).1, (takeWhile_all h3).2, List.take_length]
 · cases h
theorem own_drewN {w : World} {base : Nat} {e : TypeId} {size : Nat} {v : Value} {n : Nat} {xs : List Value} (h : w.ownsRow base e size v n xs) (q : Nat) : (w.drewN q).ownsRow base e size v n xs := h
theorem own_mono {w : World} {B B' : Nat} {e : TypeId} {size : Nat} {v : Value} {n : Nat} {xs : List Value} (h : w.ownsRow B e size v n xs) (hB : B' ≤ B) : w.ownsRow B' e size v n xs := by
 refine ⟨h.1, ?_⟩
 rcases h.2 with h2 | ⟨g, cap, cur, rfl, hb, r⟩
 · exact .inl h2
 · exact .inr ⟨g, cap, cur, rfl, Nat.le_trans hB hb, r⟩
end Go.Proofs.YtplodoindppleaaGreat
namespace Go.Proofs.YtplodoindppleaaGreat
set_option linter.unusedVariables false
open Go.RowKit
open Go.Lib (hid)
theorem Sl.drewN {w : World} {v : Value} {cs : List C7} (h : Sl w v cs) (q : Nat) : Sl (w.drewN q) v cs := h
abbrev slE (r : Value) (n : Int) : Value := .tuple #[r, .int .i64 n]
theorem Own.parts {w : World} {B : Nat} {v : Value} {cs : List C7} (h : Own w B v cs) (h0 : 0 < cs.length) : ∃ g cap n, v = .slice (some ⟨g, 0, none⟩) n cap ∧ n = cs.length ∧ B ≤ g ∧ g < w.heap.size ∧
 ∀ j c, cs[j]? = some c → w.cell? ⟨g, j * 7, none⟩ = some (.int .i64 c.i) ∧ w.cell? ⟨g, j * 7 + 1, none⟩ = some (.int .i64 c.k) ∧ w.cell? ⟨g, j * 7 + 2, none⟩ = some (.int .i64 c.s) ∧ w.cell? ⟨g, j * 7 + 3, none⟩ = some (.int .i64 c.t) ∧
 w.cell? ⟨g, j * 7 + 4, none⟩ = some (.int .i64 c.d) ∧ w.cell? ⟨g, j * 7 + 5, none⟩ = some (.int .i64 c.p) ∧ w.cell? ⟨g, j * 7 + 6, none⟩ = some (.int .i64 c.q) := by
 rcases h.shape with ⟨_, rfl⟩ | ⟨g, cap, rfl, hb, hl, hc⟩
 · simp at h0
 · refine ⟨g, cap, _, rfl, rfl, hb, hl, fun j c hj => ?_⟩
   have := hc.at hj
   simp only [Nat.zero_add] at this
   exact this
end Go.Proofs.YtplodoindppleaaGreat
namespace Go.Proofs.YtplodoindppleaaGreat
set_option linter.unusedVariables false
open Go.RowKit
open Go.Lib (hid)
theorem mem_of_perm {s cs : List C7} (h : s.Perm cs) : ∀ x, x ∈ s ↔ x ∈ cs := fun x => h.mem_iff
theorem Own.growsN {w W0 w1 : World} {B n : Nat} {v v' : Value} {cs : List C7} {c : C7} (hB : Below B w W0) (hsz : B ≤ W0.heap.size) (hlt : ∀ k, v.ownBlock = some k → B ≤ k)
 (hown' : w1.ownsRow B 42 7 v' n (flat cs ++ c.cells)) (hn : n = cs.length + 1) (hg : W0.grownBy w1 v.ownBlock) : Own w1 B v' (cs ++ [c]) ∧ Below B w w1 :=
 Own.grows hB hsz hlt (hn ▸ hown') hg
end Go.Proofs.YtplodoindppleaaGreat
namespace Go.Proofs.YtplodoindppleaaGreat
set_option linter.unusedVariables false
open Go.RowKit
open Go.Lib (hid)
def ofE2 (cs : List C7) : Int := if ofE cs = 0 ∧ 1024 < (ofL cs).length then 4 else ofE cs
def ofL2 (cs : List C7) : List C7 := if ofE cs = 0 ∧ 1024 < (ofL cs).length then [] else ofL cs
theorem of2_bad {cs : List C7} (h : cs.all C7.ok = false) : ofE2 cs = 1 ∧ ofL2 cs = [] := by
 obtain ⟨h1, h2⟩ := of_bad h
 unfold ofE2 ofL2; simp [h1, h2]
theorem of2_clash {cs : List C7} (h : cs.all C7.ok = true) (hc : clashB cs = true) : ofE2 cs = 6 ∧ ofL2 cs = [] := by
 obtain ⟨h1, h2⟩ := of_clash h hc
 unfold ofE2 ofL2; simp [h1, h2]
theorem of2_fine {cs set : List C7} (h : ofE cs = 0 ∧ ofL cs = set) (hl : set.length ≤ 1024) : ofE2 cs = 0 ∧ ofL2 cs = set := by
 unfold ofE2 ofL2; rw [h.1, h.2]; simp; omega
theorem of2_full {cs set : List C7} (h : ofE cs = 0 ∧ ofL cs = set) (hl : ¬ set.length ≤ 1024) : ofE2 cs = 4 ∧ ofL2 cs = [] := by
 unfold ofE2 ofL2; rw [h.1, h.2]; simp; omega
set_option maxHeartbeats 1600000 in
set_option maxRecDepth 100000 in
theorem cOf2 {v : Value} {cs : List C7} {w : World} (h : Sl w v cs) (hl : cs.length ≤ 50000) : Calls Tryz.prog 131 #[v] w fun e w' => ∃ r, e = .returned (slE r (ofE2 cs)) ∧ Own w' w.heap.size r (ofL2 cs) ∧ Below w.heap.size w w' := by
 have hR := cRight' h (by omega)
 have hN := fun W (hB : Below w.heap.size w W) => cByNames (h.on hB) (by omega)
 clear h
 rcases hok : cs.all C7.ok with _ | _
 · rw [hok] at hR
   have HE := hid (of2_bad hok)
   clear hok hN
   go_enter Tryz.func131, Tryz.ntmps131
   go_wp2_with (go_at_call 62; refine hR.mono ?_; rintro e w' ⟨rfl, hB⟩)
   go_ret2
   refine ⟨.slice none 0 0, ?_, ?_, hB⟩
   · rw [HE.out.1]; rfl
   · rw [HE.out.2]; exact Own.nil _ _
 · rw [hok] at hR
   have HK := hid hok
   obtain ⟨i0, hi, hz0, hz1, hz2⟩ := info_parts Tryz.infoC
   clear hok
   go_enter Tryz.func131, Tryz.ntmps131
   go_wp2_with (go_at_call 62; refine hR.mono ?_; rintro e w0 ⟨rfl, hB0⟩)
   go_wp2_with (go_at_call 134; refine (hN _ hB0).mono ?_; rintro e w1 ⟨r, s, rfl, hs, hpm, hst, hB1⟩; obtain ⟨b, o, cap, a, rfl, ha, hc, hb⟩ := hs.open; clear hs)
   have HBB := hid (hB0.trans (hB1.mono hB0.size))
   have HP := hid (And.intro hpm hst)
   have hsl : s.length ≤ 50000 := by rw [hpm.length_eq]; exact hl
   clear hN hR hB0 hB1 hpm hst
   go_loopw [4, 14] (fun u i wr => ∃ (k : Nat) (set : List C7), k ≤ s.length ∧ i = .int .i64 k ∧ Hid (Upto s k set) ∧ Own wr w1.heap.size u set ∧ Below w1.heap.size w1 wr) (fun _ i _ => s.length - (intOf i).toNat)
   case atStart => exact ⟨0, [], Nat.zero_le _, rfl, Upto.start s, Own.nil _ _, Below.refl _ _⟩
   case round =>
    obtain ⟨k, set, hk, rfl, hat, hown, hB⟩ := hrel
    have hsz := hB.size
    have hol := hat.out.len
    have HB := hid hB
    have HO := hid hown
    by_cases hlt : k < s.length
    · obtain rfl := ha (by omega)
      obtain ⟨c, hcc⟩ : ∃ c, s[k]? = some c := ⟨s[k], List.getElem?_eq_getElem hlt⟩
      have hbw := hb (by omega)
      obtain ⟨c0, c1, c2, c3, c4, c5, c6⟩ := (hc.on hB hbw).at hcc
      have HC := hid hcc
      clear hcc hB
      by_cases h0 : 0 < set.length
      · obtain ⟨g, cap', n, rfl, hn, hgb, hgl, hcells⟩ := hown.parts h0
        obtain ⟨m, hnm, hmn⟩ : ∃ m : Nat, (n : Int) - 1 = m ∧ m < n := ⟨n - 1, by omega, by omega⟩
        obtain ⟨d, hd⟩ : ∃ d, set[m]? = some d := ⟨set[m], List.getElem?_eq_getElem (by omega)⟩
        obtain ⟨d0, d1, d2, d3, d4, d5, d6⟩ := hcells m d hd
        have hmk : n ≤ k := by omega
        have hm0 : decide ((m : Int) < 0) = false := decide_eq_false (by omega)
        have hd' : set[set.length - 1]? = some d := by rw [← hn, show n - 1 = m by omega]; exact hd
        unfold Own at hown
        rw [← hn] at hown
        have HD := hid (And.intro hd' hn)
        clear hd hd' hn hcells
        by_cases hi' : d.i = c.i
        · rcases hs' : d.same c with _ | _
          · have hE := neqC hs'
            have hG := fun op p q W => guardC op p q d c W
            simp only [C7.v, cmV, hi'] at hE hG
            have HE := hid (of2_clash HK.out ((clash_perm (mem_of_perm HP.out.1)) ▸ hat.out.no HC.out HD.out.1 hi' hs'))
            clear hs' hown
            go_wp2
            go_quiet (fail)
            go_wp2
            obtain ⟨Wq, hWq⟩ : ∃ Wq, Wq = (wr.alloc (.cells #[.int .i64 c.i, .int .i64 c.k, .int .i64 c.s, .int .i64 c.t, .int .i64 c.d, .int .i64 c.p, .int .i64 c.q] 42)).drewN nq := ⟨_, rfl⟩
            rw [← hWq]
            have hWD : Below w1.heap.size w1 Wq := by rw [hWq]; exact Below.drewN' (HB.out.alloc hsz _) _
            have hWO : Own Wq w1.heap.size (.slice (some ⟨g, 0, none⟩) n cap') set := by rw [hWq]; exact own_drewN (HO.out.alloc _) _
            have q0 : Wq.cell? ⟨g, m * 7, none⟩ = some (.int .i64 d.i) := by rw [hWq]; exact (World.cell?_alloc_past _ _ _ hgl).trans d0
            have r0 : Wq.cell? ⟨wr.heap.size, 0, none⟩ = some (.int .i64 c.i) := by rw [hWq]; exact World.cell?_alloc_new ..
            have q1 : Wq.cell? ⟨g, m * 7 + 1, none⟩ = some (.int .i64 d.k) := by rw [hWq]; exact (World.cell?_alloc_past _ _ _ hgl).trans d1
            have r1 : Wq.cell? ⟨wr.heap.size, 1, none⟩ = some (.int .i64 c.k) := by rw [hWq]; exact World.cell?_alloc_new ..
            have q2 : Wq.cell? ⟨g, m * 7 + 2, none⟩ = some (.int .i64 d.s) := by rw [hWq]; exact (World.cell?_alloc_past _ _ _ hgl).trans d2
            have r2 : Wq.cell? ⟨wr.heap.size, 2, none⟩ = some (.int .i64 c.s) := by rw [hWq]; exact World.cell?_alloc_new ..
            have q3 : Wq.cell? ⟨g, m * 7 + 3, none⟩ = some (.int .i64 d.t) := by rw [hWq]; exact (World.cell?_alloc_past _ _ _ hgl).trans d3
            have r3 : Wq.cell? ⟨wr.heap.size, 3, none⟩ = some (.int .i64 c.t) := by rw [hWq]; exact World.cell?_alloc_new ..
            have q4 : Wq.cell? ⟨g, m * 7 + 4, none⟩ = some (.int .i64 d.d) := by rw [hWq]; exact (World.cell?_alloc_past _ _ _ hgl).trans d4
            have r4 : Wq.cell? ⟨wr.heap.size, 4, none⟩ = some (.int .i64 c.d) := by rw [hWq]; exact World.cell?_alloc_new ..
            have q5 : Wq.cell? ⟨g, m * 7 + 5, none⟩ = some (.int .i64 d.p) := by rw [hWq]; exact (World.cell?_alloc_past _ _ _ hgl).trans d5
            have r5 : Wq.cell? ⟨wr.heap.size, 5, none⟩ = some (.int .i64 c.p) := by rw [hWq]; exact World.cell?_alloc_new ..
            have q6 : Wq.cell? ⟨g, m * 7 + 6, none⟩ = some (.int .i64 d.q) := by rw [hWq]; exact (World.cell?_alloc_past _ _ _ hgl).trans d6
            have r6 : Wq.cell? ⟨wr.heap.size, 6, none⟩ = some (.int .i64 c.q) := by rw [hWq]; exact World.cell?_alloc_new ..
            have HW := hid (And.intro hWD hWO)
            clear hWq hWD hWO d0 d1 d2 d3 d4 d5 d6
            go_quiet (fail)
            go_wp2
            go_ret2
            refine ⟨.slice none 0 0, ?_, ?_, ?_⟩
            · rw [HE.out.1]; rfl
            · rw [HE.out.2]; exact Own.nil _ _
            · exact HBB.out.trans (Below.mono (Below.drewN' HW.out.1 _) HBB.out.size)
          · have hE := neqC hs'
            have hG := fun op p q W => guardC op p q d c W
            simp only [C7.v, cmV, hi'] at hE hG
            have HU := hid (hat.out.stay HC.out (by rw [HD.out.1, C7.same_iff.1 hs']))
            clear hs' hown
            go_wp2
            go_quiet (fail)
            go_wp2
            obtain ⟨Wq, hWq⟩ : ∃ Wq, Wq = (wr.alloc (.cells #[.int .i64 c.i, .int .i64 c.k, .int .i64 c.s, .int .i64 c.t, .int .i64 c.d, .int .i64 c.p, .int .i64 c.q] 42)).drewN nq := ⟨_, rfl⟩
            rw [← hWq]
            have hWD : Below w1.heap.size w1 Wq := by rw [hWq]; exact Below.drewN' (HB.out.alloc hsz _) _
            have hWO : Own Wq w1.heap.size (.slice (some ⟨g, 0, none⟩) n cap') set := by rw [hWq]; exact own_drewN (HO.out.alloc _) _
            have q0 : Wq.cell? ⟨g, m * 7, none⟩ = some (.int .i64 d.i) := by rw [hWq]; exact (World.cell?_alloc_past _ _ _ hgl).trans d0
            have r0 : Wq.cell? ⟨wr.heap.size, 0, none⟩ = some (.int .i64 c.i) := by rw [hWq]; exact World.cell?_alloc_new ..
            have q1 : Wq.cell? ⟨g, m * 7 + 1, none⟩ = some (.int .i64 d.k) := by rw [hWq]; exact (World.cell?_alloc_past _ _ _ hgl).trans d1
            have r1 : Wq.cell? ⟨wr.heap.size, 1, none⟩ = some (.int .i64 c.k) := by rw [hWq]; exact World.cell?_alloc_new ..
            have q2 : Wq.cell? ⟨g, m * 7 + 2, none⟩ = some (.int .i64 d.s) := by rw [hWq]; exact (World.cell?_alloc_past _ _ _ hgl).trans d2
            have r2 : Wq.cell? ⟨wr.heap.size, 2, none⟩ = some (.int .i64 c.s) := by rw [hWq]; exact World.cell?_alloc_new ..
            have q3 : Wq.cell? ⟨g, m * 7 + 3, none⟩ = some (.int .i64 d.t) := by rw [hWq]; exact (World.cell?_alloc_past _ _ _ hgl).trans d3
            have r3 : Wq.cell? ⟨wr.heap.size, 3, none⟩ = some (.int .i64 c.t) := by rw [hWq]; exact World.cell?_alloc_new ..
            have q4 : Wq.cell? ⟨g, m * 7 + 4, none⟩ = some (.int .i64 d.d) := by rw [hWq]; exact (World.cell?_alloc_past _ _ _ hgl).trans d4
            have r4 : Wq.cell? ⟨wr.heap.size, 4, none⟩ = some (.int .i64 c.d) := by rw [hWq]; exact World.cell?_alloc_new ..
            have q5 : Wq.cell? ⟨g, m * 7 + 5, none⟩ = some (.int .i64 d.p) := by rw [hWq]; exact (World.cell?_alloc_past _ _ _ hgl).trans d5
            have r5 : Wq.cell? ⟨wr.heap.size, 5, none⟩ = some (.int .i64 c.p) := by rw [hWq]; exact World.cell?_alloc_new ..
            have q6 : Wq.cell? ⟨g, m * 7 + 6, none⟩ = some (.int .i64 d.q) := by rw [hWq]; exact (World.cell?_alloc_past _ _ _ hgl).trans d6
            have r6 : Wq.cell? ⟨wr.heap.size, 6, none⟩ = some (.int .i64 c.q) := by rw [hWq]; exact World.cell?_alloc_new ..
            have HW := hid (And.intro hWD hWO)
            clear hWq hWD hWO d0 d1 d2 d3 d4 d5 d6
            go_quiet (fail)
            go_wp2
            go_roundw
            case rel => exact ⟨k + 1, set, by omega, by go_num, HU, own_drewN HW.out.2 _, Below.drewN' HW.out.1 _⟩
            case measure => simp [intOf]; omega
        · have HU := hid (hat.out.add HP.out.2 HC.out (fun e he => by rw [HD.out.1] at he; cases he; exact hi'))
          go_wp2
          go_quiet (fail)
          go_wp2_with (at_builtin; refine wpList_append_own _ rfl _ _ 32 rfl w1.heap.size 42 i0 _ 7 56 Tryz.underlying32 hi hz0 hz1 hz2 rfl (by decide) _ _ _ rfl ((own_drewN (hown.alloc _) _).alloc _) ⟨wr.heap.size + 1, 0, none⟩ 1 1 c.cells rfl rfl ?a1 ?a2 ?a3 ?a4 ?a5 ?_)
          case a1 => exact new_cell (by first | rfl | simp)
          case a2 => exact cells_one c
          case a3 => unfold maxLen; omega
          case a4 => omega
          case a5 => first | omega | (simp; omega)
          intro v' w2 hown' hgrow _
          have R := Own.growsN ((Below.drewN' (HB.out.alloc hsz _) nq).alloc (by simp; omega) _) (by simp; omega) (fun k hk => (HO.out.lt k hk).1) hown' (by have := HD.out.2; omega) hgrow
          clear hown' hgrow hown
          go_wp2
          go_roundw
          case rel => exact ⟨k + 1, _, by omega, by go_num, HU, R.1, R.2⟩
          case measure => simp [intOf]; omega
      · have HU := hid (hat.out.add HP.out.2 HC.out (fun e he => by rw [List.length_eq_zero_iff.1 (show set.length = 0 by omega)] at he; simp at he))
        obtain ⟨g, cap', n, rfl, hn⟩ := hown.asSlice
        obtain rfl : n = 0 := by omega
        unfold Own at hown
        rw [← hn] at hown
        have HD := hid hn
        clear hn
        go_wp2
        go_quiet (fail)
        go_wp2_with (at_builtin; refine wpList_append_own _ rfl _ _ 32 rfl w1.heap.size 42 i0 _ 7 56 Tryz.underlying32 hi hz0 hz1 hz2 rfl (by decide) _ _ _ rfl ((own_drewN (hown.alloc _) _).alloc _) ⟨wr.heap.size + 1, 0, none⟩ 1 1 c.cells rfl rfl ?b1 ?b2 ?b3 ?b4 ?b5 ?_)
        case b1 => exact new_cell (by first | rfl | simp)
        case b2 => exact cells_one c
        case b3 => unfold maxLen; omega
        case b4 => omega
        case b5 => first | omega | (simp; omega)
        intro v' w2 hown' hgrow _
        have R := Own.growsN ((Below.drewN' (HB.out.alloc hsz _) nq).alloc (by simp; omega) _) (by simp; omega) (fun k hk => (HO.out.lt k hk).1) hown' (by have := HD.out; omega) hgrow
        clear hown' hgrow hown
        go_wp2
        go_roundw
        case rel => exact ⟨k + 1, _, by omega, by go_num, HU, R.1, R.2⟩
        case measure => simp [intOf]; omega
    · have hks : k = s.length := by omega
      have HE0 : Hid (ofE cs = 0 ∧ ofL cs = set) := hid (Upto.fine (hks ▸ hat.out) (mem_of_perm HP.out.1) HK.out)
      obtain ⟨g, cap', n, rfl, hn⟩ := hown.asSlice
      by_cases hn1 : n ≤ 1024
      · have HE := hid (of2_fine HE0.out (by rw [← hn]; exact hn1))
        clear hown hn hks
        go_wp2
        go_ret2
        refine ⟨.slice g n cap', ?_, ?_, HBB.out.trans (hB.mono HBB.out.size)⟩
        · rw [HE.out.1]; rfl
        · rw [HE.out.2]; exact own_mono HO.out HBB.out.size
      · have HE := hid (of2_full HE0.out (by rw [← hn]; exact hn1))
        clear hown hn hks
        go_wp2
        go_ret2
        refine ⟨.slice none 0 0, ?_, ?_, HBB.out.trans (hB.mono HBB.out.size)⟩
        · rw [HE.out.1]; rfl
        · rw [HE.out.2]; exact Own.nil _ _
end Go.Proofs.YtplodoindppleaaGreat

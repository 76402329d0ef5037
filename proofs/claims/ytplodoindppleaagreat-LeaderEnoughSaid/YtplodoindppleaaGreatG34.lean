import Derived.Test.YtplodoindppleaaGreatG02
import Derived.Lib.SmallJoins
import Derived.Carry
import Derived.Handed
import Derived.OpenShut
import Derived.Deep.Slices
import Derived.Deep.Fields
import Derived.ChangeSame
import Derived.ChangeSlices
import Derived.Test.YtplodoindppleaaGreatG03
import Derived.Test.YtplodoindppleaaGreatG04
import Derived.Test.YtplodoindppleaaGreatG08
import Derived.Lib.SliceRun
namespace Go.Proofs.YtplodoindppleaaGreat
set_option linter.unusedVariables false
open Go.Joins Go.ChangeShapes Go.WideShapes Go.ChangeAt Go.RowKit Go.Deep
theorem list_of {n : Nat} {P : Nat → C7 → Prop} (h : ∀ i, i < n → ∃ c, P i c) : ∃ cs : List C7, cs.length = n ∧ ∀ (j : Nat) c, cs[j]? = some c → P j c := by
 induction n with
 | zero => exact ⟨[], rfl, fun j c hc => by simp at hc⟩
 | succ n ih =>
  obtain ⟨cs, hl, hp⟩ := ih fun i hi => h i (by omega)
  obtain ⟨c, hc⟩ := h n (by omega)
  refine ⟨cs ++ [c], by simp [hl], fun j d hd => ?_⟩
  by_cases hj : j < cs.length
  · rw [List.getElem?_append_left hj] at hd; exact hp j d hd
  · have hlen := (List.getElem?_eq_some_iff.1 hd).1
    simp at hlen
    obtain rfl : j = cs.length := by omega
    simp at hd
    subst hd
    rw [hl]; exact hc
theorem add_plain (b o n : Nat) : (⟨b, o, none⟩ : Addr).add n = ⟨b, o + n, none⟩ := by
 by_cases h : n = 0
 · subst h; simp [Addr.add]
 · simp [Addr.add, h]
theorem open_fields {H : Type} {enc : TypeId × Value → H} {P : Program} {w : World} {base : Nat} {spare : Nat → Bool} {held : Bool} {t e : TypeId} {fs : Array Field} {fuel : Nat} {cs : List Value} {x : DataW H × List MemPlace} (ht : P.underlying t = some (.slice e)) (he : P.underlying e = some (.struct fs))
 (hone : oneCellFields P fs = true) (hC : P.cellsOf e = fs.size) (h : DataW.trod enc P w base spare held fuel t cs = some x) :
 cs = [.slice none 0 0] ∨
 ∃ (a : Addr) (len cap : Nat), cs = [.slice (some a) len cap] ∧ len ≤ maxLen ∧
  ∀ i, i < len → ∃ n : Nat, ∀ (j : Nat) (f : Field), fs[j]? = some f → ∃ (v : Value) (y : DataW H × List MemPlace), w.cell? (a.add (i * fs.size + j)) = some v ∧ DataW.trod enc P w base spare held n f.type [v] = some y := by
 rcases open_slice ht h with h0 | ⟨a, len, cap, m, n, D, Pl, hcs, _, hl, hm, hmm, _, hi⟩
 · exact .inl h0.1
 · refine .inr ⟨a, len, cap, hcs, by omega, fun i him => ?_⟩
   obtain ⟨cs', hc, ht'⟩ := hi i (by rw [hmm]; split <;> omega)
   rw [hC] at hc
   obtain ⟨ys, n', _, _, hlen, hyl, hf⟩ := DataW.trod_struct he ht'
   obtain ⟨_, _, hat⟩ := World.cells?_some hc
   refine ⟨n', fun j f hj => ?_⟩
   obtain ⟨ho, hk⟩ := hone_of hone j f hj
   have hjl : j < fs.size := (Array.getElem?_eq_some_iff.1 hj).1
   have hcell := hat j hjl
   have hv : cs'[j]? = some (cs'[j]'(by omega)) := List.getElem?_eq_getElem (by omega)
   have h1 := hf j f hj
   rw [ho, hk] at h1
   have hone' : (cs'.drop j).take 1 = [cs'[j]'(by omega)] := by
    rw [List.drop_eq_getElem_cons (by omega)]
    rfl
   rw [hone'] at h1
   have hys : ys[j]? = some (ys[j]'(by omega)) := List.getElem?_eq_getElem (by omega)
   refine ⟨_, _, ?_, h1.trans hys⟩
   rw [← Go.Deep.add_add, hcell, hv]
theorem own : ownKnob Tryz.prog.godebug = none := by kernel_rfl
theorem laidOut : laidOutB Tryz.prog = true := by kernel_rfl
end Go.Proofs.YtplodoindppleaaGreat
namespace Go.Proofs.YtplodoindppleaaGreat
set_option linter.unusedVariables false
open Go.Joins Go.ChangeShapes Go.WideShapes Go.ChangeAt Go.RowKit Go.Deep
end Go.Proofs.YtplodoindppleaaGreat
namespace Go.Proofs.YtplodoindppleaaGreat
set_option linter.unusedVariables false
open Go.Joins Go.ChangeShapes Go.WideShapes Go.ChangeAt Go.RowKit Go.Deep
set_option maxRecDepth 100000 in
theorem open_cmds_in {H : Type} {enc : TypeId × Value → H} {W : World} {base : Nat} {spare : Nat → Bool} {held : Bool} {fuel : Nat} {v : Value} {x : DataW H × List MemPlace} (hf : DataW.trod enc Tryz.prog W base spare held fuel 32 [v] = some x) :
 ∃ cs : List C7, Sl W v cs ∧ cs.length ≤ 9223372036854775807 := by
 rcases open_fields Tryz.underlying32 Tryz.underlying42 (by kernel_rfl) (by kernel_rfl) hf with h0 | ⟨a, len, cap, hcs, hm, hi⟩
 · obtain rfl := (List.cons.inj h0).1
   exact ⟨[], ⟨0, 0, 0, none, rfl, fun _ => rfl, fun h => absurd h (by simp), fun j c hc => by simp at hc, fun h => absurd h (by simp)⟩, by simp⟩
 · obtain rfl := (List.cons.inj hcs).1
   obtain ⟨cs, hl, hp⟩ := list_of (n := len) (P := fun i c => ∀ (f : Nat) u, c.cells[f]? = some u → W.cell? (a.add (i * 7 + f)) = some u) fun i hlt => by
    obtain ⟨n, hf⟩ := hi i hlt
    obtain ⟨v0, y0, g0, t0⟩ := hf 0 _ rfl
    obtain ⟨v1, y1, g1, t1⟩ := hf 1 _ rfl
    obtain ⟨v2, y2, g2, t2⟩ := hf 2 _ rfl
    obtain ⟨v3, y3, g3, t3⟩ := hf 3 _ rfl
    obtain ⟨v4, y4, g4, t4⟩ := hf 4 _ rfl
    obtain ⟨v5, y5, g5, t5⟩ := hf 5 _ rfl
    obtain ⟨v6, y6, g6, t6⟩ := hf 6 _ rfl
    obtain ⟨z0, e0, _, _⟩ := DataW.trod_int Tryz.underlying3 t0
    obtain ⟨z1, e1, _, _⟩ := DataW.trod_int Tryz.underlying39 t1
    obtain ⟨z2, e2, _, _⟩ := DataW.trod_int Tryz.underlying3 t2
    obtain ⟨z3, e3, _, _⟩ := DataW.trod_int Tryz.underlying3 t3
    obtain ⟨z4, e4, _, _⟩ := DataW.trod_int Tryz.underlying40 t4
    obtain ⟨z5, e5, _, _⟩ := DataW.trod_int Tryz.underlying3 t5
    obtain ⟨z6, e6, _, _⟩ := DataW.trod_int Tryz.underlying3 t6
    simp only [List.cons.injEq, and_true] at e0 e1 e2 e3 e4 e5 e6
    subst e0 e1 e2 e3 e4 e5 e6
    refine ⟨⟨z0, z1, z2, z3, z4, z5, z6⟩, fun f u hu => ?_⟩
    match f, hu with
    | 0, hu => obtain rfl := Option.some.inj hu; exact g0
    | 1, hu => obtain rfl := Option.some.inj hu; exact g1
    | 2, hu => obtain rfl := Option.some.inj hu; exact g2
    | 3, hu => obtain rfl := Option.some.inj hu; exact g3
    | 4, hu => obtain rfl := Option.some.inj hu; exact g4
    | 5, hu => obtain rfl := Option.some.inj hu; exact g5
    | 6, hu => obtain rfl := Option.some.inj hu; exact g6
    | _ + 7, hu => cases hu
   have hfirst : 0 < cs.length → a.spot = none ∧ a.block < W.heap.size := fun h0 => by
    have hc : cs[0]? = some cs[0] := List.getElem?_eq_getElem h0
    have := hp 0 _ hc 0 _ rfl
    exact ⟨by simpa [Addr.add] using World.cell?_spot this, by simpa [Addr.add] using World.block_lt_of_cell? W _ this⟩
   obtain ⟨b, o, spot⟩ := a
   refine ⟨cs, ⟨b, o, cap, some ⟨b, o, spot⟩, by rw [hl], (fun e => by cases e), fun h0 => ?_, fun j c hc f u hu => ?_, fun h0 => (hfirst h0).2⟩, ?_⟩
   · rw [show spot = none from (hfirst h0).1]
   · have h0 : 0 < cs.length := by have := (List.getElem?_eq_some_iff.1 hc).1; omega
     have := hp j c hc f u hu
     rw [show spot = none from (hfirst h0).1] at this
     rw [add_plain] at this
     exact this
   · rw [hl]; exact Nat.le_trans hm (by decide)
end Go.Proofs.YtplodoindppleaaGreat
namespace Go.Proofs.YtplodoindppleaaGreat
set_option linter.unusedVariables false
open Go.Joins Go.ChangeShapes Go.WideShapes Go.ChangeAt Go.RowKit Go.Deep
theorem cellsC : Tryz.prog.cellsOf 42 = 7 := by kernel_rfl
theorem cellsV : Tryz.prog.cellsOf 34 = 2 := by kernel_rfl
theorem cellsI : Tryz.prog.cellsOf 3 = 1 := by kernel_rfl
theorem cellsK : Tryz.prog.cellsOf 39 = 1 := by kernel_rfl
theorem cellsD : Tryz.prog.cellsOf 40 = 1 := by kernel_rfl
theorem cellsB : Tryz.prog.cellsOf 4 = 1 := by kernel_rfl
theorem cellsS : Tryz.prog.cellsOf 32 = 1 := by kernel_rfl
variable {H : Type} {enc : TypeId × Value → H} {W : World} {base : Nat} {spare : Nat → Bool} {held : Bool} {fuel : Nat}
theorem struct_in {P : Program} {t : TypeId} {fs : Array Field} {cs : List Value} {x : DataW H × List MemPlace} (ht : P.underlying t = some (.struct fs)) (h : DataW.trod enc P W base spare held fuel t cs = some x) :
 cs.length = P.cellsOf t ∧ ∃ n, ∀ (i : Nat) (f : Field), fs[i]? = some f → ∃ y, DataW.trod enc P W base spare held n f.type ((cs.drop f.offset).take (P.cellsOf f.type)) = some y := by
 obtain ⟨xs, n, _, _, hl, hx, hf⟩ := DataW.trod_struct ht h
 refine ⟨hl, n, fun i f hi => ?_⟩
 have hlt : i < fs.size := (Array.getElem?_eq_some_iff.1 hi).1
 exact ⟨xs[i]'(by omega), (hf i f hi).trans (List.getElem?_eq_getElem (by omega))⟩
theorem int_in {t : TypeId} {c : Value} {x : DataW H × List MemPlace} (ht : Tryz.prog.underlying t = some (.int .i64)) (h : DataW.trod enc Tryz.prog W base spare held fuel t [c] = some x) : ∃ z, c = .int .i64 z := by
 obtain ⟨z, e, _, _⟩ := DataW.trod_int ht h
 exact ⟨z, (List.cons.inj e).1⟩
set_option maxRecDepth 100000 in
theorem cmd_in {cs : List Value} {x : DataW H × List MemPlace} (h : DataW.trod enc Tryz.prog W base spare held fuel 42 cs = some x) : ∃ c : C7, cs = c.cells := by
 obtain ⟨hl, n, hf⟩ := struct_in Tryz.underlying42 h
 rw [cellsC] at hl
 match cs, hl with
 | [c0, c1, c2, c3, c4, c5, c6], _ =>
  obtain ⟨y0, h0⟩ := hf 0 _ rfl
  obtain ⟨y1, h1⟩ := hf 1 _ rfl
  obtain ⟨y2, h2⟩ := hf 2 _ rfl
  obtain ⟨y3, h3⟩ := hf 3 _ rfl
  obtain ⟨y4, h4⟩ := hf 4 _ rfl
  obtain ⟨y5, h5⟩ := hf 5 _ rfl
  obtain ⟨y6, h6⟩ := hf 6 _ rfl
  simp only [List.getElem_toArray, List.getElem_cons_succ, List.getElem_cons_zero, cellsI, cellsK, cellsD, List.drop_succ_cons, List.drop_zero, List.take_succ_cons, List.take_zero] at h0 h1 h2 h3 h4 h5 h6
  obtain ⟨z0, rfl⟩ := int_in Tryz.underlying3 h0
  obtain ⟨z1, rfl⟩ := int_in Tryz.underlying39 h1
  obtain ⟨z2, rfl⟩ := int_in Tryz.underlying3 h2
  obtain ⟨z3, rfl⟩ := int_in Tryz.underlying3 h3
  obtain ⟨z4, rfl⟩ := int_in Tryz.underlying40 h4
  obtain ⟨z5, rfl⟩ := int_in Tryz.underlying3 h5
  obtain ⟨z6, rfl⟩ := int_in Tryz.underlying3 h6
  exact ⟨⟨z0, z1, z2, z3, z4, z5, z6⟩, rfl⟩
theorem sv_of {v : Value} {l : List C7} (h : Sl W v l) : ∃ p : Sv, v = p.v ∧ Sl W p.v l := by
 obtain ⟨_, _, cap, a, rfl, _⟩ := id h
 exact ⟨⟨a, l.length, cap⟩, rfl, h⟩
set_option maxRecDepth 100000 in
theorem value_in {cs : List Value} {x : DataW H × List MemPlace} (h : DataW.trod enc Tryz.prog W base spare held fuel 34 cs = some x) : ∃ (t : Int) (p : Sv) (l : List C7), cs = [.int .i64 t, p.v] ∧ Sl W p.v l := by
 obtain ⟨hl, n, hf⟩ := struct_in Tryz.underlying34 h
 rw [cellsV] at hl
 match cs, hl with
 | [c0, c1], _ =>
  obtain ⟨y0, h0⟩ := hf 0 _ rfl
  obtain ⟨y1, h1⟩ := hf 1 _ rfl
  simp only [List.getElem_toArray, List.getElem_cons_succ, List.getElem_cons_zero, cellsI, cellsS, List.drop_succ_cons, List.drop_zero, List.take_succ_cons, List.take_zero] at h0 h1
  obtain ⟨z0, rfl⟩ := int_in Tryz.underlying3 h0
  obtain ⟨l, hs, _⟩ := open_cmds_in h1
  obtain ⟨p, rfl, hp⟩ := sv_of hs
  exact ⟨z0, p, l, rfl, hp⟩
theorem list_of' {α : Type} {n : Nat} {P : Nat → α → Prop} (h : ∀ i, i < n → ∃ c, P i c) : ∃ cs : List α, cs.length = n ∧ ∀ (j : Nat) c, cs[j]? = some c → P j c := by
 induction n with
 | zero => exact ⟨[], rfl, fun j c hc => by simp at hc⟩
 | succ n ih =>
  obtain ⟨cs, hl, hp⟩ := ih fun i hi => h i (by omega)
  obtain ⟨c, hc⟩ := h n (by omega)
  refine ⟨cs ++ [c], by simp [hl], fun j d hd => ?_⟩
  by_cases hj : j < cs.length
  · rw [List.getElem?_append_left hj] at hd; exact hp j d hd
  · have hlen := (List.getElem?_eq_some_iff.1 hd).1
    simp at hlen
    obtain rfl : j = cs.length := by omega
    simp at hd
    subst hd
    rw [hl]; exact hc
end Go.Proofs.YtplodoindppleaaGreat
namespace Go.Proofs.YtplodoindppleaaGreat
set_option linter.unusedVariables false
open Go.Joins Go.ChangeShapes Go.WideShapes Go.ChangeAt Go.RowKit Go.Deep
theorem cellsMs : Tryz.prog.cellsOf 48 = 20 := by kernel_rfl
theorem cellsSo : Tryz.prog.cellsOf 46 = 1 := by kernel_rfl
section
variable {H : Type} {enc : TypeId × Value → H} {W : World} {base : Nat} {spare : Nat → Bool} {held : Bool} {fuel : Nat}
set_option maxRecDepth 100000 in
theorem cmd_wf {cs : List Value} {x : DataW H × List MemPlace} {z : Int} (h : DataW.trod enc Tryz.prog W base spare held fuel 42 cs = some x) (hz : cs[0]? = some (.int .i64 z)) : (Lit.int .i64 z).wf = true := by
 obtain ⟨hl, n, hf⟩ := struct_in Tryz.underlying42 h
 rw [cellsC] at hl
 obtain ⟨y1, h1⟩ := hf 0 _ rfl
 simp only [List.getElem_toArray, List.getElem_cons_zero, cellsI, List.drop_zero] at h1
 obtain ⟨z', e, _, hw⟩ := DataW.trod_int Tryz.underlying3 h1
 match cs, hl, hz with
 | c0 :: r, _, hz =>
  have e1 : c0 = .int .i64 z' := by simpa using e
  have e2 : c0 = .int .i64 z := by simpa using hz
  rw [e1] at e2
  cases e2
  exact hw
def Ms.inW (w : World) (m : Ms) : Prop := m.at w ∧ (Lit.int .i64 m.m.c.i).wf = true
set_option maxRecDepth 100000 in
theorem msg_in {cs : List Value} {x : DataW H × List MemPlace} (h : DataW.trod enc Tryz.prog W base spare held fuel 48 cs = some x) : ∃ m : Ms, cs = m.m.list ∧ m.inW W := by
 obtain ⟨hl, n, hf⟩ := struct_in Tryz.underlying48 h
 rw [cellsMs] at hl
 match cs, hl with
 | [c0, c1, c2, c3, c4, c5, c6, c7, c8, c9, c10, c11, c12, c13, c14, c15, c16, c17, c18, c19], _ =>
  obtain ⟨y0, h0⟩ := hf 0 _ rfl
  obtain ⟨y1, h1⟩ := hf 1 _ rfl
  obtain ⟨y2, h2⟩ := hf 2 _ rfl
  obtain ⟨y3, h3⟩ := hf 3 _ rfl
  obtain ⟨y4, h4⟩ := hf 4 _ rfl
  obtain ⟨y5, h5⟩ := hf 5 _ rfl
  obtain ⟨y6, h6⟩ := hf 6 _ rfl
  obtain ⟨y7, h7⟩ := hf 7 _ rfl
  obtain ⟨y8, h8⟩ := hf 8 _ rfl
  obtain ⟨y9, h9⟩ := hf 9 _ rfl
  obtain ⟨y10, h10⟩ := hf 10 _ rfl
  simp only [List.getElem_toArray, List.getElem_cons_succ, List.getElem_cons_zero, cellsI, cellsC, cellsV, cellsB, cellsSo, List.drop_succ_cons, List.drop_zero, List.take_succ_cons, List.take_zero] at h0 h1 h2 h3 h4 h5 h6 h7 h8 h9 h10
  obtain ⟨z0, rfl⟩ := int_in Tryz.underlying46 h0
  obtain ⟨z1, rfl⟩ := int_in Tryz.underlying3 h1
  obtain ⟨z2, rfl⟩ := int_in Tryz.underlying3 h2
  obtain ⟨z3, rfl⟩ := int_in Tryz.underlying3 h3
  have hwf := fun z hz => cmd_wf (z := z) h4 hz
  obtain ⟨c, hc⟩ := cmd_in h4
  obtain ⟨t5, p5, l5, e5, s5⟩ := value_in h5
  obtain ⟨b6, e6, _⟩ := DataW.trod_bool Tryz.underlying4 h6
  obtain ⟨z7, rfl⟩ := int_in Tryz.underlying3 h7
  obtain ⟨z8, rfl⟩ := int_in Tryz.underlying3 h8
  obtain ⟨t9, p9, l9, e9, s9⟩ := value_in h9
  obtain ⟨t10, p10, l10, e10, s10⟩ := value_in h10
  simp only [C7.cells, List.cons.injEq, and_true] at hc e5 e6 e9 e10
  obtain ⟨rfl, rfl, rfl, rfl, rfl, rfl, rfl⟩ := hc
  obtain ⟨rfl, rfl⟩ := e5
  subst e6
  obtain ⟨rfl, rfl⟩ := e9
  obtain ⟨rfl, rfl⟩ := e10
  exact ⟨⟨⟨z0, z1, z2, z3, c, t5, p5, b6, z7, z8, t9, p9, t10, p10⟩, l5, l9, l10⟩, rfl, ⟨s5, s9, s10⟩, hwf c.i rfl⟩
end
end Go.Proofs.YtplodoindppleaaGreat
namespace Go.Proofs.YtplodoindppleaaGreat
set_option linter.unusedVariables false
open Go.RowKit
open Go.Lib (hid)
def fitsM (m : Ms) : Bool := decide (m.v.length ≤ 100) && (decide (m.a.length ≤ 100) && decide (m.f.length ≤ 100))
theorem fitsM_short {m : Ms} (h : fitsM m = true) : m.short 100 := by
 unfold fitsM at h
 simp only [Bool.and_eq_true, decide_eq_true_eq] at h
 exact ⟨h.1, h.2.1, h.2.2⟩
set_option maxHeartbeats 4000000 in
set_option maxRecDepth 100000 in
theorem cFitsM {w : World} {m : Ms} (hm : m.at w) : Calls Tryz.prog 21 #[.agg m.m.arr] w fun e w' => e = .returned (.bool (fitsM m)) ∧ Below w.heap.size w w' := by
 have HB := hid (laid1_b w (.cells m.m.arr 48))
 have HM : Hid (OM (w.alloc (.cells m.m.arr 48)) w.heap.size m.m) := hid (laid1_0 w _)
 have e1 := hm.1.lenP
 have e2 := hm.2.1.lenP
 have e3 := hm.2.2.lenP
 obtain ⟨n1, h1⟩ : ∃ n, n = m.m.vp.n := ⟨_, rfl⟩
 obtain ⟨n2, h2⟩ : ∃ n, n = m.m.xp.n := ⟨_, rfl⟩
 obtain ⟨n3, h3⟩ : ∃ n, n = m.m.fp.n := ⟨_, rfl⟩
 have HE : Hid (fitsM m = (decide (n1 ≤ 100) && (decide (n2 ≤ 100) && decide (n3 ≤ 100)))) := hid (by unfold fitsM; rw [h1, h2, h3, e1, e2, e3])
 have H1 := hid h1
 have H2 := hid h2
 have H3 := hid h3
 clear e1 e2 e3 h1 h2 h3 hm
 go_enter Tryz.func21, Tryz.ntmps21
 go_upto_region 1 with fail
 generalize (w.alloc (.cells m.m.arr 48)) = W0 at HB HM ⊢
 have k1 : W0.cell? ⟨w.heap.size, 12, none⟩ = some (.slice m.m.vp.a n1 m.m.vp.c) := by rw [H1.out]; exact HM.out.cell (m := m.m) (j := 12) rfl
 have k2 : W0.cell? ⟨w.heap.size, 17, none⟩ = some (.slice m.m.xp.a n2 m.m.xp.c) := by rw [H2.out]; exact HM.out.cell (m := m.m) (j := 17) rfl
 have k3 : W0.cell? ⟨w.heap.size, 19, none⟩ = some (.slice m.m.fp.a n3 m.m.fp.c) := by rw [H3.out]; exact HM.out.cell (m := m.m) (j := 19) rfl
 by_cases c1 : n1 ≤ 100
 · have c1i : (n1 : Int) ≤ 100 := by omega
   by_cases c2 : n2 ≤ 100
   · have c2i : (n2 : Int) ≤ 100 := by omega
     by_cases c3 : n3 ≤ 100
     · have c3i : (n3 : Int) ≤ 100 := by omega
       have HR : Hid (fitsM m = true) := hid (by rw [HE.out]; simp [c1, c2, c3])
       clear c1 c2 c3
       go_wp2_with fail
       go_ret
       exact ⟨ret_bool HR.out.symm, HB.out⟩
     · have c3i : ¬ (n3 : Int) ≤ 100 := by omega
       have HR : Hid (fitsM m = false) := hid (by rw [HE.out]; simp [c3])
       clear c1 c2 c3
       go_wp2_with fail
       go_ret
       exact ⟨ret_bool HR.out.symm, HB.out⟩
   · have c2i : ¬ (n2 : Int) ≤ 100 := by omega
     have HR : Hid (fitsM m = false) := hid (by rw [HE.out]; simp [c2])
     clear c1 c2
     go_wp2_with fail
     go_ret
     exact ⟨ret_bool HR.out.symm, HB.out⟩
 · have c1i : ¬ (n1 : Int) ≤ 100 := by omega
   have HR : Hid (fitsM m = false) := hid (by rw [HE.out]; simp [c1])
   clear c1
   go_wp2_with fail
   go_ret
   exact ⟨ret_bool HR.out.symm, HB.out⟩
end Go.Proofs.YtplodoindppleaaGreat

import Derived.Test.YtplodoindppleaaGreatLHandleZm
import Derived.Test.YtplodoindppleaaGreatG34
import Derived.Lib.SmallJoins
import Derived.Carry
import Derived.Handed
import Derived.OpenShut
import Derived.Deep.Slices
import Derived.Deep.Fields
namespace Go.Proofs.YtplodoindppleaaGreat
set_option linter.unusedVariables false
open Go.Joins Go.ChangeShapes Go.WideShapes Go.ChangeAt Go.RowKit Go.Deep
open Go.Lib (hid)
structure Ak where
  kd : Nat
  c : C7
  vt : Int
  vp : Sv
  vl : List C7
  bal : Int
  m : Ms
def Ak.list (a : Ak) : List Value := .int .u8 (a.kd : Int) :: .int .i64 a.c.i :: .int .i64 a.c.k :: .int .i64 a.c.s :: .int .i64 a.c.t :: .int .i64 a.c.d :: .int .i64 a.c.p :: .int .i64 a.c.q :: .int .i64 a.vt :: a.vp.v :: .int .i64 a.bal :: a.m.m.list
def Ak.arr (a : Ak) : Array Value := a.list.toArray
theorem Ak.len (a : Ak) : a.list.length = 31 := rfl
theorem Ak.size (a : Ak) : a.arr.size = 31 := rfl
theorem Ak.toList (a : Ak) : a.arr.toList = a.list := by unfold Ak.arr; simp
theorem Ak.one' (a : Ak) : ∀ u ∈ a.list, u.oneCell' = true := fun v hv => by
  unfold Ak.list at hv
  simp only [List.mem_cons] at hv
  rcases hv with h | h | h | h | h | h | h | h | h | h | h | h
  all_goals first | (subst h; rfl) | exact Mg.one' _ _ h
theorem Ak.one (a : Ak) : a.arr.all (·.oneCell') = true := all_oneCell_toArray a.one'
theorem infoK (a : Ak) : (Tryz.prog.info? 56).map (·.size) = some a.list.length := by rw [Ak.len]; kernel_rfl
theorem infoK' (a : Ak) : (Tryz.prog.info? 56).map (·.size) = some a.arr.size := by rw [Ak.size]; kernel_rfl
abbrev OK (w : World) (q : Nat) (a : Ak) : Prop := w.heap[q]? = some (.cells a.arr 56 (0, 0))
theorem OK.range {w : World} {q : Nat} {a : Ak} (h : OK w q a) : w.rangeAt q 0 a.list := fun j v hv => by
  rw [Nat.zero_add, cellAt' h, ← Array.getElem?_toList, Ak.toList]; exact hv
theorem OK.cell {w : World} {q : Nat} {a : Ak} (h : OK w q a) {j : Nat} {v : Value} (hv : a.list[j]? = some v) : w.cell? ⟨q, j, none⟩ = some v := by
  have := h.range j v hv; rwa [Nat.zero_add] at this
theorem OK.msg {w : World} {q : Nat} {a : Ak} (h : OK w q a) : w.rangeAt q 11 a.m.m.list := fun j v hv => by
  refine h.cell (a := a) (j := 11 + j) ?_
  rw [Nat.add_comm]; exact hv
theorem OK.valR {w : World} {q : Nat} {a : Ak} (h : OK w q a) : w.rangeAt q 8 (vcs a.vt a.vp) := fun i u hu => by
  rcases i with _ | _ | i
  · obtain rfl := Option.some.inj hu; exact h.cell (a := a) (j := 8) rfl
  · obtain rfl := Option.some.inj hu; exact h.cell (a := a) (j := 9) rfl
  · simp [vcs] at hu
theorem OK.on {w w' : World} {q : Nat} {a : Ak} (h : OK w q a) (hb : Below w.heap.size w w') : OK w' q a := heapB h hb (Array.getElem?_eq_some_iff.1 h).1
theorem loadKl {ops : Array Oper} {rest : List Oper} {op : Oper} {c : Act} {w : World} {Q : Exit → Act → World → Prop} {x : Operand} {b o : Nat} (a : Ak) (hgd : op.guard = none) (ho : op.op = .load 56 x)
    (hx : c.eval x = .pointer (some ⟨b, o, none⟩)) (hc : w.rangeAt b o a.list) (h : wpList Tryz.prog ops Q rest (c.put op.dst (.agg a.arr)) w) : wpList Tryz.prog ops Q (op :: rest) c w :=
  wpList_load_mid hgd 56 x ho b o hx a.list _ hc Tryz.underlying56 rfl (infoK a) h
def RoomK (w : World) (q : Nat) : Prop := ∃ C : Array Value, w.heap[q]? = some (.cells C 56 (0, 0)) ∧ C.size = 31
abbrev zK : Ak := ⟨0, z7, 0, zS, [], 0, ⟨zM, [], [], []⟩⟩
theorem roomK (w : World) : RoomK (w.alloc (.cells zK.arr 56)) w.heap.size := ⟨_, heap_alloc_new w _, rfl⟩
theorem storeK {ops : Array Oper} {rest : List Oper} {op : Oper} {c : Act} {w : World} {Q : Exit → Act → World → Prop} {x y : Operand} {b : Nat} (a : Ak) (hgd : op.guard = none) (ho : op.op = .store 56 x y)
    (hx : c.eval x = .pointer (some ⟨b, 0, none⟩)) (hy : c.eval y = .agg a.arr) (hC : RoomK w b) (h : ∀ W, OK W b a → Upd b w W → wpList Tryz.prog ops Q rest (c.put op.dst undef) W) : wpList Tryz.prog ops Q (op :: rest) c w := by
  obtain ⟨C, hC, hs⟩ := hC
  exact wpList_store_mid hgd 56 x y ho b 0 a.arr hx hy (thereAt hC (by rw [hs, Ak.size]; exact Nat.le_refl _)) (infoK' a) (Ak.one a) (h _ (setsN a.arr hC (by rw [hs, Ak.size])) (setsUpd' w b 0 _))
abbrev SlK (w : World) (v : Value) (acs : List Ak) : Prop := SlG Ak.list 31 w v acs
def Ak.inW (w : World) (a : Ak) : Prop := Sl w a.vp.v a.vl ∧ a.m.inW w ∧ (Lit.int .i64 a.c.i).wf = true ∧ a.kd < 256
theorem cellsAk : Tryz.prog.cellsOf 56 = 31 := by kernel_rfl
theorem cellsU8 : Tryz.prog.cellsOf 5 = 1 := by kernel_rfl
section
variable {H : Type} {enc : TypeId × Value → H} {W : World} {base : Nat} {spare : Nat → Bool} {held : Bool} {fuel : Nat}
set_option maxRecDepth 100000 in
theorem act_in {cs : List Value} {x : DataW H × List MemPlace} (h : DataW.trod enc Tryz.prog W base spare held fuel 56 cs = some x) : ∃ a : Ak, cs = a.list ∧ a.inW W := by
  obtain ⟨hl, n, hf⟩ := struct_in Tryz.underlying56 h
  rw [cellsAk] at hl
  match cs, hl with
  | c0 :: c1 :: c2 :: c3 :: c4 :: c5 :: c6 :: c7 :: c8 :: c9 :: c10 :: r, hl =>
    obtain ⟨y0, h0⟩ := hf 0 _ rfl
    obtain ⟨y1, h1⟩ := hf 1 _ rfl
    obtain ⟨y2, h2⟩ := hf 2 _ rfl
    obtain ⟨y3, h3⟩ := hf 3 _ rfl
    obtain ⟨y4, h4⟩ := hf 4 _ rfl
    simp only [List.getElem_toArray, List.getElem_cons_succ, List.getElem_cons_zero, cellsI, cellsU8, cellsC, cellsV, cellsMs, List.drop_succ_cons, List.drop_zero, List.take_succ_cons, List.take_zero] at h0 h1 h2 h3 h4
    have hr : r.length = 20 := by simpa using hl
    rw [List.take_of_length_le (by omega)] at h4
    obtain ⟨k, e0, _, hw⟩ := DataW.trod_int Tryz.underlying5 h0
    have hwf := fun z hz => cmd_wf (z := z) h1 hz
    obtain ⟨c, hc⟩ := cmd_in h1
    obtain ⟨t5, p5, l5, e5, s5⟩ := value_in h2
    obtain ⟨t, rfl⟩ := int_in Tryz.underlying3 h3
    obtain ⟨y, rfl, hy⟩ := msg_in h4
    have hk : 0 ≤ k ∧ k ≤ 255 := by
      simp only [Lit.wf, Bool.and_eq_true, decide_eq_true_eq] at hw
      exact ⟨hw.1, hw.2⟩
    simp only [C7.cells, List.cons.injEq, and_true] at hc e5
    obtain ⟨rfl, rfl, rfl, rfl, rfl, rfl, rfl⟩ := hc
    obtain ⟨rfl, rfl⟩ := e5
    refine ⟨⟨k.toNat, c, t5, p5, l5, t, y⟩, ?_, s5, hy, hwf c.i rfl, ?_⟩
    · simp at e0
      subst e0
      unfold Ak.list
      simp only
      rw [show ((k.toNat : Nat) : Int) = k from by omega]
    · show k.toNat < 256
      omega
end
set_option maxRecDepth 100000 in
theorem open_acts {H : Type} {enc : TypeId × Value → H} {W : World} {base : Nat} {spare : Nat → Bool} {held : Bool} {b0 : Nat} {v : Value} {d : DataW H} {p : List MemPlace} (hv : Value.okWide Tryz.prog W .any b0 23 v) (h : DataW.Trod enc Tryz.prog W base spare held 23 v d p) :
    ∃ xs : List Ak, SlK W v xs ∧ (∀ a ∈ xs, a.inW W) ∧ xs.length ≤ 9223372036854775807 := by
  obtain ⟨a0, n0, c0, rfl⟩ := okWide_slice Tryz.underlying23 hv
  obtain ⟨fuel, hf⟩ := h
  rcases open_slice Tryz.underlying23 hf with h0 | ⟨a, len, cap, m, n, D, Pl, hcs, _, hl, hm, hmm, _, hi⟩
  · have h0 := h0.1
    simp [Value.cells] at h0
    obtain ⟨rfl, rfl, rfl⟩ := h0
    exact ⟨[], SlG.nil _ _ _, fun x hx => by simp at hx, by simp⟩
  · simp [Value.cells] at hcs
    obtain ⟨rfl, rfl, rfl⟩ := hcs
    obtain ⟨xs, hal, hp⟩ := list_of' (n := n0) (P := fun i (x : Ak) => (∀ (f : Nat) u, x.list[f]? = some u → W.cell? (a.add (i * 31 + f)) = some u) ∧ x.inW W) fun i hlt => by
      obtain ⟨cs', hc, ht'⟩ := hi i (by rw [hmm]; split <;> omega)
      rw [cellsAk] at hc
      obtain ⟨x, rfl, hx⟩ := act_in ht'
      obtain ⟨_, _, hat⟩ := World.cells?_some hc
      refine ⟨x, fun f u hu => ?_, hx⟩
      have hlt := (List.getElem?_eq_some_iff.1 hu).1
      have q := hat f (by rw [Ak.len] at hlt; exact hlt)
      rw [Go.Deep.add_add] at q
      rw [q]; exact hu
    have hfirst : 0 < xs.length → a.spot = none ∧ a.block < W.heap.size := fun h0 => by
      have hc : xs[0]? = some xs[0] := List.getElem?_eq_getElem h0
      have := (hp 0 _ hc).1 0 _ rfl
      exact ⟨by simpa [Addr.add] using World.cell?_spot this, by simpa [Addr.add] using World.block_lt_of_cell? W _ this⟩
    obtain ⟨b, o, spot⟩ := a
    refine ⟨xs, ⟨b, o, c0, some ⟨b, o, spot⟩, by rw [hal], fun h0 => ?_, fun j e hj f u hu => ?_, fun h0 => ?_⟩, fun x hx => ?_, ?_⟩
    · rw [show spot = none from (hfirst (by simpa using h0)).1]
    · have h0 : 0 < xs.length := by have := (List.getElem?_eq_some_iff.1 hj).1; omega
      have := (hp j e hj).1 f u hu
      rw [show spot = none from (hfirst h0).1, add_plain] at this
      rw [← Nat.add_assoc] at this
      exact this
    · exact (hfirst (by simpa using h0)).2
    · obtain ⟨j, hj⟩ := List.getElem?_of_mem hx
      exact (hp j x hj).2
    · rw [hal]; exact Nat.le_trans (Nat.le_trans hl hm) (by decide)
def stepF (nd N : Int) (g : Lst) (a : Ak) : Lst × List An :=
  if a.kd % 8 = 0 then startF nd N g a.c a.vt a.vl
  else if a.kd % 8 = 1 then takeF nd N g a.c a.bal
  else if a.kd % 8 = 2 then hurryF nd N g a.c.i
  else handF nd N g a.m.an
def fitK (a : Ak) : Bool := fitsM a.m && decide (a.vl.length ≤ 100)
def FitsLP (acs : List Ak) (w : World) (e : Ending) (w' : World) : Prop := ∃ r : Bool, e = .returned (.bool r) ∧ (r = true → acs.length ≤ 60 ∧ ∀ a ∈ acs, fitK a = true) ∧ Below w.heap.size w w'
set_option maxHeartbeats 8000000 in
set_option maxRecDepth 100000 in
theorem cStepL {w : World} {B q b n : Nat} {nd N : Int} {g : Gs} (h : Ld w B q b n nd N g) (hN : 3 ≤ N ∧ N ≤ 9) (hB : B ≤ w.heap.size) (hn : n < 1000000) (hz : ∀ i p x, g i = some (p, x) → Sz 37 x) {a : Ak} (hv : Sl w a.vp.v a.vl) (hvl : a.vl.length ≤ 1024) (hm : a.m.atC B w) (hms : a.m.short 1024) (hw1 : (Lit.int .i64 a.c.i).wf = true) (hw2 : (Lit.int .i64 a.m.m.c.i).wf = true) (hk : a.kd < 256) : Calls Tryz.prog 15 #[ptr q, .agg a.arr] w (LdP w B q b n nd N g (stepF nd N g.lst a)) := by
  have HH := hid h
  have HB0 : Hid (Below w.heap.size w (w.alloc (.cells a.arr 56))) := hid (laid1_b w _)
  have HO0 : Hid (OK (w.alloc (.cells a.arr 56)) w.heap.size a) := hid (laid1_0 w _)
  have HD := hid (h.on HB0.out)
  have HNN := hid hN
  have HZ := hid hz
  have HBB := hid (Nat.le_trans hB HB0.out.size)
  have HV := hid (hv.on HB0.out)
  have HVL := hid hvl
  have HM := hid (hm.on HB0.out)
  have HMS := hid hms
  clear h hN hz hB hv hvl hm hms
  unfold stepF
  obtain ⟨kd, hkd⟩ : ∃ z, z = a.kd := ⟨_, rfl⟩
  rw [← hkd] at hk ⊢
  have c0 : (w.alloc (.cells a.arr 56)).cell? ⟨w.heap.size, 0, none⟩ = some (.int .u8 (kd : Int)) := (by rw [hkd]; exact HO0.out.cell (a := a) (j := 0) rfl)
  clear hkd
  have hmod : ((kd : Int) % 8) = ((kd % 8 : Nat) : Int) := by omega
  have hm8 : kd % 8 < 8 := Nat.mod_lt _ (by decide)
  by_cases h0 : kd % 8 = 0
  · as_aux_lemma =>
      rw [if_pos h0]
      have hb0 : (kd : Int) % 8 = 0 := by omega
      clear hmod hm8 h0
      have e0 : (w.alloc (.cells a.arr 56)).cell? ⟨w.heap.size, 1, none⟩ = some (.int .i64 a.c.i) := HO0.out.cell (a := a) (j := 1) rfl
      have e1 : (w.alloc (.cells a.arr 56)).cell? ⟨w.heap.size, 2, none⟩ = some (.int .i64 a.c.k) := HO0.out.cell (a := a) (j := 2) rfl
      have e2 : (w.alloc (.cells a.arr 56)).cell? ⟨w.heap.size, 3, none⟩ = some (.int .i64 a.c.s) := HO0.out.cell (a := a) (j := 3) rfl
      have e3 : (w.alloc (.cells a.arr 56)).cell? ⟨w.heap.size, 4, none⟩ = some (.int .i64 a.c.t) := HO0.out.cell (a := a) (j := 4) rfl
      have e4 : (w.alloc (.cells a.arr 56)).cell? ⟨w.heap.size, 5, none⟩ = some (.int .i64 a.c.d) := HO0.out.cell (a := a) (j := 5) rfl
      have e5 : (w.alloc (.cells a.arr 56)).cell? ⟨w.heap.size, 6, none⟩ = some (.int .i64 a.c.p) := HO0.out.cell (a := a) (j := 6) rfl
      have e6 : (w.alloc (.cells a.arr 56)).cell? ⟨w.heap.size, 7, none⟩ = some (.int .i64 a.c.q) := HO0.out.cell (a := a) (j := 7) rfl
      have hca := cStart HD.out HNN.out HBB.out hn hw1 (c := a.c) (vt := a.vt) HV.out HVL.out
      go_enter Tryz.func15, Tryz.ntmps15
      go_wp2_with (first
        | ((with_reducible refine loadVl (x := ?vx1) (b := w.heap.size) (o := 8) a.vt a.vp ?vg1 ?vo1 ?vxx1 ?vc1 ?_); (case vg1 => rfl); (case vo1 => rfl); (case vxx1 => rfl); (case vc1 => exact OK.valR HO0.out))
        | (go_at_call 10; refine hca.mono ?_; intro e w6 h2; have H2 := hid h2; obtain ⟨g', v, ls, rfl, h3⟩ := h2; have H3 := hid h3; clear h3 hca)
        | fail)
      go_ret
      exact H2.out.from HB0.out
  · by_cases h1 : kd % 8 = 1
    · as_aux_lemma =>
        rw [if_neg h0, if_pos h1]
        have hb0 : (kd : Int) % 8 = 1 := by omega
        clear hmod hm8 h0 h1
        have e0 : (w.alloc (.cells a.arr 56)).cell? ⟨w.heap.size, 1, none⟩ = some (.int .i64 a.c.i) := HO0.out.cell (a := a) (j := 1) rfl
        have e1 : (w.alloc (.cells a.arr 56)).cell? ⟨w.heap.size, 2, none⟩ = some (.int .i64 a.c.k) := HO0.out.cell (a := a) (j := 2) rfl
        have e2 : (w.alloc (.cells a.arr 56)).cell? ⟨w.heap.size, 3, none⟩ = some (.int .i64 a.c.s) := HO0.out.cell (a := a) (j := 3) rfl
        have e3 : (w.alloc (.cells a.arr 56)).cell? ⟨w.heap.size, 4, none⟩ = some (.int .i64 a.c.t) := HO0.out.cell (a := a) (j := 4) rfl
        have e4 : (w.alloc (.cells a.arr 56)).cell? ⟨w.heap.size, 5, none⟩ = some (.int .i64 a.c.d) := HO0.out.cell (a := a) (j := 5) rfl
        have e5 : (w.alloc (.cells a.arr 56)).cell? ⟨w.heap.size, 6, none⟩ = some (.int .i64 a.c.p) := HO0.out.cell (a := a) (j := 6) rfl
        have e6 : (w.alloc (.cells a.arr 56)).cell? ⟨w.heap.size, 7, none⟩ = some (.int .i64 a.c.q) := HO0.out.cell (a := a) (j := 7) rfl
        have e10 : (w.alloc (.cells a.arr 56)).cell? ⟨w.heap.size, 10, none⟩ = some (.int .i64 a.bal) := HO0.out.cell (a := a) (j := 10) rfl
        have hca := cTakeL HD.out HNN.out HBB.out hn hw1 (c := a.c) a.bal
        go_enter Tryz.func15, Tryz.ntmps15
        go_wp2_with (first
          | (go_at_call 11; refine hca.mono ?_; intro e w6 h2; have H2 := hid h2; obtain ⟨g', v, ls, rfl, h3⟩ := h2; have H3 := hid h3; clear h3 hca)
          | fail)
        go_ret
        exact H2.out.from HB0.out
    · by_cases h2 : kd % 8 = 2
      · as_aux_lemma =>
          rw [if_neg h0, if_neg h1, if_pos h2]
          have hb0 : (kd : Int) % 8 = 2 := by omega
          clear hmod hm8 h0 h1 h2
          have e0 : (w.alloc (.cells a.arr 56)).cell? ⟨w.heap.size, 1, none⟩ = some (.int .i64 a.c.i) := HO0.out.cell (a := a) (j := 1) rfl
          have hca := cHurry HD.out HNN.out HBB.out hn HZ.out hw1
          go_enter Tryz.func15, Tryz.ntmps15
          go_wp2_with (first
            | (go_at_call 12; refine hca.mono ?_; intro e w6 h2; have H2 := hid h2; obtain ⟨g', v, ls, rfl, h3⟩ := h2; have H3 := hid h3; clear h3 hca)
            | fail)
          go_ret
          exact H2.out.from HB0.out
      · as_aux_lemma =>
          rw [if_neg h0, if_neg h1, if_neg h2]
          have hr : ¬ (kd : Int) % 8 = 0 ∧ ¬ (kd : Int) % 8 = 1 ∧ ¬ (kd : Int) % 8 = 2 := by omega
          obtain ⟨r, hrr⟩ : ∃ r : Int, r = (kd : Int) % 8 := ⟨_, rfl⟩
          rw [← hrr] at hr
          have hr0 := hr.1
          have hr1 := hr.2.1
          have hr2 := hr.2.2
          have hb0 : (kd : Int) % 8 = r := hrr.symm
          clear hmod hm8 h0 h1 h2 hr hrr
          have hca := cHandle HD.out HNN.out HBB.out hn HZ.out HM.out HMS.out hw2
          go_enter Tryz.func15, Tryz.ntmps15
          go_wp2_with (first
            | ((with_reducible refine loadMl (x := ?lx2) (b := w.heap.size) (o := 11) a.m.m ?lg2 ?lp2 ?lxx2 ?lc2 ?_); (case lg2 => rfl); (case lp2 => rfl); (case lxx2 => rfl); (case lc2 => exact OK.msg HO0.out))
            | (go_at_call 13; refine hca.mono ?_; intro e w6 h2; have H2 := hid h2; obtain ⟨g', v, ls, rfl, h3⟩ := h2; have H3 := hid h3; clear h3 hca)
            | fail)
          go_ret
          exact H2.out.from HB0.out
set_option maxHeartbeats 8000000 in
set_option maxRecDepth 100000 in
theorem cFitsL {w : World} {v : Value} {acs : List Ak} (h : SlK w v acs) (hA : ∀ a ∈ acs, Sl w a.vp.v a.vl ∧ a.m.at w) (hl : acs.length ≤ 9223372036854775807) : Calls Tryz.prog 5 #[v] w (FitsLP acs w) := by
  obtain ⟨b, o, cap, ad, rfl, ha, hc, hb⟩ := h
  have HA := hid hA
  have HCC := hid hc
  obtain ⟨m, hm⟩ : ∃ m, m = acs.length := ⟨_, rfl⟩
  rw [← hm] at ha hb hl ⊢
  have HN := hid hm
  clear hm hA hc
  go_enter Tryz.func5, Tryz.ntmps5
  go_wp2_with fail
  go_loopw [3, 4] (fun i s4 wr => ∃ k : Nat, k ≤ m ∧ k ≤ 61 ∧ i = .int .i64 k ∧ Hid (∀ a ∈ acs.take k, fitK a = true) ∧ Hid (Below w.heap.size w wr)) (fun i _ _ => 62 - (RowKit.intOf i).toNat)
  case atStart => exact ⟨0, Nat.zero_le _, Nat.zero_le _, rfl, hid (by simp), hid (Below.refl _ _)⟩
  case round =>
    obtain ⟨k, hk, hk61, rfl, HF, HB⟩ := hrel
    by_cases hlt : k < m
    · by_cases h60 : k ≤ 60
      · have hlti : ((k : Int) < m) := by omega
        have h60i : ((k : Int) ≤ 60) := by omega
        obtain rfl := ha (by omega)
        obtain ⟨y, hy⟩ : ∃ y, acs[k]? = some y := ⟨acs[k]'(by rw [← HN.out]; exact hlt), List.getElem?_eq_getElem (by rw [← HN.out]; exact hlt)⟩
        have hbw := hb (by omega)
        have HC : Hid (wr.rangeAt b (o + k * 31) y.list) := hid (fun j v hv => (HB.out.cell (p := ⟨b, o + k * 31 + j, none⟩) hbw).trans (HCC.out k y hy j v hv))
        have HY := hid hy
        have hay := HA.out y (List.mem_of_getElem? hy)
        have HYM := hid (hay.2.on HB.out)
        clear hy hbw
        have HMR : Hid (wr.rangeAt b (o + k * 31 + 11) y.m.m.list) := hid (fun j v hv => by have := HC.out (11 + j) v (by rw [Nat.add_comm]; exact hv); rwa [show o + k * 31 + (11 + j) = o + k * 31 + 11 + j by omega] at this)
        obtain ⟨yn, hyn⟩ : ∃ z, z = y.vl.length := ⟨_, rfl⟩
        have HYN := hid hyn
        have hslv : y.vp.v = .slice y.vp.a y.vp.n y.vp.c := rfl
        have hvn : y.vp.n = yn := (by obtain ⟨_, _, cap', a', hv', _⟩ := id hay.1; rw [hyn]; injection hv')
        obtain ⟨fm, hfm⟩ : ∃ z, z = fitsM y.m := ⟨_, rfl⟩
        have HFM := hid hfm
        have hcf := cFitsM HYM.out
        rw [← hfm] at hcf
        have HYVL := hid (show y.vp.n ≤ 9223372036854775807 ∨ True from .inr trivial)
        clear hyn hfm hay
        rcases fm with _ | _
        · go_wp2_with (first
            | ((with_reducible refine loadMl (x := ?lx5) (b := ?lb5) (o := ?lo5) y.m.m ?lg5 ?lp5 ?lxx5 ?lc5 ?_); (case lg5 => rfl); (case lp5 => rfl); (case lxx5 => rfl); (case lc5 => exact HMR.out))
            | (go_at_call 21; refine hcf.mono ?_; rintro e w1 ⟨rfl, hB1⟩; have HB1 : Hid (Below w.heap.size w w1) := hid (HB.out.trans (hB1.mono HB.out.size)); have HC9 : w1.cell? ⟨b, o + k * 31 + 9, none⟩ = some (.slice y.vp.a yn y.vp.c) := (by rw [← hvn]; exact (hB1.cell (p := ⟨b, o + k * 31 + 9, none⟩) (Nat.lt_of_lt_of_le (hb (by omega)) HB.out.size)).trans (HC.out 9 _ rfl)); clear hB1)
            | fail)
          go_ret
          exact ⟨false, rfl, fun h => (by cases h), HB1.out⟩
        · by_cases h100 : 100 < yn
          · have h100i : decide (100 < (yn : Int)) = true := decide_eq_true (by omega)
            go_wp2_with (first
              | ((with_reducible refine loadMl (x := ?lx6) (b := ?lb6) (o := ?lo6) y.m.m ?lg6 ?lp6 ?lxx6 ?lc6 ?_); (case lg6 => rfl); (case lp6 => rfl); (case lxx6 => rfl); (case lc6 => exact HMR.out))
              | (go_at_call 21; refine hcf.mono ?_; rintro e w1 ⟨rfl, hB1⟩; have HB1 : Hid (Below w.heap.size w w1) := hid (HB.out.trans (hB1.mono HB.out.size)); have HC9 : w1.cell? ⟨b, o + k * 31 + 9, none⟩ = some (.slice y.vp.a yn y.vp.c) := (by rw [← hvn]; exact (hB1.cell (p := ⟨b, o + k * 31 + 9, none⟩) (Nat.lt_of_lt_of_le (hb (by omega)) HB.out.size)).trans (HC.out 9 _ rfl)); clear hB1)
              | fail)
            go_ret
            exact ⟨false, rfl, fun h => (by cases h), HB1.out⟩
          · have h100i : decide (100 < (yn : Int)) = false := decide_eq_false (by omega)
            go_wp2_with (first
              | ((with_reducible refine loadMl (x := ?lx7) (b := ?lb7) (o := ?lo7) y.m.m ?lg7 ?lp7 ?lxx7 ?lc7 ?_); (case lg7 => rfl); (case lp7 => rfl); (case lxx7 => rfl); (case lc7 => exact HMR.out))
              | (go_at_call 21; refine hcf.mono ?_; rintro e w1 ⟨rfl, hB1⟩; have HB1 : Hid (Below w.heap.size w w1) := hid (HB.out.trans (hB1.mono HB.out.size)); have HC9 : w1.cell? ⟨b, o + k * 31 + 9, none⟩ = some (.slice y.vp.a yn y.vp.c) := (by rw [← hvn]; exact (hB1.cell (p := ⟨b, o + k * 31 + 9, none⟩) (Nat.lt_of_lt_of_le (hb (by omega)) HB.out.size)).trans (HC.out 9 _ rfl)); clear hB1)
              | fail)
            go_roundw
            case rel => exact ⟨k + 1, by omega, by omega, by go_num, hid (fun a ha => by
    rw [List.take_add_one, HY.out] at ha
    rcases List.mem_append.1 ha with ha | ha
    · exact HF.out a ha
    · simp at ha; subst ha; unfold fitK; rw [← HFM.out, ← HYN.out, decide_eq_true (by omega : yn ≤ 100)]; rfl), HB1⟩
            case measure => first | omega | (simp [RowKit.intOf]; omega)
      · have hlti : ((k : Int) < m) := by omega
        have h60i : ¬ ((k : Int) ≤ 60) := by omega
        have hm60 : decide ((m : Int) ≤ 60) = false := decide_eq_false (by omega)
        go_wp2_with fail
        go_ret
        exact ⟨false, rfl, fun h => (by cases h), HB.out⟩
    · have hlti : ¬ ((k : Int) < m) := by omega
      have hkm : k = m := by omega
      by_cases h60 : m ≤ 60
      · have hm60 : decide ((m : Int) ≤ 60) = true := decide_eq_true (by omega)
        go_wp2_with fail
        go_ret
        exact ⟨true, rfl, fun _ => ⟨by rw [← HN.out]; exact h60, fun a ha => HF.out a (by rw [hkm, HN.out, List.take_length]; exact ha)⟩, HB.out⟩
      · have hm60 : decide ((m : Int) ≤ 60) = false := decide_eq_false (by omega)
        go_wp2_with fail
        go_ret
        exact ⟨false, rfl, fun h => (by cases h), HB.out⟩
end Go.Proofs.YtplodoindppleaaGreat

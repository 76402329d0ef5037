import Derived.Test.YtpkkmfppdhjpkaaGreatGa27
import Derived.Test.YtpkkmfppdhjpkaaGreatGa32
import Derived.Test.YtpkkmfppdhjpkaaGreatGa31

/- A slice of one entry written out; a record of an entry. -/
namespace Go.Proofs.YtpkkmfppdhjpkaaGreat
set_option linter.unusedVariables false
open Go.RowKit
open Go.Lib (hid)

theorem fold_cells : ∀ (l : List Value) (k off : Nat) (A : Array Value), ((l.zipIdx k).foldl (fun acc p => acc.setIfInBounds (off + p.2) p.1) A).size = A.size ∧
    ∀ j, ((l.zipIdx k).foldl (fun acc p => acc.setIfInBounds (off + p.2) p.1) A)[j]? = if off + k ≤ j ∧ j < off + k + l.length ∧ j < A.size then l[j - (off + k)]? else A[j]?
  | [], k, off, A => ⟨rfl, fun j => by
    rw [if_neg (by simp; omega)]; rfl⟩
  | c :: l, k, off, A => by
    rw [List.zipIdx_cons, List.foldl_cons]
    obtain ⟨h1, h2⟩ := fold_cells l (k + 1) off (A.setIfInBounds (off + k) c)
    refine ⟨h1.trans (by simp), fun j => ?_⟩
    rw [h2 j]
    simp only [Array.size_setIfInBounds, Array.getElem?_setIfInBounds, List.length_cons]
    by_cases hj : off + k = j
    · subst hj
      rw [if_neg (fun hh => absurd hh.1 (by omega))]
      by_cases hs : off + k < A.size
      · rw [if_pos rfl, if_pos hs, if_pos ⟨Nat.le_refl _, by omega, hs⟩]; simp
      · rw [if_pos rfl, if_neg hs, if_neg (fun hh => hs hh.2.2), Array.getElem?_eq_none (by omega)]
    · rw [if_neg hj]
      by_cases hin : off + (k + 1) ≤ j ∧ j < off + (k + 1) + l.length ∧ j < A.size
      · rw [if_pos hin, if_pos ⟨by omega, by omega, hin.2.2⟩, show j - (off + k) = (j - (off + (k + 1))) + 1 by omega]; rfl
      · rw [if_neg hin, if_neg (fun hh => hin ⟨by omega, by omega, hh.2.2⟩)]
theorem fill_all (cs A : Array Value) (h : A.size = cs.size) : cs.zipIdx.foldl (fun acc (p : Value × Nat) => acc.setIfInBounds (0 + p.2) p.1) A = cs := by
  rw [← Array.foldl_toList, Array.toList_zipIdx]
  obtain ⟨h1, h2⟩ := fold_cells cs.toList 0 0 A
  apply Array.ext_getElem?
  intro j
  rw [h2 j]
  by_cases hj : j < cs.size
  · rw [if_pos (by simp; omega)]; simp
  · rw [if_neg (by simp; omega), Array.getElem?_eq_none (by omega), Array.getElem?_eq_none (by omega)]
theorem run_bs1 {t T : TypeId} {z : Value} {cs : Array Value} {K : Nat} (ht : Tryz.prog.underlying t = some (.slice T)) (hs : ∀ w, (sizeOf T).run Tryz.prog w = .ok K w) (hz : ∀ w, (zeroValue T).run Tryz.prog w = .ok z w) (hK : cs.size = K) (h0 : K ≠ 0) (h1 : K ≤ 100) (w : World) :
    (Instr.buildSlice t 1 #[(0, .agg cs)]).run Tryz.prog w = .ok (.slice (some ⟨w.heap.size, 0, none⟩) 1 1) (w.alloc (.cells cs T)) := by
  subst hK
  have hf : Instr.fill (fun i => some (i * cs.size, cs.size)) ((Array.range (1 * cs.size)).map (z.cells[· % z.cells.size]!)) [(0, .agg cs)] = some cs := by
    unfold Instr.fill
    simp only [Nat.zero_mul, Value.cells]
    rw [if_neg (by simp)]
    unfold Instr.fill
    rw [fill_all _ _ (by simp)]
  unfold Instr.buildSlice
  simp only [Sem.run_bind, run_underlying ht, Result.andThen_ok, hs w]
  have e24 : (2 : Nat) ^ 24 = 16777216 := by simp
  rw [e24, if_neg (show ¬ (1 * cs.size > 16777216) by omega), if_neg (show ¬ 1 * cs.size = 0 by omega)]
  simp only [Sem.run_bind, hz w, Result.andThen_ok, Sem.run_pure]
  rw [hf]
  simp only [Sem.run_bind, Sem.run_pure]
  rfl
theorem wpList_bs1 {ops : Array Oper} {rest : List Oper} {op : Oper} {a : Act} {w : World} {Q : Exit → Act → World → Prop} {x : Operand} {t T : TypeId} {z : Value} {K : Nat} (cs : Array Value) (hgd : op.guard = none) (ho : op.op = .buildSlice t 1 #[(0, x)]) (hx : a.eval x = .agg cs)
    (ht : Tryz.prog.underlying t = some (.slice T)) (hs : ∀ w, (sizeOf T).run Tryz.prog w = .ok K w) (hz : ∀ w, (zeroValue T).run Tryz.prog w = .ok z w) (hK : cs.size = K) (h0 : K ≠ 0) (h1 : K ≤ 100)
    (h : ∀ W, W.heap[w.heap.size]? = some (.cells cs T (0, 0)) → Below w.heap.size w W → W = w.alloc (.cells cs T) → wpList Tryz.prog ops Q rest (a.put op.dst (.slice (some ⟨w.heap.size, 0, none⟩) 1 1)) W) : wpList Tryz.prog ops Q (op :: rest) a w := by
  refine wpList_plain hgd fun _ hK' => ?_
  unfold Oper.wp execOp
  simp only [ho, List.map_toArray, List.map_cons, List.map_nil, hx, Sem.run_bind, run_bs1 ht hs hz hK h0 h1 w, Result.andThen_ok]
  exact hK' _ _ (h _ (heap_alloc_new w _) ((Below.refl _ w).alloc (Nat.le_refl _) _) rfl)
theorem fill_tail (c : Value) (cs A : Array Value) (h : A.size = cs.size + 1) (hc : A[0]? = some c) : cs.zipIdx.foldl (fun acc (p : Value × Nat) => acc.setIfInBounds (1 + p.2) p.1) A = #[c] ++ cs := by
  rw [← Array.foldl_toList, Array.toList_zipIdx]
  obtain ⟨h1, h2⟩ := fold_cells cs.toList 0 1 A
  apply Array.ext_getElem?
  intro j
  rw [h2 j]
  by_cases h0 : j = 0
  · subst h0; rw [if_neg (fun hh => absurd hh.1 (by omega)), hc]; simp only [Array.getElem?_append, List.size_toArray, List.length_singleton]; rfl
  · by_cases hj : j < cs.size + 1
    · rw [if_pos ⟨by omega, by simp; omega, by omega⟩, Array.getElem?_append_right (by simp; omega)]; simp
    · rw [if_neg (fun hh => hj (by omega)), Array.getElem?_eq_none (by omega), Array.getElem?_eq_none (by simp; omega)]
theorem newCells {W : World} {q : Nat} {T : TypeId} {e : Ev} (h : Ob W q T e) : ∀ (j : Nat) u, e.list[j]? = some u → W.cell? ((⟨q, 0, none⟩ : Addr).add j) = some u := fun j u hu => by
  rw [addr_add]; exact h.cell hu
theorem wpList_bsE {ops : Array Oper} {rest : List Oper} {op : Oper} {a : Act} {w : World} {Q : Exit → Act → World → Prop} {x : Operand} (e : Ev) (hgd : op.guard = none) (ho : op.op = .buildSlice 22 1 #[(0, x)]) (hx : a.eval x = .agg e.arr)
    (h : ∀ W, Ob W w.heap.size 48 e → Below w.heap.size w W → wpList Tryz.prog ops Q rest (a.put op.dst (.slice (some ⟨w.heap.size, 0, none⟩) 1 1)) W) : wpList Tryz.prog ops Q (op :: rest) a w :=
  wpList_bs1 e.arr hgd ho hx Tryz.underlying22 Tryz.sizeOf48 Tryz.zeroValue48 (Ev.size e) (by decide) (by decide) fun W h1 h2 _ => h W h1 h2
theorem wpList_apE {ops : Array Oper} {rest : List Oper} {op : Oper} {a : Act} {w : World} {Q : Exit → Act → World → Prop} {s x : Operand} {v : Value} {es : List Ev} {B q : Nat} (e : Ev) (hgd : op.guard = none) (ho : op.op = .call { callee := .builtin .append, args := #[s, x], argTypes := #[22, 22] }) (hs : a.eval s = v) (hx : a.eval x = .slice (some ⟨q, 0, none⟩) 1 1)
    (hown : OwnE w B v es) (hq : Ob w q 48 e) (hl : es.length ≤ 100000) (hB : B ≤ w.heap.size) (h : ∀ v' W, OwnE W B v' (es ++ [e]) → w.grownBy W v.ownBlock → wpList Tryz.prog ops Q rest (a.put op.dst v') W) : wpList Tryz.prog ops Q (op :: rest) a w := by
  obtain ⟨i0, hi, hz0, hz1, hz2⟩ := info_parts Tryz.infoEz
  refine wpList_append_own w hgd s x 22 ho B 48 i0 _ 19 192 Tryz.underlying22 hi hz0 hz1 hz2 rfl (by decide) v es.length _ hs hown ⟨q, 0, none⟩ 1 1 e.list hx (kE e) (newCells hq) (oneE e) (by unfold maxLen; omega) (by omega) hB ?_
  intro v' W hown' hg _
  refine h v' W ?_ hg
  unfold OwnE OwnG
  rw [flatG_append, flatG_one, List.length_append, List.length_singleton]
  exact hown'
theorem wpList_bsR {ops : Array Oper} {rest : List Oper} {op : Oper} {a : Act} {w : World} {Q : Exit → Act → World → Prop} {x : Operand} (e : Ev) (hgd : op.guard = none) (ho : op.op = .buildSlice 45 1 #[(0, x)]) (hx : a.eval x = .agg e.arr)
    (h : ∀ W, Ob W w.heap.size 44 e → Below w.heap.size w W → wpList Tryz.prog ops Q rest (a.put op.dst (.slice (some ⟨w.heap.size, 0, none⟩) 1 1)) W) : wpList Tryz.prog ops Q (op :: rest) a w :=
  wpList_bs1 e.arr hgd ho hx Tryz.underlying45 Tryz.sizeOf44 Tryz.zeroValue44 (Ev.size e) (by decide) (by decide) fun W h1 h2 _ => h W h1 h2
theorem wpList_apR {ops : Array Oper} {rest : List Oper} {op : Oper} {a : Act} {w : World} {Q : Exit → Act → World → Prop} {s x : Operand} {v : Value} {es : List Ev} {B q : Nat} (e : Ev) (hgd : op.guard = none) (ho : op.op = .call { callee := .builtin .append, args := #[s, x], argTypes := #[45, 45] }) (hs : a.eval s = v) (hx : a.eval x = .slice (some ⟨q, 0, none⟩) 1 1)
    (hown : OwnR w B v es) (hq : Ob w q 44 e) (hl : es.length ≤ 100000) (hB : B ≤ w.heap.size) (h : ∀ v' W, OwnR W B v' (es ++ [e]) → w.grownBy W v.ownBlock → wpList Tryz.prog ops Q rest (a.put op.dst v') W) : wpList Tryz.prog ops Q (op :: rest) a w := by
  obtain ⟨i0, hi, hz0, hz1, hz2⟩ := info_parts Tryz.infoRz
  refine wpList_append_own w hgd s x 45 ho B 44 i0 _ 19 192 Tryz.underlying45 hi hz0 hz1 hz2 rfl (by decide) v es.length _ hs hown ⟨q, 0, none⟩ 1 1 e.list hx (kE e) (newCells hq) (oneE e) (by unfold maxLen; omega) (by omega) hB ?_
  intro v' W hown' hg _
  refine h v' W ?_ hg
  unfold OwnR OwnG
  rw [flatG_append, flatG_one, List.length_append, List.length_singleton]
  exact hown'
end Go.Proofs.YtpkkmfppdhjpkaaGreat
/- The program's encode and wrap, of one entry. -/
namespace Go.Proofs.YtpkkmfppdhjpkaaGreat
set_option linter.unusedVariables false
open Go.RowKit
open Go.Lib (hid)

theorem value_len {t : Int} {l : List C7} (h : setB l = true ∧ 0 ≤ t ∧ t ≤ 1099511627776) (hl : l.length ≤ 80) : (valueBytes t l).length ≤ 3372 := by
  unfold valueBytes cmdsBytes
  rw [List.length_append, List.length_append]
  have h1 := oneN_six (n := t.toNat) (by omega)
  have h2 := oneN_six (n := l.length) (by omega)
  have h3 : ∀ l : List C7, l.all C7.ok = true → (cmdsB l).length ≤ 42 * l.length := by
    intro l
    induction l with
    | nil => intro _; simp [cmdsB]
    | cons c l ih =>
      intro h
      rw [List.all_cons, Bool.and_eq_true] at h
      have := ih h.2
      have := bytes_most h.1
      unfold cmdsB at *
      rw [List.flatMap_cons, List.length_append, List.length_cons]
      omega
  have := h3 l (all_ok h.1)
  omega
/-- A record is not long. -/
theorem rec_len {c : Nat} {x : En} (hr : x.right = true) (hs : x.short 80) (hc : c ≤ 65535) : 1 ≤ (recB c x).length ∧ (recB c x).length ≤ 11000 := by
  have hf := right_fine hr
  have h0 := bytes_most hf.c
  have p1 := oneN_six (n := c) (by omega)
  have p0 := List.length_pos_iff.2 (oneN_ne c)
  have v1 := value_len hf.f hs.1
  have v2 := value_len hf.a hs.2.1
  have v3 := value_len hf.v hs.2.2
  have q3 := putAll_len [x.e.pr, x.e.lo, x.e.hi] (List.all_eq_true.2 fun y hy => in40_true.2 (FineE.three hf y hy))
  have q1 := putAll_len [x.e.ab] (List.all_eq_true.2 fun y hy => in40_true.2 (FineE.one hf y hy))
  have q2 := putAll_len [markI x.e.fr, markI x.e.dn] (List.all_eq_true.2 fun y hy => in40_true.2 (marks_two x.e.fr x.e.dn y hy))
  unfold recB entB
  simp only [List.length_append, cmdsB_one, List.length_cons, List.length_nil] at *
  omega
theorem putAll_nat (c : Nat) : putAll [(c : Int)] = oneN c := by unfold putAll; simp
set_option maxHeartbeats 4000000 in
set_option maxRecDepth 100000 in
theorem cJEnc {c q : Nat} {x : En} {w : World} (hq : Ob w q 48 x.e) (hx : x.at w) (hr : x.right = true) (hs : x.short 80) (hc : c ≤ 65535) :
    Calls Tryz.prog 31 #[.int .i64 c, .slice (some ⟨q, 0, none⟩) 1 1] w fun z w' => ∃ r s, z = .returned (.tuple #[r, .int .i64 0]) ∧ OwnL w' w.heap.size r [(s, recB c x)] ∧ Below w.heap.size w w' := by
  obtain ⟨i0, hi, hz0, hz1, hz2⟩ := info_parts Tryz.infoS
  have HLEN := hid (rec_len hr hs hc)
  have HRG : Hid (∀ y ∈ [(c : Int)], 0 ≤ y ∧ y ≤ 1099511627776) := hid (by intro y hy; simp at hy; subst hy; omega)
  have HQ := hid hq
  have HX := hid hx
  have hqs := (Array.getElem?_eq_some_iff.1 hq).1
  have HQS := hid hqs
  clear hq hx hqs
  go_enter Tryz.func31, Tryz.ntmps31
  go_wp2_with fail
  go_at_call 53
  refine (putN0 (SlN.lit1 rfl) (by simp) HRG.out).mono ?_
  rintro z w1 ⟨r1, rfl, hO, hB⟩
  rw [putAll_nat] at hO
  have hB1 : Below w.heap.size w w1 := ((Below.refl _ w).alloc (Nat.le_refl _) _).trans (hB.mono (by simp))
  have HB1 := hid hB1
  have HH := hid hO.slb
  obtain ⟨g1, c1, n1, rfl, -⟩ := hO.asSlice
  clear hO hB hB1 HRG
  go_wp2_with fail
  go_loopw [8, 21] (fun r i wr => Below w1.heap.size w1 wr ∧ ((i = .int .i64 0 ∧ r = .slice none 0 0) ∨ (i = .int .i64 1 ∧ ∃ s, OwnL wr w.heap.size r [(s, recB c x)]))) (fun _ i _ => 2 - (intOf i).toNat)
  case atStart => exact ⟨Below.refl _ _, .inl ⟨rfl, rfl⟩⟩
  case round =>
    obtain ⟨hB, ⟨rfl, rfl⟩ | ⟨rfl, s, hL⟩⟩ := hrel
    · have HB := hid hB
      have HBW := hid (HB1.out.trans (hB.mono HB1.out.size))
      have HQW := hid (heapB HQ.out HBW.out HQS.out)
      have HHW := hid (HH.out.on hB)
      have HXW := hid (HX.out.on HBW.out)
      clear hB
      go_wp2_with (first
        | ((with_reducible refine loadC (x := ?cx1) (b := ?cb1) (T := 48) x.e ?cg1 ?co1 ?cxx1 ?cc1 ?_); (case cg1 => rfl); (case co1 => rfl); (case cxx1 => rfl); (case cc1 => exact HQW.out))
        | ((with_reducible refine storeC (x := ?sx1) (y := ?sy1) (b := ?sb1) (T := 48) x.e ?sg1 ?so1 ?sxx1 ?syy1 ?sc1 ?_); (case sg1 => rfl); (case so1 => rfl); (case sxx1 => rfl); (case syy1 => rfl); (case sc1 => exact ⟨_, heap_alloc_new wr zeroEc, rfl⟩); intro W2 hO2 hU2; have hb2 : Below wr.heap.size wr W2 := ((Below.refl _ wr).alloc (Nat.le_refl _) _).trans (hU2.below _ (Nat.le_refl _)); have HB2 := hid hb2; have HO2 := hid hO2; clear hO2 hU2 hb2)
        | ((with_reducible refine loadC (x := ?cx2) (b := ?cb2) (T := 48) x.e ?cg2 ?co2 ?cxx2 ?cc2 ?_); (case cg2 => rfl); (case co2 => rfl); (case cxx2 => rfl); (case cc2 => exact HO2.out))
        | fail)
      go_at_call 54
      have hX2 := HXW.out.on HB2.out
      refine (cEncode_yes hX2.1 hX2.2.1 hX2.2.2 (by have := hs.1; omega) (by have := hs.2.1; omega) (by have := hs.2.2; omega) hr).mono ?_
      rintro z w3 ⟨r3, rfl, hO3, hB3⟩
      have hB13 : Below wr.heap.size wr w3 := HB2.out.trans (hB3.mono HB2.out.size)
      have HB3 := hid (HB.out.trans (hB13.mono HB.out.size))
      have HBW3 := hid (HBW.out.trans (hB13.mono HBW.out.size))
      have HH3 := hid (HHW.out.on hB13)
      have HE3 := hid hO3.slb
      obtain ⟨g3, c3, n3, rfl, -⟩ := hO3.asSlice
      clear hO3 hB3 hB13 hX2 HB HBW HQW HHW HXW HB2 HO2
      go_wp2_with fail
      go_at_call 55
      obtain ⟨W4, hW4⟩ : ∃ W4, W4 = w3.alloc (.cells #[Value.slice g1 n1 c1, Value.slice g3 n3 c3] 63) := ⟨_, rfl⟩
      rw [← hW4]
      have hal : Below w3.heap.size w3 W4 := by rw [hW4]; exact (Below.refl _ w3).alloc (Nat.le_refl _) _
      have hq4 : W4.heap[w3.heap.size]? = some (.cells #[Value.slice g1 n1 c1, Value.slice g3 n3 c3] 63 (0, 0)) := by rw [hW4]; exact heap_alloc_new w3 _
      have hRow : RowsB W4 w3.heap.size 0 [(⟨g1, n1, c1⟩, oneN c), (⟨g3, n3, c3⟩, entB x.e x.f x.a x.v)] := fun j p hp => by
        rcases j with _ | _ | j
        · simp at hp; subst hp; exact ⟨(cellAt' hq4 0).trans rfl, HH3.out.on hal⟩
        · simp at hp; subst hp; exact ⟨(cellAt' hq4 1).trans rfl, HE3.out.on hal⟩
        · simp at hp
      have hcat : catB [((⟨g1, n1, c1⟩ : Sv), oneN c), (⟨g3, n3, c3⟩, entB x.e x.f x.a x.v)] = recB c x := by simp [catB, recB]
      have hlens : lensB [((⟨g1, n1, c1⟩ : Sv), oneN c), (⟨g3, n3, c3⟩, entB x.e x.f x.a x.v)] = (recB c x).length := by rw [← hcat, cat_len]
      have hsz3 : W4.heap.size = w3.heap.size + 1 := by rw [hW4]; simp
      refine (cConcat (cap := 2) hRow (by omega) (by rw [hlens]; exact HLEN.out.1) (by rw [hlens]; have := HLEN.out.2; omega) (by simp)).mono ?_
      rintro z w5 ⟨r5, rfl, hO5, hB5⟩
      rw [hcat] at hO5
      have hB35 : Below w3.heap.size w3 w5 := hal.trans (hB5.mono hal.size)
      have HB5 := hid (HB3.out.trans (hB35.mono HB3.out.size))
      have HBW5 := hid (HBW3.out.trans (hB35.mono HBW3.out.size))
      obtain ⟨s5, rfl, hO6⟩ := hO5.sv
      obtain ⟨g5, n5, c5⟩ := s5
      have HO5 := hid (own_monoB hO6 (Nat.le_trans HBW3.out.size hal.size))
      have hsz := HBW5.out.size
      clear hO5 hO6 hB5 hB35 hRow hcat hlens hal hq4 hW4 hsz3 HB3 HBW3 HH3 HE3
      go_wp2_with (at_builtin; refine wpList_append_own _ rfl _ _ 66 rfl w.heap.size 63 i0 _ 1 24 Tryz.underlying66 hi hz0 hz1 hz2 rfl (by decide) (.slice none 0 0) 0 [] rfl (World.ownsRow_nil _ _ _ _) ⟨w5.heap.size, 0, none⟩ 1 1 [.slice g5 n5 c5] rfl rfl (new_one rfl) ?c2 ?c3 ?c4 ?c5 ?_)
      case c2 => intro u hu; simp at hu; subst hu; rfl
      case c3 => unfold maxLen; simp
      case c4 => simp
      case c5 => first | omega | (simp; omega)
      intro v6 w6 hown' hgrow _
      have R := OwnL.more (s := ⟨g5, n5, c5⟩) (ps := []) (OwnL.nil _ _) (World.ownsRow.alloc HO5.out _) (HBW5.out.alloc hsz _) (by simp; omega) hown' hgrow
      have hR2 : Below w1.heap.size w1 w6 := (HB5.out.alloc HB5.out.size _).grown hgrow (by have := HB5.out.size; simp; omega) (fun k hk => by cases hk)
      have HRR := hid R
      have HR2 := hid hR2
      obtain ⟨g6, c6, n6, rfl, -⟩ := R.1.asSlice
      clear hown' hgrow R hR2
      go_wp2_with fail
      go_roundw
      case rel => exact ⟨HR2.out, .inr ⟨rfl, ⟨g5, n5, c5⟩, HRR.out.1⟩⟩
      case measure => simp [intOf]
    · have HB := hid hB
      have HL := hid hL
      obtain ⟨g6, c6, n6, rfl, -⟩ := hL.asSlice
      clear hL hB
      go_wp2_with fail
      go_ret2
      exact ⟨_, s, rfl, HL.out, HB1.out.trans (HB.out.mono HB1.out.size)⟩
end Go.Proofs.YtpkkmfppdhjpkaaGreat
/- The program's wrap, of one record. -/
namespace Go.Proofs.YtpkkmfppdhjpkaaGreat
set_option linter.unusedVariables false
open Go.RowKit
open Go.Lib (hid)

set_option maxHeartbeats 4000000 in
set_option maxRecDepth 100000 in
theorem cJWrap {v : Value} {l : List UInt8} {w : World} (h : SlL w v [l]) (h1 : 1 ≤ l.length) (h2 : l.length ≤ 65535) :
    Calls Tryz.prog 32 #[v] w fun z w' => ∃ r, z = .returned (.tuple #[r, .int .i64 0]) ∧ OwnB w' w.heap.size r (frameB l) ∧ Below w.heap.size w w' := by
  obtain ⟨b, o, cap, a, ps, hp, rfl, hcap, ha, hr, hl⟩ := h
  obtain rfl : a = some ⟨b, o, none⟩ := ha (by simp)
  have hbl := hl (by simp)
  obtain ⟨⟨⟨pa, pn, pc⟩, l'⟩, rfl⟩ : ∃ p, ps = [p] := by
    rcases ps with _ | ⟨p, _ | ⟨q, ps⟩⟩
    · simp at hp
    · exact ⟨p, rfl⟩
    · simp at hp
  obtain rfl : l' = l := by simpa using hp
  have h0 := hr 0 _ rfl
  have k0 : w.cell? ⟨b, o, none⟩ = some (.slice pa pn pc) := h0.1
  have HS := hid h0.2
  have HBL := hid hbl
  have hlen1 : ([l'] : List (List UInt8)).length = 1 := rfl
  rw [hlen1] at hcap ⊢
  clear h0 hr hl ha hp hlen1 hbl
  go_enter Tryz.func32, Tryz.ntmps32
  go_wp2_with fail
  go_loopw [4, 11] (fun r i wr => Below w.heap.size w wr ∧ ((i = .int .i64 0 ∧ r = .slice none 0 0) ∨ (i = .int .i64 1 ∧ OwnB wr w.heap.size r (frameB l')))) (fun _ i _ => 2 - (intOf i).toNat)
  case atStart => exact ⟨Below.refl _ _, .inl ⟨rfl, rfl⟩⟩
  case round =>
    obtain ⟨hB, ⟨rfl, rfl⟩ | ⟨rfl, hL⟩⟩ := hrel
    · have HB := hid hB
      have HSW := hid (HS.out.on hB)
      have k1 : wr.cell? ⟨b, o, none⟩ = some (.slice pa pn pc) := (hB.cell (p := ⟨b, o, none⟩) HBL.out).trans k0
      clear hB
      go_wp2_with fail
      go_at_call 56
      refine (cWrap_yes HSW.out h1 h2).mono ?_
      rintro z w3 ⟨r3, rfl, hO3, hB3⟩
      have HB3 := hid (HB.out.trans (hB3.mono HB.out.size))
      have HO3 := hid hO3.slb
      obtain ⟨g3, c3, n3, rfl, -⟩ := hO3.asSlice
      have hfl : (frameB l').length ≤ 65541 := by rw [frame_len]; omega
      clear hO3 hB3 HB HSW k1
      go_wp2_with (at_builtin; refine wpList_append_slb rfl _ _ rfl w.heap.size (.slice none 0 0) [] rfl (OwnB.nil _ _) _ (frameB l') rfl HO3.out (by simp; omega) HB3.out.size ?_; intro v' w' ho' hg; have HO4 := hid ho'; have HB4 := hid (HB3.out.grown hg HB3.out.size (fun k hk => by cases hk)); obtain ⟨g4, c4, n4, rfl, -⟩ := ho'.asSlice; clear ho' hg)
      go_roundw
      case rel => exact ⟨HB4.out, .inr ⟨rfl, by have := HO4.out; simpa using this⟩⟩
      case measure => simp [intOf]
    · have HB := hid hB
      have HL := hid hL
      obtain ⟨g6, c6, n6, rfl, -⟩ := hL.asSlice
      clear hL hB
      go_wp2_with fail
      go_ret2
      exact ⟨_, rfl, HL.out, HB.out⟩
end Go.Proofs.YtpkkmfppdhjpkaaGreat

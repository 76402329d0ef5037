/- The program's book: Amend. -/
import Derived.Test.YtdgllpfccdbdnaaBCancel
namespace Go.Proofs.Ytdgllpfccdbdnaa
set_option linter.unusedVariables false
open Go.RowKit
open Go.Lib (hid)

theorem flat_set : ∀ (l : List Od) (k : Nat) (o : Od) (q : Int), l[k]? = some o → (flatG Od.cells l).set (k * 4 + 3) (.int .i64 q) = flatG Od.cells (l.set k { o with n := q })
  | [], k, o, q, h => by simp at h
  | x :: xs, 0, o, q, h => by
    simp at h; subst h
    rfl
  | x :: xs, k + 1, o, q, h => by
    have ih := flat_set xs k o q (by simpa using h)
    rw [List.set_cons_succ, flatG_cons, flatG_cons, ← ih, List.set_append_right _ _ (by rw [kO]; omega), kO, show (k + 1) * 4 + 3 - 4 = k * 4 + 3 by omega]
theorem row_set {w : World} {B g n cap : Nat} {l : List Od} (h : OwnO w B (.slice (some ⟨g, 0, none⟩) l.length cap) l) {k : Nat} {o : Od} (ho : l[k]? = some o) (q : Int) :
    RowTo w (w.setCell ⟨g, k * 4 + 3, none⟩ (.int .i64 q)) B (.slice (some ⟨g, 0, none⟩) l.length cap) (.slice (some ⟨g, 0, none⟩) l.length cap) (l.set k { o with n := q }) := by
  have h1 := (World.ownsRow.stored h (k * 4 + 3) (.int .i64 q)).1
  rw [flat_set l k o q ho] at h1
  refine ⟨?_, Tch.set _ _ _ rfl, Fr.refl _ _⟩
  show World.ownsRow _ _ _ _ _ _ _
  rw [List.length_set]
  exact h1
theorem bk_row0 {w w2 : World} {B p : Nat} {va vb : Value} {bs ss l' : List Od} (h : BkA w B p va vb bs ss) (hR : RowTo w w2 B va va l') : BkTo w w2 B p va vb l' ss :=
  ⟨va, vb, ⟨h.bk.tch hR.2.1 (h.ra.off h.bk), hR.1, h.rb.tch hR.2.1 fun k hk e => h.ap k e hk, h.ap, h.hp⟩, hR.2.1.mono fun k hk => .inr (.inl hk), Fr.refl _ _, Fr.refl _ _⟩
theorem bk_row1 {w w2 : World} {B p : Nat} {va vb : Value} {bs ss l' : List Od} (h : BkA w B p va vb bs ss) (hR : RowTo w w2 B vb vb l') : BkTo w w2 B p va vb bs l' :=
  ⟨va, vb, ⟨h.bk.tch hR.2.1 (h.rb.off h.bk), h.ra.tch hR.2.1 fun k hk e => h.ap k hk e, hR.1, h.ap, h.hp⟩, hR.2.1.mono fun k hk => .inr (.inr hk), Fr.refl _ _, Fr.refl _ _⟩
theorem BkTo.step {w w1 w2 : World} {B p : Nat} {va vb : Value} {bs1 ss1 bs2 ss2 : List Od} (h : BkTo w w1 B p va vb bs1 ss1) (h2 : ∀ va' vb', BkA w1 B p va' vb' bs1 ss1 → BkTo w1 w2 B p va' vb' bs2 ss2) : BkTo w w2 B p va vb bs2 ss2 := by
  obtain ⟨va1, vb1, h1, t1, f1, g1⟩ := h
  obtain ⟨va2, vb2, h3, t2, f2, g2⟩ := h2 va1 vb1 h1
  refine ⟨va2, vb2, h3, t1.next t2 fun k hk => ?_, f1.trans f2 t1.size, g1.trans g2 t1.size⟩
  rcases hk with rfl | hk | hk
  · exact .inl (.inl rfl)
  · rcases f1 k hk with e | e
    · exact .inl (.inr (.inl e))
    · exact .inr e
  · rcases g1 k hk with e | e
    · exact .inl (.inr (.inr e))
    · exact .inr e
/-- Two acts, one behind the other, the second of which asks only what the first one left. -/
theorem BkTo.then {P : Program} {f : FuncId} {args : Array Value} {w w1 : World} {B p : Nat} {va vb : Value} {bs1 ss1 bs2 ss2 : List Od} {v : Value} (h : BkTo w w1 B p va vb bs1 ss1)
    (h2 : ∀ va' vb', BkA w1 B p va' vb' bs1 ss1 → Calls P f args w1 fun e w' => e = .returned v ∧ BkTo w1 w' B p va' vb' bs2 ss2) : Calls P f args w1 fun e w' => e = .returned v ∧ BkTo w w' B p va vb bs2 ss2 := by
  obtain ⟨va1, vb1, h1, t1, f1, g1⟩ := h
  refine (h2 va1 vb1 h1).mono fun e w' ⟨he, h3⟩ => ⟨he, ?_⟩
  obtain ⟨va2, vb2, h3, t2, f2, g2⟩ := h3
  refine ⟨va2, vb2, h3, t1.next t2 fun k hk => ?_, f1.trans f2 t1.size, g1.trans g2 t1.size⟩
  rcases hk with rfl | hk | hk
  · exact .inl (.inl rfl)
  · rcases f1 k hk with e | e
    · exact .inl (.inr (.inl e))
    · exact .inr e
  · rcases g1 k hk with e | e
    · exact .inl (.inr (.inr e))
    · exact .inr e
theorem less_set (l : List Od) (k : Nat) (x : Od) : less (l.set k x) k = less l k := by
  unfold less
  rw [List.take_set, List.drop_set, if_pos (by omega)]
  congr 1
  rw [List.set_eq_of_length_le (by simp; omega)]
theorem less_len {l : List Od} {k : Nat} (h : k < l.length) : (less l k).length + 1 = l.length := by unfold less; simp; omega

set_option maxHeartbeats 3200000 in
set_option maxRecDepth 100000 in
theorem cAmend_zero {w : World} {B p : Nat} {va vb : Value} {bs ss : List Od} (h : BkA w B p va vb bs ss) (hl : bs.length ≤ 1000 ∧ ss.length ≤ 1000) (id q : Int) (hq : q < 1) :
    Calls Try.prog 35 #[ptr p, .int .i64 id, .int .i64 q] w fun e w' => Told w w' B p va vb e 7 [] 0 bs ss := by
  skip
  have HB1 : Hid (Below (w.alloc box3).heap.size (w.alloc box3) (w.alloc box3)) := hid (Below.refl _ _)
  have HH := hid h
  clear h
  go_enter Try.func35, Try.ntmps35
  go_wp2_with (first
    | (go_at_call 56; refine HW.out.mono ?_; rintro e w1 ⟨rfl, hB1⟩; have HB1 := hid hB1; clear hB1)
    | (go_at_call 49; refine (cFailed _ _).mono ?_; rintro e w2 ⟨rfl, hB2⟩; have hB := HB1.out.trans (hB2.mono HB1.out.size); have hx := box3_at (obOn (heap_alloc_new w box3) (hB.mono (B' := w.heap.size + 1) (by simp)) (by omega)); obtain ⟨⟨k0, k1, k2⟩, fz, hz⟩ := hx; have HB := hid (below_box (hB.mono (B' := w.heap.size + 1) (by simp))); clear hB2 hB))
  refine bodyPost_ret (v := rpV 7 (.slice none 0 0) 0) (by simp [results, Try.results35, go_sem, k0, k1, k2]) rfl ⟨_, rfl, World.ownsRow_nil _ _ _ _, ?_⟩
  exact (BkTo.refl HH.out).on (((HB.out.setCell (Nat.le_refl _) _).setCell (Nat.le_refl _) _).setCell (Nat.le_refl _) _)

set_option maxHeartbeats 3200000 in
set_option maxRecDepth 100000 in
theorem cAmend_much {w : World} {B p : Nat} {va vb : Value} {bs ss : List Od} (h : BkA w B p va vb bs ss) (hl : bs.length ≤ 1000 ∧ ss.length ≤ 1000) (id q : Int) (hq : ¬ q < 1) (hq2 : 1048576 < q) :
    Calls Try.prog 35 #[ptr p, .int .i64 id, .int .i64 q] w fun e w' => Told w w' B p va vb e 1 [] 0 bs ss := by
  skip
  have HB1 : Hid (Below (w.alloc box3).heap.size (w.alloc box3) (w.alloc box3)) := hid (Below.refl _ _)
  have HH := hid h
  clear h
  go_enter Try.func35, Try.ntmps35
  go_wp2_with (first
    | (go_at_call 56; refine HW.out.mono ?_; rintro e w1 ⟨rfl, hB1⟩; have HB1 := hid hB1; clear hB1)
    | (go_at_call 49; refine (cFailed _ _).mono ?_; rintro e w2 ⟨rfl, hB2⟩; have hB := HB1.out.trans (hB2.mono HB1.out.size); have hx := box3_at (obOn (heap_alloc_new w box3) (hB.mono (B' := w.heap.size + 1) (by simp)) (by omega)); obtain ⟨⟨k0, k1, k2⟩, fz, hz⟩ := hx; have HB := hid (below_box (hB.mono (B' := w.heap.size + 1) (by simp))); clear hB2 hB))
  refine bodyPost_ret (v := rpV 1 (.slice none 0 0) 0) (by simp [results, Try.results35, go_sem, k0, k1, k2]) rfl ⟨_, rfl, World.ownsRow_nil _ _ _ _, ?_⟩
  exact (BkTo.refl HH.out).on (((HB.out.setCell (Nat.le_refl _) _).setCell (Nat.le_refl _) _).setCell (Nat.le_refl _) _)

set_option maxHeartbeats 3200000 in
set_option maxRecDepth 100000 in
theorem cAmend_none {w : World} {B p : Nat} {va vb : Value} {bs ss : List Od} (h : BkA w B p va vb bs ss) (hl : bs.length ≤ 1000 ∧ ss.length ≤ 1000) (id q : Int) (hq : ¬ q < 1) (hq2 : ¬ 1048576 < q) (ha : bs.any (isI id) = false) (hb : ss.any (isI id) = false) :
    Calls Try.prog 35 #[ptr p, .int .i64 id, .int .i64 q] w fun e w' => Told w w' B p va vb e 5 [] 0 bs ss := by
  have hal : Below w.heap.size w (w.alloc box3) := (Below.refl _ w).alloc (Nat.le_refl _) _
  have e1 : wOk bs ss id = false := by unfold wOk; rw [ha, hb]; rfl
  have HW := hid (cWhere (h.on hal) hl id)
  rw [e1] at HW
  clear ha hb e1 hal
  have HB1 : Hid (Below (w.alloc box3).heap.size (w.alloc box3) (w.alloc box3)) := hid (Below.refl _ _)
  have HH := hid h
  clear h
  go_enter Try.func35, Try.ntmps35
  go_wp2_with (first
    | (go_at_call 56; refine HW.out.mono ?_; rintro e w1 ⟨rfl, hB1⟩; have HB1 := hid hB1; clear hB1)
    | (go_at_call 49; refine (cFailed _ _).mono ?_; rintro e w2 ⟨rfl, hB2⟩; have hB := HB1.out.trans (hB2.mono HB1.out.size); have hx := box3_at (obOn (heap_alloc_new w box3) (hB.mono (B' := w.heap.size + 1) (by simp)) (by omega)); obtain ⟨⟨k0, k1, k2⟩, fz, hz⟩ := hx; have HB := hid (below_box (hB.mono (B' := w.heap.size + 1) (by simp))); clear hB2 hB))
  refine bodyPost_ret (v := rpV 5 (.slice none 0 0) 0) (by simp [results, Try.results35, go_sem, k0, k1, k2]) rfl ⟨_, rfl, World.ownsRow_nil _ _ _ _, ?_⟩
  exact (BkTo.refl HH.out).on (((HB.out.setCell (Nat.le_refl _) _).setCell (Nat.le_refl _) _).setCell (Nat.le_refl _) _)

set_option maxHeartbeats 3200000 in
set_option maxRecDepth 100000 in
theorem cAmend_0le {w : World} {B p : Nat} {va vb : Value} {bs ss : List Od} (h : BkA w B p va vb bs ss) (hl : bs.length ≤ 1000 ∧ ss.length ≤ 1000) (id q : Int) (hq : ¬ q < 1) (hq2 : ¬ 1048576 < q) (ha : bs.any (isI id) = true) (k : Nat) (hk : k = bs.findIdx (isI id)) (o : Od) (ho : bs[k]? = some o) (hm : ¬ o.n < q) :
    Calls Try.prog 35 #[ptr p, .int .i64 id, .int .i64 q] w fun e w' => Told w w' B p va vb e 0 [] q (bs.set k { o with n := q }) ss := by
  have hal : Below w.heap.size w (w.alloc box3) := (Below.refl _ w).alloc (Nat.le_refl _) _
  have e1 : wOk bs ss id = true := by unfold wOk; rw [ha]; rfl
  have e3 : wS bs ss id = 0 := by unfold wS; rw [ha]; rfl
  have e4 : wA bs ss id = (k : Int) := by unfold wA; rw [ha, hk]; rfl
  have HW := hid (cWhere (h.on hal) hl id)
  rw [e1, e3, e4] at HW
  have HH := hid h
  have hlt := (List.getElem?_eq_some_iff.1 ho).1
  obtain ⟨hpl, c0, c1, f0, f1⟩ := h.bk.cells
  rcases h.ra.shape with ⟨_, e⟩ | ⟨g, cap, rfl, hn, hm', hB, hg, hc, hf⟩
  · rw [e] at hlt; simp at hlt
  obtain ⟨o0, o1, o2, o3⟩ := hc k o ho
  have HS : Hid (∀ W, Below w.heap.size w W → BkTo W (W.setCell ⟨g, k * 4 + 3, none⟩ (.int .i64 q)) B p (.slice (some ⟨g, 0, none⟩) bs.length cap) vb (bs.set k { o with n := q }) ss) := hid fun W hW => bk_row0 (h.on hW) (row_set (n := 0) (h.on hW).ra ho q)
  have HR : Hid (∀ W1 W, BkTo W1 W B p (.slice (some ⟨g, 0, none⟩) bs.length cap) vb (bs.set k { o with n := q }) ss → BkTo W1 W B p (.slice (some ⟨g, 0, none⟩) bs.length cap) vb (bs.set k { o with n := q }) ss) := hid fun _ _ h => h
  have HFZ := hid (hf (k * 4 + 3))
  obtain ⟨n, hnl⟩ : ∃ n, n = bs.length := ⟨_, rfl⟩
  have hkn : k < n := by omega
  rw [← hnl] at hl c0 HS HH HR ⊢
  have HG := hid (And.intro hpl (And.intro c0 (And.intro hg (And.intro o0 (And.intro o1 (And.intro o2 o3))))))
  clear h ha e1 e3 e4 hal hk hc hn hm' hB hf hnl hg o0 o1 o2 o3 hpl c0 c1 f0 f1 ho 
  go_enter Try.func35, Try.ntmps35
  go_wp2_with (first
    | (go_at_call 56; refine HW.out.mono ?_; rintro e w1 ⟨rfl, hB1⟩; have hbb := below_box (hB1.mono (B' := w.heap.size + 1) (by simp)); have hq3 := obOn (heap_alloc_new w box3) (hB1.mono (B' := w.heap.size + 1) (by simp)) (by omega); have HSZ : Hid (w.heap.size < w1.heap.size) := hid (Array.getElem?_eq_some_iff.1 hq3).1; have HBX := hid hq3; have HB1 := hid hB1; have d0 := (hbb.cell (p := ⟨p, 0, none⟩) HG.out.1).trans HG.out.2.1; have d3 := (hbb.cell (p := ⟨g, k * 4 + 3, none⟩) HG.out.2.2.1).trans HG.out.2.2.2.2.2.2; have d4 := (hbb.frozen (p := ⟨g, k * 4 + 3, none⟩) HG.out.2.2.1).trans HFZ.out; have HS3 := hid (HS.out _ hbb); have hx1 := box3_at hq3; obtain ⟨⟨j0, j1, j2⟩, fz1, hz1⟩ := hx1; have hne : ¬ g = w.heap.size := (by have := HG.out.2.2.1; omega); have hne2 : ¬ w.heap.size = g := (by have := HG.out.2.2.1; omega); have hgb : g < w1.heap.size := Nat.lt_of_lt_of_le HG.out.2.2.1 hbb.size; have HBB := hid hbb; clear hB1 hbb hq3))
  have HT := hid (BkTo.n (below_box (HB1.out.mono (B' := w.heap.size + 1) (by simp))) HS3.out)
  refine bodyPost_ret (v := rpV 0 (.slice none 0 0) q) (by simp [results, Try.results35, go_sem, j0, j1, j2]) rfl ⟨_, rfl, World.ownsRow_nil _ _ _ _, ?_⟩
  exact BkN.to (((HT.out.set HH.out (Nat.le_refl _) HSZ.out _ _).set HH.out (Nat.le_refl _) HSZ.out _ _).set HH.out (Nat.le_refl _) HSZ.out _ _) (Nat.le_of_lt HSZ.out)

set_option maxHeartbeats 3200000 in
set_option maxRecDepth 100000 in
theorem cAmend_1le {w : World} {B p : Nat} {va vb : Value} {bs ss : List Od} (h : BkA w B p va vb bs ss) (hl : bs.length ≤ 1000 ∧ ss.length ≤ 1000) (id q : Int) (hq : ¬ q < 1) (hq2 : ¬ 1048576 < q) (ha : bs.any (isI id) = false) (hb : ss.any (isI id) = true) (k : Nat) (hk : k = ss.findIdx (isI id)) (o : Od) (ho : ss[k]? = some o) (hm : ¬ o.n < q) :
    Calls Try.prog 35 #[ptr p, .int .i64 id, .int .i64 q] w fun e w' => Told w w' B p va vb e 0 [] q bs (ss.set k { o with n := q }) := by
  have hal : Below w.heap.size w (w.alloc box3) := (Below.refl _ w).alloc (Nat.le_refl _) _
  have e1 : wOk bs ss id = true := by unfold wOk; rw [ha, hb]; rfl
  have e3 : wS bs ss id = 1 := by unfold wS; rw [ha, hb]; rfl
  have e4 : wA bs ss id = (k : Int) := by unfold wA; rw [ha, hb, hk]; rfl
  have HW := hid (cWhere (h.on hal) hl id)
  rw [e1, e3, e4] at HW
  have HH := hid h
  have hlt := (List.getElem?_eq_some_iff.1 ho).1
  obtain ⟨hpl, c0, c1, f0, f1⟩ := h.bk.cells
  rcases h.rb.shape with ⟨_, e⟩ | ⟨g, cap, rfl, hn, hm', hB, hg, hc, hf⟩
  · rw [e] at hlt; simp at hlt
  obtain ⟨o0, o1, o2, o3⟩ := hc k o ho
  have HS : Hid (∀ W, Below w.heap.size w W → BkTo W (W.setCell ⟨g, k * 4 + 3, none⟩ (.int .i64 q)) B p va (.slice (some ⟨g, 0, none⟩) ss.length cap) bs (ss.set k { o with n := q })) := hid fun W hW => bk_row1 (h.on hW) (row_set (n := 0) (h.on hW).rb ho q)
  have HR : Hid (∀ W1 W, BkTo W1 W B p va (.slice (some ⟨g, 0, none⟩) ss.length cap) bs (ss.set k { o with n := q }) → BkTo W1 W B p va (.slice (some ⟨g, 0, none⟩) ss.length cap) bs (ss.set k { o with n := q })) := hid fun _ _ h => h
  have HFZ := hid (hf (k * 4 + 3))
  obtain ⟨n, hnl⟩ : ∃ n, n = ss.length := ⟨_, rfl⟩
  have hkn : k < n := by omega
  rw [← hnl] at hl c1 HS HH HR ⊢
  have HG := hid (And.intro hpl (And.intro c1 (And.intro hg (And.intro o0 (And.intro o1 (And.intro o2 o3))))))
  clear h hb ha e1 e3 e4 hal hk hc hn hm' hB hf hnl hg o0 o1 o2 o3 hpl c0 c1 f0 f1 ho 
  go_enter Try.func35, Try.ntmps35
  go_wp2_with (first
    | (go_at_call 56; refine HW.out.mono ?_; rintro e w1 ⟨rfl, hB1⟩; have hbb := below_box (hB1.mono (B' := w.heap.size + 1) (by simp)); have hq3 := obOn (heap_alloc_new w box3) (hB1.mono (B' := w.heap.size + 1) (by simp)) (by omega); have HSZ : Hid (w.heap.size < w1.heap.size) := hid (Array.getElem?_eq_some_iff.1 hq3).1; have HBX := hid hq3; have HB1 := hid hB1; have d0 := (hbb.cell (p := ⟨p, 1, none⟩) HG.out.1).trans HG.out.2.1; have d3 := (hbb.cell (p := ⟨g, k * 4 + 3, none⟩) HG.out.2.2.1).trans HG.out.2.2.2.2.2.2; have d4 := (hbb.frozen (p := ⟨g, k * 4 + 3, none⟩) HG.out.2.2.1).trans HFZ.out; have HS3 := hid (HS.out _ hbb); have hx1 := box3_at hq3; obtain ⟨⟨j0, j1, j2⟩, fz1, hz1⟩ := hx1; have hne : ¬ g = w.heap.size := (by have := HG.out.2.2.1; omega); have hne2 : ¬ w.heap.size = g := (by have := HG.out.2.2.1; omega); have hgb : g < w1.heap.size := Nat.lt_of_lt_of_le HG.out.2.2.1 hbb.size; have HBB := hid hbb; clear hB1 hbb hq3))
  have HT := hid (BkTo.n (below_box (HB1.out.mono (B' := w.heap.size + 1) (by simp))) HS3.out)
  refine bodyPost_ret (v := rpV 0 (.slice none 0 0) q) (by simp [results, Try.results35, go_sem, j0, j1, j2]) rfl ⟨_, rfl, World.ownsRow_nil _ _ _ _, ?_⟩
  exact BkN.to (((HT.out.set HH.out (Nat.le_refl _) HSZ.out _ _).set HH.out (Nat.le_refl _) HSZ.out _ _).set HH.out (Nat.le_refl _) HSZ.out _ _) (Nat.le_of_lt HSZ.out)

set_option maxHeartbeats 3200000 in
set_option maxRecDepth 100000 in
theorem cAmend_0gt {w : World} {B p : Nat} {va vb : Value} {bs ss : List Od} (h : BkA w B p va vb bs ss) (hl : bs.length ≤ 1000 ∧ ss.length ≤ 1000) (id q : Int) (hq : ¬ q < 1) (hq2 : ¬ 1048576 < q) (ha : bs.any (isI id) = true) (k : Nat) (hk : k = bs.findIdx (isI id)) (o : Od) (ho : bs[k]? = some o) (hm : o.n < q) (hos : o.s = 0) (hB0 : B ≤ w.heap.size) :
    Calls Try.prog 35 #[ptr p, .int .i64 id, .int .i64 q] w fun e w' => Told w w' B p va vb e 0 [] q (insG (less bs k) ((less bs k).findIdx (isW ⟨o.i, 0, o.p, q⟩)) ⟨o.i, 0, o.p, q⟩) ss := by
  have hal : Below w.heap.size w (w.alloc box3) := (Below.refl _ w).alloc (Nat.le_refl _) _
  have e1 : wOk bs ss id = true := by unfold wOk; rw [ha]; rfl
  have e3 : wS bs ss id = 0 := by unfold wS; rw [ha]; rfl
  have e4 : wA bs ss id = (k : Int) := by unfold wA; rw [ha, hk]; rfl
  have HW := hid (cWhere (h.on hal) hl id)
  rw [e1, e3, e4] at HW
  have HH := hid h
  have hlt := (List.getElem?_eq_some_iff.1 ho).1
  obtain ⟨hpl, c0, c1, f0, f1⟩ := h.bk.cells
  rcases h.ra.shape with ⟨_, e⟩ | ⟨g, cap, rfl, hn, hm', hB, hg, hc, hf⟩
  · rw [e] at hlt; simp at hlt
  obtain ⟨o0, o1, o2, o3⟩ := hc k o ho
  have HS : Hid (∀ W, Below w.heap.size w W → BkTo W (W.setCell ⟨g, k * 4 + 3, none⟩ (.int .i64 q)) B p (.slice (some ⟨g, 0, none⟩) bs.length cap) vb (bs.set k { o with n := q }) ss) := hid fun W hW => bk_row0 (h.on hW) (row_set (n := 0) (h.on hW).ra ho q)
  have HR : Hid (∀ W1 W, BkTo W1 W B p (.slice (some ⟨g, 0, none⟩) bs.length cap) vb (bs.set k { o with n := q }) ss → Calls Try.prog 57 #[ptr p, .int .i64 0, .int .i64 k] W fun e w' => e = .returned (.agg #[.int .i64 o.i, .int .i64 0, .int .i64 o.p, .int .i64 q]) ∧ BkTo W1 w' B p (.slice (some ⟨g, 0, none⟩) bs.length cap) vb (less bs k) ss) := hid fun W1 W hT => hT.then fun va' vb' h1 => by
    have h2 := cRemove0 h1 ⟨by simpa using hl.1, hl.2⟩ k { o with n := q } (by rw [List.getElem?_set_self (by omega)])
    rw [less_set] at h2
    refine h2.mono fun e w' ⟨he, hb⟩ => ⟨?_, hb⟩
    rw [he, ← hos]
  have HQ : Hid (∀ W1 W, BkTo W1 W B p (.slice (some ⟨g, 0, none⟩) bs.length cap) vb (less bs k) ss → w.heap.size < W1.heap.size → Calls Try.prog 55 #[ptr p, .agg #[.int .i64 o.i, .int .i64 0, .int .i64 o.p, .int .i64 q]] W fun e w' => e = .returned (.tuple #[]) ∧ BkTo W1 w' B p (.slice (some ⟨g, 0, none⟩) bs.length cap) vb (insG (less bs k) ((less bs k).findIdx (isW ⟨o.i, 0, o.p, q⟩)) ⟨o.i, 0, o.p, q⟩) ss) := hid fun W1 W hT hW => by
    have hs : W1.heap.size ≤ W.heap.size := by obtain ⟨_, _, _, t, _⟩ := hT; exact t.size
    exact hT.then fun va' vb' h1 => cRestS0 h1 ⟨by have := less_len hlt; omega, hl.2⟩ (by omega) o.i o.p q
  have HFZ := hid (hf (k * 4 + 3))
  obtain ⟨n, hnl⟩ : ∃ n, n = bs.length := ⟨_, rfl⟩
  have hkn : k < n := by omega
  rw [← hnl] at hl c0 HS HH HR HQ ⊢
  have HG := hid (And.intro hpl (And.intro c0 (And.intro hg (And.intro o0 (And.intro o1 (And.intro o2 o3))))))
  clear h ha e1 e3 e4 hal hk hc hn hm' hB hf hnl hg o0 o1 o2 o3 hpl c0 c1 f0 f1 ho hos hB0
  go_enter Try.func35, Try.ntmps35
  go_wp2_with (first
    | (go_at_call 56; refine HW.out.mono ?_; rintro e w1 ⟨rfl, hB1⟩; have hbb := below_box (hB1.mono (B' := w.heap.size + 1) (by simp)); have hq3 := obOn (heap_alloc_new w box3) (hB1.mono (B' := w.heap.size + 1) (by simp)) (by omega); have HSZ : Hid (w.heap.size < w1.heap.size) := hid (Array.getElem?_eq_some_iff.1 hq3).1; have HBX := hid hq3; have HB1 := hid hB1; have d0 := (hbb.cell (p := ⟨p, 0, none⟩) HG.out.1).trans HG.out.2.1; have d3 := (hbb.cell (p := ⟨g, k * 4 + 3, none⟩) HG.out.2.2.1).trans HG.out.2.2.2.2.2.2; have d4 := (hbb.frozen (p := ⟨g, k * 4 + 3, none⟩) HG.out.2.2.1).trans HFZ.out; have HS3 := hid (HS.out _ hbb); have hx1 := box3_at hq3; obtain ⟨⟨j0, j1, j2⟩, fz1, hz1⟩ := hx1; have hne : ¬ g = w.heap.size := (by have := HG.out.2.2.1; omega); have hne2 : ¬ w.heap.size = g := (by have := HG.out.2.2.1; omega); have hgb : g < w1.heap.size := Nat.lt_of_lt_of_le HG.out.2.2.1 hbb.size; have HBB := hid hbb; clear hB1 hbb hq3)
    | (go_at_call 57; refine (HR.out _ _ HS3.out).mono ?_; rintro e w4 ⟨rfl, hT4⟩; have HT4 := hid hT4; clear hT4)
    | (go_at_call 55; refine (HQ.out _ _ HT4.out HSZ.out).mono ?_; rintro e w5 ⟨rfl, hT⟩; have hx := box3_at ((hT.box HH.out (Nat.le_refl _) HSZ.out).trans HBX.out); obtain ⟨⟨k0, k1, k2⟩, fz, hz⟩ := hx; have HT := hid (BkTo.n (below_box (HB1.out.mono (B' := w.heap.size + 1) (by simp))) hT); clear hT))
  refine bodyPost_ret (v := rpV 0 (.slice none 0 0) q) (by simp [results, Try.results35, go_sem, k0, k1, k2]) rfl ⟨_, rfl, World.ownsRow_nil _ _ _ _, ?_⟩
  exact BkN.to (((HT.out.set HH.out (Nat.le_refl _) HSZ.out _ _).set HH.out (Nat.le_refl _) HSZ.out _ _).set HH.out (Nat.le_refl _) HSZ.out _ _) (Nat.le_of_lt HSZ.out)

set_option maxHeartbeats 3200000 in
set_option maxRecDepth 100000 in
theorem cAmend_1gt {w : World} {B p : Nat} {va vb : Value} {bs ss : List Od} (h : BkA w B p va vb bs ss) (hl : bs.length ≤ 1000 ∧ ss.length ≤ 1000) (id q : Int) (hq : ¬ q < 1) (hq2 : ¬ 1048576 < q) (ha : bs.any (isI id) = false) (hb : ss.any (isI id) = true) (k : Nat) (hk : k = ss.findIdx (isI id)) (o : Od) (ho : ss[k]? = some o) (hm : o.n < q) (hos : o.s = 1) (hB0 : B ≤ w.heap.size) :
    Calls Try.prog 35 #[ptr p, .int .i64 id, .int .i64 q] w fun e w' => Told w w' B p va vb e 0 [] q bs (insG (less ss k) ((less ss k).findIdx (isW ⟨o.i, 1, o.p, q⟩)) ⟨o.i, 1, o.p, q⟩) := by
  have hal : Below w.heap.size w (w.alloc box3) := (Below.refl _ w).alloc (Nat.le_refl _) _
  have e1 : wOk bs ss id = true := by unfold wOk; rw [ha, hb]; rfl
  have e3 : wS bs ss id = 1 := by unfold wS; rw [ha, hb]; rfl
  have e4 : wA bs ss id = (k : Int) := by unfold wA; rw [ha, hb, hk]; rfl
  have HW := hid (cWhere (h.on hal) hl id)
  rw [e1, e3, e4] at HW
  have HH := hid h
  have hlt := (List.getElem?_eq_some_iff.1 ho).1
  obtain ⟨hpl, c0, c1, f0, f1⟩ := h.bk.cells
  rcases h.rb.shape with ⟨_, e⟩ | ⟨g, cap, rfl, hn, hm', hB, hg, hc, hf⟩
  · rw [e] at hlt; simp at hlt
  obtain ⟨o0, o1, o2, o3⟩ := hc k o ho
  have HS : Hid (∀ W, Below w.heap.size w W → BkTo W (W.setCell ⟨g, k * 4 + 3, none⟩ (.int .i64 q)) B p va (.slice (some ⟨g, 0, none⟩) ss.length cap) bs (ss.set k { o with n := q })) := hid fun W hW => bk_row1 (h.on hW) (row_set (n := 0) (h.on hW).rb ho q)
  have HR : Hid (∀ W1 W, BkTo W1 W B p va (.slice (some ⟨g, 0, none⟩) ss.length cap) bs (ss.set k { o with n := q }) → Calls Try.prog 57 #[ptr p, .int .i64 1, .int .i64 k] W fun e w' => e = .returned (.agg #[.int .i64 o.i, .int .i64 1, .int .i64 o.p, .int .i64 q]) ∧ BkTo W1 w' B p va (.slice (some ⟨g, 0, none⟩) ss.length cap) bs (less ss k)) := hid fun W1 W hT => hT.then fun va' vb' h1 => by
    have h2 := cRemove1 h1 ⟨hl.1, by simpa using hl.2⟩ k { o with n := q } (by rw [List.getElem?_set_self (by omega)])
    rw [less_set] at h2
    refine h2.mono fun e w' ⟨he, hb⟩ => ⟨?_, hb⟩
    rw [he, ← hos]
  have HQ : Hid (∀ W1 W, BkTo W1 W B p va (.slice (some ⟨g, 0, none⟩) ss.length cap) bs (less ss k) → w.heap.size < W1.heap.size → Calls Try.prog 55 #[ptr p, .agg #[.int .i64 o.i, .int .i64 1, .int .i64 o.p, .int .i64 q]] W fun e w' => e = .returned (.tuple #[]) ∧ BkTo W1 w' B p va (.slice (some ⟨g, 0, none⟩) ss.length cap) bs (insG (less ss k) ((less ss k).findIdx (isW ⟨o.i, 1, o.p, q⟩)) ⟨o.i, 1, o.p, q⟩)) := hid fun W1 W hT hW => by
    have hs : W1.heap.size ≤ W.heap.size := by obtain ⟨_, _, _, t, _⟩ := hT; exact t.size
    exact hT.then fun va' vb' h1 => cRestS1 h1 ⟨hl.1, by have := less_len hlt; omega⟩ (by omega) o.i o.p q
  have HFZ := hid (hf (k * 4 + 3))
  obtain ⟨n, hnl⟩ : ∃ n, n = ss.length := ⟨_, rfl⟩
  have hkn : k < n := by omega
  rw [← hnl] at hl c1 HS HH HR HQ ⊢
  have HG := hid (And.intro hpl (And.intro c1 (And.intro hg (And.intro o0 (And.intro o1 (And.intro o2 o3))))))
  clear h hb ha e1 e3 e4 hal hk hc hn hm' hB hf hnl hg o0 o1 o2 o3 hpl c0 c1 f0 f1 ho hos hB0
  go_enter Try.func35, Try.ntmps35
  go_wp2_with (first
    | (go_at_call 56; refine HW.out.mono ?_; rintro e w1 ⟨rfl, hB1⟩; have hbb := below_box (hB1.mono (B' := w.heap.size + 1) (by simp)); have hq3 := obOn (heap_alloc_new w box3) (hB1.mono (B' := w.heap.size + 1) (by simp)) (by omega); have HSZ : Hid (w.heap.size < w1.heap.size) := hid (Array.getElem?_eq_some_iff.1 hq3).1; have HBX := hid hq3; have HB1 := hid hB1; have d0 := (hbb.cell (p := ⟨p, 1, none⟩) HG.out.1).trans HG.out.2.1; have d3 := (hbb.cell (p := ⟨g, k * 4 + 3, none⟩) HG.out.2.2.1).trans HG.out.2.2.2.2.2.2; have d4 := (hbb.frozen (p := ⟨g, k * 4 + 3, none⟩) HG.out.2.2.1).trans HFZ.out; have HS3 := hid (HS.out _ hbb); have hx1 := box3_at hq3; obtain ⟨⟨j0, j1, j2⟩, fz1, hz1⟩ := hx1; have hne : ¬ g = w.heap.size := (by have := HG.out.2.2.1; omega); have hne2 : ¬ w.heap.size = g := (by have := HG.out.2.2.1; omega); have hgb : g < w1.heap.size := Nat.lt_of_lt_of_le HG.out.2.2.1 hbb.size; have HBB := hid hbb; clear hB1 hbb hq3)
    | (go_at_call 57; refine (HR.out _ _ HS3.out).mono ?_; rintro e w4 ⟨rfl, hT4⟩; have HT4 := hid hT4; clear hT4)
    | (go_at_call 55; refine (HQ.out _ _ HT4.out HSZ.out).mono ?_; rintro e w5 ⟨rfl, hT⟩; have hx := box3_at ((hT.box HH.out (Nat.le_refl _) HSZ.out).trans HBX.out); obtain ⟨⟨k0, k1, k2⟩, fz, hz⟩ := hx; have HT := hid (BkTo.n (below_box (HB1.out.mono (B' := w.heap.size + 1) (by simp))) hT); clear hT))
  refine bodyPost_ret (v := rpV 0 (.slice none 0 0) q) (by simp [results, Try.results35, go_sem, k0, k1, k2]) rfl ⟨_, rfl, World.ownsRow_nil _ _ _ _, ?_⟩
  exact BkN.to (((HT.out.set HH.out (Nat.le_refl _) HSZ.out _ _).set HH.out (Nat.le_refl _) HSZ.out _ _).set HH.out (Nat.le_refl _) HSZ.out _ _) (Nat.le_of_lt HSZ.out)
end Go.Proofs.Ytdgllpfccdbdnaa

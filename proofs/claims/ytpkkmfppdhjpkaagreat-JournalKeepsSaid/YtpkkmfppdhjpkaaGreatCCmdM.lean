import Derived.Test.YtpkkmfppdhjpkaaGreatCNumM
import Derived.Test.YtpkkmfppdhjpkaaGreatGa07
import Derived.Test.YtpkkmfppdhjpkaaGreatGa08
/- The program's reader: Cmd. -/


namespace Go.Proofs.YtpkkmfppdhjpkaaGreat
set_option linter.unusedVariables false
open Go.RowKit
open Go.Lib (hid)

theorem Sl.one {w : World} {c : C7} {T : TypeId} : Sl (w.alloc (.cells #[.int .i64 c.i, .int .i64 c.k, .int .i64 c.s, .int .i64 c.t, .int .i64 c.d, .int .i64 c.p, .int .i64 c.q] T)) (.slice (some ⟨w.heap.size, 0, none⟩) 1 1) [c] := by
  refine ⟨w.heap.size, 0, 1, _, rfl, fun h => by simp at h, fun _ => rfl, ?_, fun _ => by simp⟩
  intro j d hd f v hv
  match j, hd with
  | 0, hd =>
    obtain rfl := Option.some.inj hd
    rw [World.cell?_alloc_new, Nat.zero_add, Nat.zero_mul, Nat.zero_add, List.getElem?_toArray]
    exact hv
  | j + 1, hd => simp at hd
/-- What holds behind so many numbers: the reader, the result's cells, the command's. -/
def St3 (F : Nat → Prop) (s : St) (w : World) (p : Nat) (W : World) (k : Nat) (vs : Array Value) : Prop :=
  Rd 115 F W p (rawSt s k) ∧ w.grownBy W (some p) ∧ W.heap[w.heap.size]? = some zero7 ∧ W.heap[w.heap.size + 1]? = some (.cells vs 39 (0, 0))
theorem St3.call {F : Nat → Prop} {s : St} {w W W' : World} {p k : Nat} {vs : Array Value} (h : St3 F s w p W k vs) (hp : p < w.heap.size) (hR : Rd 115 F W' p (numS (rawSt s k)).2) (hg : W.grownBy W' (some p)) : St3 F s w p W' (k + 1) vs :=
  ⟨hR, grownTrans h.2.1 hg, heapOf h.2.2.1 hg (by omega), heapOf h.2.2.2 hg (by omega)⟩
theorem grownSetQ (w : World) (q j : Nat) (x : Value) : w.grownBy (w.setCell ⟨q, j, none⟩ x) (some q) := grownSet _ _ _
theorem St3.set {F : Nat → Prop} {s : St} {w W : World} {p k : Nat} {vs : Array Value} (h : St3 F s w p W k vs) (hp : p < w.heap.size) (hF : ∀ k, F k → k < w.heap.size) (j : Nat) (x : Value) : St3 F s w p (W.setCell ⟨w.heap.size + 1, j, none⟩ x) k (vs.setIfInBounds j x) :=
  ⟨h.1.keptN (grownSetQ _ _ _ _) fun q hq => ⟨by cases hq; omega, fun hh => by cases hq; have := hF _ hh; omega⟩, grownThen h.2.1 (grownSetQ _ _ _ _) (fun q hq => by cases hq; omega), heapOf h.2.2.1 (grownSetQ W (w.heap.size + 1) j x) (by omega), setAt h.2.2.2⟩

set_option maxHeartbeats 1600000 in
set_option maxRecDepth 100000 in
theorem cCmd {F : Nat → Prop} {p : Nat} {s : St} {w : World} (h : Rd 115 F w p s) (hF : ∀ k, F k → k < w.heap.size) : Calls Tryz.prog 67 #[ptr p] w fun x w' => x = .returned (cmdS s).1.v ∧ Rd 115 F w' p (cmdS s).2 ∧ w.grownBy w' (some p) := by
  have hp := h.lt
  have HX := hid (And.intro h hF)
  have hS0 : St3 F s w p ((w.alloc zero7).alloc zero7) 0 #[.int .i64 0, .int .i64 0, .int .i64 0, .int .i64 0, .int .i64 0, .int .i64 0, .int .i64 0] :=
    ⟨(h.alloc _).alloc _, grownAlloc (World.grownBy_alloc w _ _) _, (Below.heap_alloc _ _ _ (by simp)).trans (heap_alloc_new w zero7), (by have := heap_alloc_new (w.alloc zero7) zero7; simpa using this)⟩
  have H0 := hid hS0
  clear h hF hS0
  obtain ⟨n0, hn0⟩ : ∃ n, n = (numS (rawSt s 0)).1 := ⟨_, rfl⟩
  obtain ⟨n1, hn1⟩ : ∃ n, n = (numS (rawSt s 1)).1 := ⟨_, rfl⟩
  obtain ⟨n2, hn2⟩ : ∃ n, n = (numS (rawSt s 2)).1 := ⟨_, rfl⟩
  obtain ⟨n3, hn3⟩ : ∃ n, n = (numS (rawSt s 3)).1 := ⟨_, rfl⟩
  obtain ⟨n4, hn4⟩ : ∃ n, n = (numS (rawSt s 4)).1 := ⟨_, rfl⟩
  obtain ⟨n5, hn5⟩ : ∃ n, n = (numS (rawSt s 5)).1 := ⟨_, rfl⟩
  obtain ⟨n6, hn6⟩ : ∃ n, n = (numS (rawSt s 6)).1 := ⟨_, rfl⟩
  have HN := hid (show cmdRaw s = (⟨n0, n1, n2, n3, n4, n5, n6⟩, rawSt s 7) by rw [hn0, hn1, hn2, hn3, hn4, hn5, hn6]; rfl)
  have hC0 := hid (fun W (hR : Rd 115 F W p (rawSt s 0)) => cNum hR)
  rw [← hn0] at hC0
  have hC1 := hid (fun W (hR : Rd 115 F W p (rawSt s 1)) => cNum hR)
  rw [← hn1] at hC1
  have hC2 := hid (fun W (hR : Rd 115 F W p (rawSt s 2)) => cNum hR)
  rw [← hn2] at hC2
  have hC3 := hid (fun W (hR : Rd 115 F W p (rawSt s 3)) => cNum hR)
  rw [← hn3] at hC3
  have hC4 := hid (fun W (hR : Rd 115 F W p (rawSt s 4)) => cNum hR)
  rw [← hn4] at hC4
  have hC5 := hid (fun W (hR : Rd 115 F W p (rawSt s 5)) => cNum hR)
  rw [← hn5] at hC5
  have hC6 := hid (fun W (hR : Rd 115 F W p (rawSt s 6)) => cNum hR)
  rw [← hn6] at hC6
  clear hn0 hn1 hn2 hn3 hn4 hn5 hn6
  go_enter Tryz.func67, Tryz.ntmps67
  go_wp2_with fail
  go_at_call 45
  refine (hC0.out _ H0.out.1).mono ?_
  rintro e w1 ⟨rfl, hR, hg⟩
  have hS : St3 F s w p w1 1 #[.int .i64 0, .int .i64 0, .int .i64 0, .int .i64 0, .int .i64 0, .int .i64 0, .int .i64 0] := H0.out.call hp hR hg
  have k0 : w1.cell? ⟨w.heap.size + 1, 0, none⟩ = some (.int .i64 0) := (cellAt' hS.2.2.2 0).trans rfl
  have fz0 : ∀ f, w1.frozen? ⟨w.heap.size + 1, f, none⟩ = false := fun f => frozenAt hS.2.2.2 f
  have H1 : Hid (St3 F s w p (w1.setCell ⟨w.heap.size + 1, 0, none⟩ (.int .i64 n0)) 1 #[.int .i64 (n0 : Nat), .int .i64 0, .int .i64 0, .int .i64 0, .int .i64 0, .int .i64 0, .int .i64 0]) := hid (hS.set hp HX.out.2 0 _)
  have hs1 : w.heap.size + 1 < w1.heap.size := (Array.getElem?_eq_some_iff.1 hS.2.2.2).1
  clear hR hg hS
  go_wp2_with fail
  go_at_call 45
  refine (hC1.out _ H1.out.1).mono ?_
  rintro e w2 ⟨rfl, hR, hg⟩
  have hS : St3 F s w p w2 2 #[.int .i64 (n0 : Nat), .int .i64 0, .int .i64 0, .int .i64 0, .int .i64 0, .int .i64 0, .int .i64 0] := H1.out.call hp hR hg
  have k1 : w2.cell? ⟨w.heap.size + 1, 1, none⟩ = some (.int .i64 0) := (cellAt' hS.2.2.2 1).trans rfl
  have fz1 : ∀ f, w2.frozen? ⟨w.heap.size + 1, f, none⟩ = false := fun f => frozenAt hS.2.2.2 f
  have H2 : Hid (St3 F s w p (w2.setCell ⟨w.heap.size + 1, 1, none⟩ (.int .i64 n1)) 2 #[.int .i64 (n0 : Nat), .int .i64 (n1 : Nat), .int .i64 0, .int .i64 0, .int .i64 0, .int .i64 0, .int .i64 0]) := hid (hS.set hp HX.out.2 1 _)
  have hs2 : w.heap.size + 1 < w2.heap.size := (Array.getElem?_eq_some_iff.1 hS.2.2.2).1
  clear hR hg hS k0 fz0
  go_wp2_with fail
  go_at_call 45
  refine (hC2.out _ H2.out.1).mono ?_
  rintro e w3 ⟨rfl, hR, hg⟩
  have hS : St3 F s w p w3 3 #[.int .i64 (n0 : Nat), .int .i64 (n1 : Nat), .int .i64 0, .int .i64 0, .int .i64 0, .int .i64 0, .int .i64 0] := H2.out.call hp hR hg
  have k2 : w3.cell? ⟨w.heap.size + 1, 2, none⟩ = some (.int .i64 0) := (cellAt' hS.2.2.2 2).trans rfl
  have fz2 : ∀ f, w3.frozen? ⟨w.heap.size + 1, f, none⟩ = false := fun f => frozenAt hS.2.2.2 f
  have H3 : Hid (St3 F s w p (w3.setCell ⟨w.heap.size + 1, 2, none⟩ (.int .i64 n2)) 3 #[.int .i64 (n0 : Nat), .int .i64 (n1 : Nat), .int .i64 (n2 : Nat), .int .i64 0, .int .i64 0, .int .i64 0, .int .i64 0]) := hid (hS.set hp HX.out.2 2 _)
  have hs3 : w.heap.size + 1 < w3.heap.size := (Array.getElem?_eq_some_iff.1 hS.2.2.2).1
  clear hR hg hS k1 fz1
  go_wp2_with fail
  go_at_call 45
  refine (hC3.out _ H3.out.1).mono ?_
  rintro e w4 ⟨rfl, hR, hg⟩
  have hS : St3 F s w p w4 4 #[.int .i64 (n0 : Nat), .int .i64 (n1 : Nat), .int .i64 (n2 : Nat), .int .i64 0, .int .i64 0, .int .i64 0, .int .i64 0] := H3.out.call hp hR hg
  have k3 : w4.cell? ⟨w.heap.size + 1, 3, none⟩ = some (.int .i64 0) := (cellAt' hS.2.2.2 3).trans rfl
  have fz3 : ∀ f, w4.frozen? ⟨w.heap.size + 1, f, none⟩ = false := fun f => frozenAt hS.2.2.2 f
  have H4 : Hid (St3 F s w p (w4.setCell ⟨w.heap.size + 1, 3, none⟩ (.int .i64 n3)) 4 #[.int .i64 (n0 : Nat), .int .i64 (n1 : Nat), .int .i64 (n2 : Nat), .int .i64 (n3 : Nat), .int .i64 0, .int .i64 0, .int .i64 0]) := hid (hS.set hp HX.out.2 3 _)
  have hs4 : w.heap.size + 1 < w4.heap.size := (Array.getElem?_eq_some_iff.1 hS.2.2.2).1
  clear hR hg hS k2 fz2
  go_wp2_with fail
  go_at_call 45
  refine (hC4.out _ H4.out.1).mono ?_
  rintro e w5 ⟨rfl, hR, hg⟩
  have hS : St3 F s w p w5 5 #[.int .i64 (n0 : Nat), .int .i64 (n1 : Nat), .int .i64 (n2 : Nat), .int .i64 (n3 : Nat), .int .i64 0, .int .i64 0, .int .i64 0] := H4.out.call hp hR hg
  have k4 : w5.cell? ⟨w.heap.size + 1, 4, none⟩ = some (.int .i64 0) := (cellAt' hS.2.2.2 4).trans rfl
  have fz4 : ∀ f, w5.frozen? ⟨w.heap.size + 1, f, none⟩ = false := fun f => frozenAt hS.2.2.2 f
  have H5 : Hid (St3 F s w p (w5.setCell ⟨w.heap.size + 1, 4, none⟩ (.int .i64 n4)) 5 #[.int .i64 (n0 : Nat), .int .i64 (n1 : Nat), .int .i64 (n2 : Nat), .int .i64 (n3 : Nat), .int .i64 (n4 : Nat), .int .i64 0, .int .i64 0]) := hid (hS.set hp HX.out.2 4 _)
  have hs5 : w.heap.size + 1 < w5.heap.size := (Array.getElem?_eq_some_iff.1 hS.2.2.2).1
  clear hR hg hS k3 fz3
  go_wp2_with fail
  go_at_call 45
  refine (hC5.out _ H5.out.1).mono ?_
  rintro e w6 ⟨rfl, hR, hg⟩
  have hS : St3 F s w p w6 6 #[.int .i64 (n0 : Nat), .int .i64 (n1 : Nat), .int .i64 (n2 : Nat), .int .i64 (n3 : Nat), .int .i64 (n4 : Nat), .int .i64 0, .int .i64 0] := H5.out.call hp hR hg
  have k5 : w6.cell? ⟨w.heap.size + 1, 5, none⟩ = some (.int .i64 0) := (cellAt' hS.2.2.2 5).trans rfl
  have fz5 : ∀ f, w6.frozen? ⟨w.heap.size + 1, f, none⟩ = false := fun f => frozenAt hS.2.2.2 f
  have H6 : Hid (St3 F s w p (w6.setCell ⟨w.heap.size + 1, 5, none⟩ (.int .i64 n5)) 6 #[.int .i64 (n0 : Nat), .int .i64 (n1 : Nat), .int .i64 (n2 : Nat), .int .i64 (n3 : Nat), .int .i64 (n4 : Nat), .int .i64 (n5 : Nat), .int .i64 0]) := hid (hS.set hp HX.out.2 5 _)
  have hs6 : w.heap.size + 1 < w6.heap.size := (Array.getElem?_eq_some_iff.1 hS.2.2.2).1
  clear hR hg hS k4 fz4
  go_wp2_with fail
  go_at_call 45
  refine (hC6.out _ H6.out.1).mono ?_
  rintro e w7 ⟨rfl, hR, hg⟩
  have hS : St3 F s w p w7 7 #[.int .i64 (n0 : Nat), .int .i64 (n1 : Nat), .int .i64 (n2 : Nat), .int .i64 (n3 : Nat), .int .i64 (n4 : Nat), .int .i64 (n5 : Nat), .int .i64 0] := H6.out.call hp hR hg
  have k6 : w7.cell? ⟨w.heap.size + 1, 6, none⟩ = some (.int .i64 0) := (cellAt' hS.2.2.2 6).trans rfl
  have fz6 : ∀ f, w7.frozen? ⟨w.heap.size + 1, f, none⟩ = false := fun f => frozenAt hS.2.2.2 f
  have H7 : Hid (St3 F s w p (w7.setCell ⟨w.heap.size + 1, 6, none⟩ (.int .i64 n6)) 7 #[.int .i64 (n0 : Nat), .int .i64 (n1 : Nat), .int .i64 (n2 : Nat), .int .i64 (n3 : Nat), .int .i64 (n4 : Nat), .int .i64 (n5 : Nat), .int .i64 (n6 : Nat)]) := hid (hS.set hp HX.out.2 6 _)
  have hs7 : w.heap.size + 1 < w7.heap.size := (Array.getElem?_eq_some_iff.1 hS.2.2.2).1
  clear hR hg hS k5 fz5
  have hb7 := H7.out.2.2.2
  have b0 : (w7.setCell ⟨w.heap.size + 1, 6, none⟩ (.int .i64 n6)).cell? ⟨w.heap.size + 1, 0, none⟩ = some (.int .i64 n0) := (cellAt' hb7 0).trans rfl
  have b1 : (w7.setCell ⟨w.heap.size + 1, 6, none⟩ (.int .i64 n6)).cell? ⟨w.heap.size + 1, 1, none⟩ = some (.int .i64 n1) := (cellAt' hb7 1).trans rfl
  have b2 : (w7.setCell ⟨w.heap.size + 1, 6, none⟩ (.int .i64 n6)).cell? ⟨w.heap.size + 1, 2, none⟩ = some (.int .i64 n2) := (cellAt' hb7 2).trans rfl
  have b3 : (w7.setCell ⟨w.heap.size + 1, 6, none⟩ (.int .i64 n6)).cell? ⟨w.heap.size + 1, 3, none⟩ = some (.int .i64 n3) := (cellAt' hb7 3).trans rfl
  have b4 : (w7.setCell ⟨w.heap.size + 1, 6, none⟩ (.int .i64 n6)).cell? ⟨w.heap.size + 1, 4, none⟩ = some (.int .i64 n4) := (cellAt' hb7 4).trans rfl
  have b5 : (w7.setCell ⟨w.heap.size + 1, 6, none⟩ (.int .i64 n6)).cell? ⟨w.heap.size + 1, 5, none⟩ = some (.int .i64 n5) := (cellAt' hb7 5).trans rfl
  have b6 : (w7.setCell ⟨w.heap.size + 1, 6, none⟩ (.int .i64 n6)).cell? ⟨w.heap.size + 1, 6, none⟩ = some (.int .i64 n6) := (cellAt' hb7 6).trans rfl
  have hRt := cRight' (Sl.one (w := (w7.setCell ⟨w.heap.size + 1, 6, none⟩ (.int .i64 n6))) (c := ⟨n0, n1, n2, n3, n4, n5, n6⟩) (T := 39)) (by simp)
  rw [World.size_setCell] at hRt
  have hok1 : ([⟨n0, n1, n2, n3, n4, n5, n6⟩] : List C7).all C7.ok = (cmdRaw s).1.ok := by rw [HN.out]; simp
  rw [hok1] at hRt
  clear hok1 hb7
  by_cases he : (cmdRaw s).2.2 = 0
  · rcases hok : (cmdRaw s).1.ok with _ | _
    · have HE := hid (cmdS_no he hok)
      rw [hok] at hRt
      clear hok
      go_wp2_with (first
        | (go_at_call 40; (
            refine hRt.mono ?_
            rintro e w8 ⟨rfl, hB⟩
            have hs8 := hB.size
            have hRd : Rd 115 F w8 p (cmdRaw s).2 := (H7.out.1.alloc _).on hB
            have hG := grownUnder (grownAlloc H7.out.2.1 (.cells #[.int .i64 (n0 : Nat), .int .i64 (n1 : Nat), .int .i64 (n2 : Nat), .int .i64 (n3 : Nat), .int .i64 (n4 : Nat), .int .i64 (n5 : Nat), .int .i64 (n6 : Nat)] 39)) (hB.mono (by simp; omega))
            have hz : w8.heap[w.heap.size]? = some zero7 := (hB.block _ (by simp; omega)).trans ((Below.heap_alloc _ _ _ (by simp; omega)).trans H7.out.2.2.1)
            have hb : w8.heap[w.heap.size + 1]? = some (.cells #[.int .i64 (n0 : Nat), .int .i64 (n1 : Nat), .int .i64 (n2 : Nat), .int .i64 (n3 : Nat), .int .i64 (n4 : Nat), .int .i64 (n5 : Nat), .int .i64 (n6 : Nat)] 39) := (hB.block _ (by simp; omega)).trans ((Below.heap_alloc _ _ _ (by simp; omega)).trans H7.out.2.2.2)
            clear hB
            have HFi := hid (cFine_no hRd he)
            have HZ := hid (And.intro hz (And.intro hb hG))
            clear hz hb hRd hG))
        | (go_at_call 86; (
            refine HFi.out.mono ?_
            rintro e w9 ⟨rfl, hRd, hg9⟩
            have hz := heapOf HZ.out.1 hg9 (by omega)
            have hb := heapOf HZ.out.2.1 hg9 (by omega)
            have hG := grownTrans HZ.out.2.2 hg9
            have r0 : w9.cell? ⟨w.heap.size, 0, none⟩ = some (.int .i64 0) := (cellAt' hz 0).trans rfl
            have r1 : w9.cell? ⟨w.heap.size, 1, none⟩ = some (.int .i64 0) := (cellAt' hz 1).trans rfl
            have r2 : w9.cell? ⟨w.heap.size, 2, none⟩ = some (.int .i64 0) := (cellAt' hz 2).trans rfl
            have r3 : w9.cell? ⟨w.heap.size, 3, none⟩ = some (.int .i64 0) := (cellAt' hz 3).trans rfl
            have r4 : w9.cell? ⟨w.heap.size, 4, none⟩ = some (.int .i64 0) := (cellAt' hz 4).trans rfl
            have r5 : w9.cell? ⟨w.heap.size, 5, none⟩ = some (.int .i64 0) := (cellAt' hz 5).trans rfl
            have r6 : w9.cell? ⟨w.heap.size, 6, none⟩ = some (.int .i64 0) := (cellAt' hz 6).trans rfl
            have d0 : w9.cell? ⟨w.heap.size + 1, 0, none⟩ = some (.int .i64 n0) := (cellAt' hb 0).trans rfl
            have d1 : w9.cell? ⟨w.heap.size + 1, 1, none⟩ = some (.int .i64 n1) := (cellAt' hb 1).trans rfl
            have d2 : w9.cell? ⟨w.heap.size + 1, 2, none⟩ = some (.int .i64 n2) := (cellAt' hb 2).trans rfl
            have d3 : w9.cell? ⟨w.heap.size + 1, 3, none⟩ = some (.int .i64 n3) := (cellAt' hb 3).trans rfl
            have d4 : w9.cell? ⟨w.heap.size + 1, 4, none⟩ = some (.int .i64 n4) := (cellAt' hb 4).trans rfl
            have d5 : w9.cell? ⟨w.heap.size + 1, 5, none⟩ = some (.int .i64 n5) := (cellAt' hb 5).trans rfl
            have d6 : w9.cell? ⟨w.heap.size + 1, 6, none⟩ = some (.int .i64 n6) := (cellAt' hb 6).trans rfl
            have fr : ∀ f, w9.frozen? ⟨w.heap.size, f, none⟩ = false := fun f => frozenAt hz f
            have hsW : w.heap.size < w9.heap.size := (Array.getElem?_eq_some_iff.1 hz).1
            have HD := hid (And.intro hRd hG)
            clear hz hb hRd hG hg9)))
      refine bodyPost_ret (v := C7.v ⟨0, 0, 0, 0, 0, 0, 0⟩) (by simp [results, Tryz.results67, go_sem, r0, r1, r2, r3, r4, r5, r6]) rfl ⟨?_, ?_, ?_⟩
      · rw [HE.out]; rfl
      · rw [HE.out]
        exact HD.out.1.keptN (grownSet7 _ _ _ _ _ _ _ _ _) fun j hj => ⟨by cases hj; omega, fun hh => by cases hj; have := HX.out.2 _ hh; omega⟩
      · exact grownThen HD.out.2 (grownSet7 _ _ _ _ _ _ _ _ _) fun j hj => by cases hj; exact Nat.le_refl _
    · have HE := hid (cmdS_yes he hok)
      rw [hok] at hRt
      clear hok
      go_wp2_with (first
        | (go_at_call 40; (
            refine hRt.mono ?_
            rintro e w8 ⟨rfl, hB⟩
            have hs8 := hB.size
            have hRd : Rd 115 F w8 p (cmdRaw s).2 := (H7.out.1.alloc _).on hB
            have hG := grownUnder (grownAlloc H7.out.2.1 (.cells #[.int .i64 (n0 : Nat), .int .i64 (n1 : Nat), .int .i64 (n2 : Nat), .int .i64 (n3 : Nat), .int .i64 (n4 : Nat), .int .i64 (n5 : Nat), .int .i64 (n6 : Nat)] 39)) (hB.mono (by simp; omega))
            have hz : w8.heap[w.heap.size]? = some zero7 := (hB.block _ (by simp; omega)).trans ((Below.heap_alloc _ _ _ (by simp; omega)).trans H7.out.2.2.1)
            have hb : w8.heap[w.heap.size + 1]? = some (.cells #[.int .i64 (n0 : Nat), .int .i64 (n1 : Nat), .int .i64 (n2 : Nat), .int .i64 (n3 : Nat), .int .i64 (n4 : Nat), .int .i64 (n5 : Nat), .int .i64 (n6 : Nat)] 39) := (hB.block _ (by simp; omega)).trans ((Below.heap_alloc _ _ _ (by simp; omega)).trans H7.out.2.2.2)
            clear hB
            have HFi := hid (cFine_ok hRd he)
            have r0 : w8.cell? ⟨w.heap.size, 0, none⟩ = some (.int .i64 0) := (cellAt' hz 0).trans rfl
            have r1 : w8.cell? ⟨w.heap.size, 1, none⟩ = some (.int .i64 0) := (cellAt' hz 1).trans rfl
            have r2 : w8.cell? ⟨w.heap.size, 2, none⟩ = some (.int .i64 0) := (cellAt' hz 2).trans rfl
            have r3 : w8.cell? ⟨w.heap.size, 3, none⟩ = some (.int .i64 0) := (cellAt' hz 3).trans rfl
            have r4 : w8.cell? ⟨w.heap.size, 4, none⟩ = some (.int .i64 0) := (cellAt' hz 4).trans rfl
            have r5 : w8.cell? ⟨w.heap.size, 5, none⟩ = some (.int .i64 0) := (cellAt' hz 5).trans rfl
            have r6 : w8.cell? ⟨w.heap.size, 6, none⟩ = some (.int .i64 0) := (cellAt' hz 6).trans rfl
            have d0 : w8.cell? ⟨w.heap.size + 1, 0, none⟩ = some (.int .i64 n0) := (cellAt' hb 0).trans rfl
            have d1 : w8.cell? ⟨w.heap.size + 1, 1, none⟩ = some (.int .i64 n1) := (cellAt' hb 1).trans rfl
            have d2 : w8.cell? ⟨w.heap.size + 1, 2, none⟩ = some (.int .i64 n2) := (cellAt' hb 2).trans rfl
            have d3 : w8.cell? ⟨w.heap.size + 1, 3, none⟩ = some (.int .i64 n3) := (cellAt' hb 3).trans rfl
            have d4 : w8.cell? ⟨w.heap.size + 1, 4, none⟩ = some (.int .i64 n4) := (cellAt' hb 4).trans rfl
            have d5 : w8.cell? ⟨w.heap.size + 1, 5, none⟩ = some (.int .i64 n5) := (cellAt' hb 5).trans rfl
            have d6 : w8.cell? ⟨w.heap.size + 1, 6, none⟩ = some (.int .i64 n6) := (cellAt' hb 6).trans rfl
            have fr : ∀ f, w8.frozen? ⟨w.heap.size, f, none⟩ = false := fun f => frozenAt hz f
            have hsW : w.heap.size < w8.heap.size := (Array.getElem?_eq_some_iff.1 hz).1
            have HD := hid (And.intro hRd hG)
            clear hz hb hRd hG))
        | (go_at_call 86; (
            refine HFi.out.mono ?_
            rintro e w9 ⟨rfl, rfl⟩)))
      refine bodyPost_ret (v := C7.v ⟨n0, n1, n2, n3, n4, n5, n6⟩) (by simp [results, Tryz.results67, go_sem, r0, r1, r2, r3, r4, r5, r6]) rfl ⟨?_, ?_, ?_⟩
      · rw [HE.out]; rw [HN.out]
      · rw [HE.out]
        exact HD.out.1.keptN (grownSet7 _ _ _ _ _ _ _ _ _) fun j hj => ⟨by cases hj; omega, fun hh => by cases hj; have := HX.out.2 _ hh; omega⟩
      · exact grownThen HD.out.2 (grownSet7 _ _ _ _ _ _ _ _ _) fun j hj => by cases hj; exact Nat.le_refl _
  · have HE := hid (cmdS_err he)
    go_wp2_with (first
      | (go_at_call 40; (
          refine hRt.mono ?_
          rintro e w8 ⟨rfl, hB⟩
          have hs8 := hB.size
          have hRd : Rd 115 F w8 p (cmdRaw s).2 := (H7.out.1.alloc _).on hB
          have hG := grownUnder (grownAlloc H7.out.2.1 (.cells #[.int .i64 (n0 : Nat), .int .i64 (n1 : Nat), .int .i64 (n2 : Nat), .int .i64 (n3 : Nat), .int .i64 (n4 : Nat), .int .i64 (n5 : Nat), .int .i64 (n6 : Nat)] 39)) (hB.mono (by simp; omega))
          have hz : w8.heap[w.heap.size]? = some zero7 := (hB.block _ (by simp; omega)).trans ((Below.heap_alloc _ _ _ (by simp; omega)).trans H7.out.2.2.1)
          have hb : w8.heap[w.heap.size + 1]? = some (.cells #[.int .i64 (n0 : Nat), .int .i64 (n1 : Nat), .int .i64 (n2 : Nat), .int .i64 (n3 : Nat), .int .i64 (n4 : Nat), .int .i64 (n5 : Nat), .int .i64 (n6 : Nat)] 39) := (hB.block _ (by simp; omega)).trans ((Below.heap_alloc _ _ _ (by simp; omega)).trans H7.out.2.2.2)
          clear hB
          have HFi := hid (fun r => cFine_bad hRd he r)
          have r0 : w8.cell? ⟨w.heap.size, 0, none⟩ = some (.int .i64 0) := (cellAt' hz 0).trans rfl
          have r1 : w8.cell? ⟨w.heap.size, 1, none⟩ = some (.int .i64 0) := (cellAt' hz 1).trans rfl
          have r2 : w8.cell? ⟨w.heap.size, 2, none⟩ = some (.int .i64 0) := (cellAt' hz 2).trans rfl
          have r3 : w8.cell? ⟨w.heap.size, 3, none⟩ = some (.int .i64 0) := (cellAt' hz 3).trans rfl
          have r4 : w8.cell? ⟨w.heap.size, 4, none⟩ = some (.int .i64 0) := (cellAt' hz 4).trans rfl
          have r5 : w8.cell? ⟨w.heap.size, 5, none⟩ = some (.int .i64 0) := (cellAt' hz 5).trans rfl
          have r6 : w8.cell? ⟨w.heap.size, 6, none⟩ = some (.int .i64 0) := (cellAt' hz 6).trans rfl
          have d0 : w8.cell? ⟨w.heap.size + 1, 0, none⟩ = some (.int .i64 n0) := (cellAt' hb 0).trans rfl
          have d1 : w8.cell? ⟨w.heap.size + 1, 1, none⟩ = some (.int .i64 n1) := (cellAt' hb 1).trans rfl
          have d2 : w8.cell? ⟨w.heap.size + 1, 2, none⟩ = some (.int .i64 n2) := (cellAt' hb 2).trans rfl
          have d3 : w8.cell? ⟨w.heap.size + 1, 3, none⟩ = some (.int .i64 n3) := (cellAt' hb 3).trans rfl
          have d4 : w8.cell? ⟨w.heap.size + 1, 4, none⟩ = some (.int .i64 n4) := (cellAt' hb 4).trans rfl
          have d5 : w8.cell? ⟨w.heap.size + 1, 5, none⟩ = some (.int .i64 n5) := (cellAt' hb 5).trans rfl
          have d6 : w8.cell? ⟨w.heap.size + 1, 6, none⟩ = some (.int .i64 n6) := (cellAt' hb 6).trans rfl
          have fr : ∀ f, w8.frozen? ⟨w.heap.size, f, none⟩ = false := fun f => frozenAt hz f
          have hsW : w.heap.size < w8.heap.size := (Array.getElem?_eq_some_iff.1 hz).1
          have HD := hid (And.intro hRd hG)
          clear hz hb hRd hG))
      | (go_at_call 86; (
          refine (HFi.out _).mono ?_
          rintro e w9 ⟨rfl, rfl⟩)))
    refine bodyPost_ret (v := C7.v ⟨0, 0, 0, 0, 0, 0, 0⟩) (by simp [results, Tryz.results67, go_sem, r0, r1, r2, r3, r4, r5, r6]) rfl ⟨?_, ?_, ?_⟩
    · rw [HE.out]; rfl
    · rw [HE.out]
      exact HD.out.1.keptN (grownSet7 _ _ _ _ _ _ _ _ _) fun j hj => ⟨by cases hj; omega, fun hh => by cases hj; have := HX.out.2 _ hh; omega⟩
    · exact grownThen HD.out.2 (grownSet7 _ _ _ _ _ _ _ _ _) fun j hj => by cases hj; exact Nat.le_refl _
end Go.Proofs.YtpkkmfppdhjpkaaGreat

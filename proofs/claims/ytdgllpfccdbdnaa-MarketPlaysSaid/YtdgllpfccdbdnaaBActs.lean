/- The program's book: an order taken away, one that rests. -/
import Derived.Test.YtdgllpfccdbdnaaBTold
namespace Go.Proofs.Ytdgllpfccdbdnaa
set_option linter.unusedVariables false
open Go.RowKit
open Go.Lib (hid)

theorem opaqueR {P : Program} {c : Code} {Q : Exit → Act → World → Prop} {a : Act} (w : World) (h : ∀ W, W = w → Code.wp P c Q a W) : Code.wp P c Q a w := h w rfl
/-- What an act turns: the book's block, its rows' blocks. -/
def Nb (p : Nat) (va vb : Value) (k : Nat) : Prop := k = p ∨ va.ownBlock = some k ∨ vb.ownBlock = some k
theorem BkA.nb {w : World} {B p : Nat} {va vb : Value} {bs ss : List Od} (h : BkA w B p va vb bs ss) : ∀ k, Nb p va vb k → B ≤ k ∧ k < w.heap.size := by
  rintro k (rfl | hk | hk)
  · exact ⟨h.hp, (Array.getElem?_eq_some_iff.1 h.bk).1⟩
  · exact h.ra.lt k hk
  · exact h.rb.lt k hk
/-- What an act leaves of a book. -/
def BkTo (w w' : World) (B p : Nat) (va vb : Value) (bs' ss' : List Od) : Prop := ∃ va' vb', BkA w' B p va' vb' bs' ss' ∧ Tch (Nb p va vb) w w' ∧ Fr w.heap.size va va' ∧ Fr w.heap.size vb vb'
theorem Bk.set0 {w : World} {p : Nat} {va vb : Value} (h : Bk w p va vb) (u : Value) : Bk (w.setCell ⟨p, 0, none⟩ u) p u vb := by
  unfold Bk at h ⊢
  simp [World.setCell, Array.getElem?_modify, h]
theorem Bk.set1 {w : World} {p : Nat} {va vb : Value} (h : Bk w p va vb) (u : Value) : Bk (w.setCell ⟨p, 1, none⟩ u) p va u := by
  unfold Bk at h ⊢
  simp [World.setCell, Array.getElem?_modify, h]
theorem Bk.tch {S : Nat → Prop} {w w' : World} {p : Nat} {va vb : Value} (h : Bk w p va vb) (ht : Tch S w w') (hS : ¬ S p) : Bk w' p va vb := ht.ob h hS
theorem bk_put0 {w w1 w2 : World} {B p : Nat} {va vb va' : Value} {bs ss l' : List Od} (h : BkA w B p va vb bs ss) (hB : Below w.heap.size w w1) (hR : RowTo w1 w2 B va va' l') :
    Bk w2 p va vb ∧ BkTo w (w2.setCell ⟨p, 0, none⟩ va') B p va vb l' ss := by
  have h1 := h.on hB
  have h2 : Bk w2 p va vb := h1.bk.tch hR.2.1 (h1.ra.off h1.bk)
  have hset : Tch (fun k => k = p) w2 (w2.setCell ⟨p, 0, none⟩ va') := Tch.set _ _ _ rfl
  have hb2 : OwnO w2 B vb ss := h1.rb.tch hR.2.1 fun k hk e => h.ap k e hk
  refine ⟨h2, va', vb, ⟨h2.set0 va', hR.1.tch hset fun k hk e => (hR.1.off h2) (by rw [hk, e]), hb2.tch hset fun k hk e => (hb2.off h2) (by rw [hk, e]), fun k hk e => ?_, h.hp⟩, ?_, hR.2.2.le hB.size, Fr.refl _ _⟩
  · rcases hR.2.2 k hk with h3 | h3
    · exact h.ap k h3 e
    · have := (h.rb.lt k e).2; have := hB.size; omega
  · exact ((Tch.ofBelow hB).trans (hR.2.1.mono fun k hk => .inr (.inl hk))).trans (hset.mono fun k hk => .inl hk)
theorem bk_put1 {w w1 w2 : World} {B p : Nat} {va vb vb' : Value} {bs ss l' : List Od} (h : BkA w B p va vb bs ss) (hB : Below w.heap.size w w1) (hR : RowTo w1 w2 B vb vb' l') :
    Bk w2 p va vb ∧ BkTo w (w2.setCell ⟨p, 1, none⟩ vb') B p va vb bs l' := by
  have h1 := h.on hB
  have h2 : Bk w2 p va vb := h1.bk.tch hR.2.1 (h1.rb.off h1.bk)
  have hset : Tch (fun k => k = p) w2 (w2.setCell ⟨p, 1, none⟩ vb') := Tch.set _ _ _ rfl
  have hb2 : OwnO w2 B va bs := h1.ra.tch hR.2.1 fun k hk e => h.ap k hk e
  refine ⟨h2, va, vb', ⟨h2.set1 vb', hb2.tch hset fun k hk e => (hb2.off h2) (by rw [hk, e]), hR.1.tch hset fun k hk e => (hR.1.off h2) (by rw [hk, e]), fun k hk e => ?_, h.hp⟩, ?_, Fr.refl _ _, hR.2.2.le hB.size⟩
  · rcases hR.2.2 k e with h3 | h3
    · exact h.ap k hk h3
    · have := (h.ra.lt k hk).2; have := hB.size; omega
  · exact ((Tch.ofBelow hB).trans (hR.2.1.mono fun k hk => .inr (.inr hk))).trans (hset.mono fun k hk => .inl hk)
theorem BkTo.trans {w w1 w2 : World} {B p : Nat} {va vb : Value} {bs1 ss1 bs2 ss2 : List Od} {P : Value → Value → Prop} (h : BkTo w w1 B p va vb bs1 ss1) (h2 : ∀ va' vb', BkA w1 B p va' vb' bs1 ss1 → BkTo w1 w2 B p va' vb' bs2 ss2) : BkTo w w2 B p va vb bs2 ss2 := by
  obtain ⟨va1, vb1, h1, t1, f1, g1⟩ := h
  obtain ⟨va2, vb2, h3, t2, f2, g2⟩ := h2 va1 vb1 h1
  refine ⟨va2, vb2, h3, t1.next t2 fun k hk => ?_, f1.trans f2 t1.size, g1.trans g2 t1.size⟩
  rcases hk with rfl | hk | hk
  · exact .inl (.inl rfl)
  · rcases f1 k hk with e | e
    · exact .inl (.inr (.inl e))
    · exact .inr e
  · rcases g1 k hk with e | e
    · exact .inl (.inr (.inr e))
    · exact .inr e
theorem BkTo.on {w w1 w2 : World} {B p : Nat} {va vb : Value} {bs1 ss1 : List Od} (h : BkTo w w1 B p va vb bs1 ss1) (hb : Below w1.heap.size w1 w2) : BkTo w w2 B p va vb bs1 ss1 := by
  obtain ⟨va1, vb1, h1, t1, f1, g1⟩ := h
  exact ⟨va1, vb1, h1.on hb, t1.trans (Tch.ofBelow hb), f1, g1⟩
theorem BkTo.from {w0 w w1 : World} {B p : Nat} {va vb : Value} {bs1 ss1 : List Od} (hb : Below w0.heap.size w0 w) (h : BkTo w w1 B p va vb bs1 ss1) : BkTo w0 w1 B p va vb bs1 ss1 := by
  obtain ⟨va1, vb1, h1, t1, f1, g1⟩ := h
  exact ⟨va1, vb1, h1, (Tch.ofBelow hb).trans t1, f1.le hb.size, g1.le hb.size⟩
/-- The same, while a block that the call made ahead is written: the rows' new blocks lie from n on. -/
def BkN (w : World) (n : Nat) (w' : World) (B p : Nat) (va vb : Value) (bs' ss' : List Od) : Prop := ∃ va' vb', BkA w' B p va' vb' bs' ss' ∧ Tch (Nb p va vb) w w' ∧ Fr n va va' ∧ Fr n vb vb'
theorem BkTo.n {w W w1 : World} {B p : Nat} {va vb : Value} {bs1 ss1 : List Od} (hb : Below w.heap.size w W) (h : BkTo W w1 B p va vb bs1 ss1) : BkN w W.heap.size w1 B p va vb bs1 ss1 := by
  obtain ⟨va1, vb1, h1, t1, f1, g1⟩ := h
  exact ⟨va1, vb1, h1, (Tch.ofBelow hb).trans t1, f1, g1⟩
theorem BkN.to {w w1 : World} {n B p : Nat} {va vb : Value} {bs1 ss1 : List Od} (h : BkN w n w1 B p va vb bs1 ss1) (hn : w.heap.size ≤ n) : BkTo w w1 B p va vb bs1 ss1 := by
  obtain ⟨va1, vb1, h1, t1, f1, g1⟩ := h
  exact ⟨va1, vb1, h1, t1, f1.le hn, g1.le hn⟩
theorem BkN.set {w w1 : World} {n B p : Nat} {va vb : Value} {bs ss bs1 ss1 : List Od} (h : BkN w n w1 B p va vb bs1 ss1) (h0 : BkA w B p va vb bs ss) {N : Nat} (hN : w.heap.size ≤ N) (hn : N < n) (f : Nat) (u : Value) : BkN w n (w1.setCell ⟨N, f, none⟩ u) B p va vb bs1 ss1 := by
  obtain ⟨va1, vb1, h1, t1, f1, g1⟩ := h
  have hset : Tch (fun k => k = N) w1 (w1.setCell ⟨N, f, none⟩ u) := Tch.set _ _ _ rfl
  have hp := (Array.getElem?_eq_some_iff.1 h0.bk).1
  refine ⟨va1, vb1, ⟨h1.bk.tch hset (by omega), h1.ra.tch hset fun k hk e => ?_, h1.rb.tch hset fun k hk e => ?_, h1.ap, h1.hp⟩, t1.next hset fun k hk => .inr (by omega), f1, g1⟩
  · rcases f1 k hk with h2 | h2
    · have := (h0.ra.lt k h2).2; omega
    · omega
  · rcases g1 k hk with h2 | h2
    · have := (h0.rb.lt k h2).2; omega
    · omega
/-- The list without the one at a place. -/
def less (l : List Od) (i : Nat) : List Od := l.take i ++ l.drop (i + 1)

set_option maxHeartbeats 3200000 in
set_option maxRecDepth 100000 in
theorem cRemove0 {w : World} {B p : Nat} {va vb : Value} {bs ss : List Od} (h : BkA w B p va vb bs ss) (hl : bs.length ≤ 1000 ∧ ss.length ≤ 1000) (k : Nat) (o : Od) (ho : bs[k]? = some o) :
    Calls Try.prog 57 #[ptr p, .int .i64 0, .int .i64 k] w fun e w' => e = .returned o.v ∧ BkTo w w' B p va vb (less bs k) ss := by
  have hlt := (List.getElem?_eq_some_iff.1 ho).1
  obtain ⟨hpl, c0, c1, f0, f1⟩ := h.bk.cells
  have HD : Hid (∀ W, Below w.heap.size w W → Calls Try.prog 61 #[va, .int .i64 k, .int .i64 ((k : Int) + 1)] W fun e w' => ∃ v', e = .returned v' ∧ RowTo W w' B va v' (less bs k)) := hid fun W hW => (cDelete (h.ra.on hW) (by omega) k hlt).mono fun e w' ⟨v', he, h1, h2, h3⟩ => ⟨v', he, h1, h2, fun i hi => .inl (h3 ▸ hi)⟩
  have HH := hid h
  rcases h.ra.shape with ⟨_, e⟩ | ⟨g, cap, rfl, hn, hm, hB, hg, hc, _⟩
  · rw [e] at hlt; simp at hlt
  obtain ⟨o0, o1, o2, o3⟩ := hc k o ho
  obtain ⟨n, hnl⟩ : ∃ n, n = bs.length := ⟨_, rfl⟩
  rw [← hnl] at hlt hl c0 HD HH ⊢
  have HWR : Hid (IntKind.i64.wrap ((k : Int) + 1) = (k : Int) + 1) := hid (by rw [IntKind.wrap_i64]; omega)
  clear h ho hc hn hm hB hnl
  go_enter Try.func57, Try.ntmps57
  go_wp2_with fail
  refine opaqueR _ ?_
  intro W hW
  have hBW : Below w.heap.size w W.drew := by rw [hW]; exact (((Below.refl _ w).alloc (Nat.le_refl _) _).alloc (by simp) _).drew
  have b6 : W.drew.heap[w.heap.size]? = some (.cells #[.int .i64 0, .int .i64 0, .int .i64 0, .int .i64 0] 52 (0, 0)) := by rw [hW]; show ((w.alloc _).alloc _).heap[w.heap.size]? = _; exact obAlloc (heap_alloc_new w _)
  have b7 : W.drew.heap[w.heap.size + 1]? = some (.cells #[.int .i64 o.i, .int .i64 o.s, .int .i64 o.p, .int .i64 o.n] 52 (0, 0)) := by rw [hW]; show ((w.alloc _).alloc _).heap[w.heap.size + 1]? = _; rw [show w.heap.size + 1 = (w.alloc (.cells #[.int .i64 0, .int .i64 0, .int .i64 0, .int .i64 0] 52)).heap.size by simp]; exact heap_alloc_new _ _
  have hWs : W.drew.heap.size = w.heap.size + 2 := by rw [hW]; show ((w.alloc _).alloc _).heap.size = _; simp
  have d0 := (hBW.cell (p := ⟨p, 0, none⟩) hpl).trans c0
  have HB := hid (And.intro hBW (And.intro b6 (And.intro b7 hWs)))
  have HG := hid hg
  clear hBW b6 b7 hWs hW c0 c1 f0 f1 o0 o1 o2 o3 hg
  go_region_law (first
    | (go_simp; go_at_call 61; (
        rw [HWR.out]
        refine (HD.out _ HB.out.1).mono ?_
        rintro e w2 ⟨v', rfl, hR⟩
        obtain ⟨a2, c2, n2, rfl, hn2⟩ := hR.1.asSlice
        have hx := bk_put0 HH.out HB.out.1 hR
        have HX := hid hx.2
        have HY : Hid (BkN w (w.heap.size + 2) (w2.setCell ⟨p, 0, none⟩ (.slice a2 n2 c2)) B p (.slice (some ⟨g, 0, none⟩) n cap) vb (less bs k) ss) := hid (by have h1 := bk_put0 (HH.out.on HB.out.1) (Below.refl _ _) hR; have h2 := BkTo.n HB.out.1 h1.2; rw [HB.out.2.2.2] at h2; exact h2)
        have hq := (hR.2.1.ob HB.out.2.1 (fun e => by have h3 : g = w.heap.size := Option.some.inj e; have := HG.out; omega))
        have hq2 := (hR.2.1.ob HB.out.2.2.1 (fun e => by have h3 : g = w.heap.size + 1 := Option.some.inj e; have := HG.out; omega))
        have T3 : Tch (fun k => k = p) w2 (w2.setCell ⟨p, 0, none⟩ (.slice a2 n2 c2)) := Tch.set _ _ _ rfl
        have hq3 := T3.ob hq (by omega)
        have hq4 := T3.ob hq2 (by omega)
        obtain ⟨hpl2, e0, e1, f0, f1⟩ := hx.1.cells
        clear hx hR hq hq2 T3 hn2)))
  all_goals (
    generalize hW3 : w2.setCell ⟨p, 0, none⟩ (.slice a2 n2 c2) = W3 at HY hq3 hq4 ⊢
    have k0 := cellAt' hq3 0
    have k1 := cellAt' hq3 1
    have k2 := cellAt' hq3 2
    have k3 := cellAt' hq3 3
    have m0 := cellAt' hq4 0
    have m1 := cellAt' hq4 1
    have m2 := cellAt' hq4 2
    have m3 := cellAt' hq4 3
    have z0 : ∀ f, W3.frozen? ⟨w.heap.size, f, none⟩ = false := fun f => by simp [World.frozen?, hq3]
    simp at k0 k1 k2 k3 m0 m1 m2 m3
    clear hq3 hq4 hW3
    go_wp2
    refine bodyPost_ret (v := o.v) (by simp [results, Try.results57, go_sem, k0, k1, k2, k3]) rfl ⟨rfl, ?_⟩
    exact BkN.to ((((HY.out.set HH.out (Nat.le_refl _) (by omega) _ _).set HH.out (Nat.le_refl _) (by omega) _ _).set HH.out (Nat.le_refl _) (by omega) _ _).set HH.out (Nat.le_refl _) (by omega) _ _) (by omega))

set_option maxHeartbeats 3200000 in
set_option maxRecDepth 100000 in
theorem cRemove1 {w : World} {B p : Nat} {va vb : Value} {bs ss : List Od} (h : BkA w B p va vb bs ss) (hl : bs.length ≤ 1000 ∧ ss.length ≤ 1000) (k : Nat) (o : Od) (ho : ss[k]? = some o) :
    Calls Try.prog 57 #[ptr p, .int .i64 1, .int .i64 k] w fun e w' => e = .returned o.v ∧ BkTo w w' B p va vb bs (less ss k) := by
  have hlt := (List.getElem?_eq_some_iff.1 ho).1
  obtain ⟨hpl, c0, c1, f0, f1⟩ := h.bk.cells
  have HD : Hid (∀ W, Below w.heap.size w W → Calls Try.prog 61 #[vb, .int .i64 k, .int .i64 ((k : Int) + 1)] W fun e w' => ∃ v', e = .returned v' ∧ RowTo W w' B vb v' (less ss k)) := hid fun W hW => (cDelete (h.rb.on hW) (by omega) k hlt).mono fun e w' ⟨v', he, h1, h2, h3⟩ => ⟨v', he, h1, h2, fun i hi => .inl (h3 ▸ hi)⟩
  have HH := hid h
  rcases h.rb.shape with ⟨_, e⟩ | ⟨g, cap, rfl, hn, hm, hB, hg, hc, _⟩
  · rw [e] at hlt; simp at hlt
  obtain ⟨o0, o1, o2, o3⟩ := hc k o ho
  obtain ⟨n, hnl⟩ : ∃ n, n = ss.length := ⟨_, rfl⟩
  rw [← hnl] at hlt hl c1 HD HH ⊢
  have HWR : Hid (IntKind.i64.wrap ((k : Int) + 1) = (k : Int) + 1) := hid (by rw [IntKind.wrap_i64]; omega)
  clear h ho hc hn hm hB hnl
  go_enter Try.func57, Try.ntmps57
  go_wp2_with fail
  refine opaqueR _ ?_
  intro W hW
  have hBW : Below w.heap.size w W.drew := by rw [hW]; exact (((Below.refl _ w).alloc (Nat.le_refl _) _).alloc (by simp) _).drew
  have b6 : W.drew.heap[w.heap.size]? = some (.cells #[.int .i64 0, .int .i64 0, .int .i64 0, .int .i64 0] 52 (0, 0)) := by rw [hW]; show ((w.alloc _).alloc _).heap[w.heap.size]? = _; exact obAlloc (heap_alloc_new w _)
  have b7 : W.drew.heap[w.heap.size + 1]? = some (.cells #[.int .i64 o.i, .int .i64 o.s, .int .i64 o.p, .int .i64 o.n] 52 (0, 0)) := by rw [hW]; show ((w.alloc _).alloc _).heap[w.heap.size + 1]? = _; rw [show w.heap.size + 1 = (w.alloc (.cells #[.int .i64 0, .int .i64 0, .int .i64 0, .int .i64 0] 52)).heap.size by simp]; exact heap_alloc_new _ _
  have hWs : W.drew.heap.size = w.heap.size + 2 := by rw [hW]; show ((w.alloc _).alloc _).heap.size = _; simp
  have d0 := (hBW.cell (p := ⟨p, 1, none⟩) hpl).trans c1
  have HB := hid (And.intro hBW (And.intro b6 (And.intro b7 hWs)))
  have HG := hid hg
  clear hBW b6 b7 hWs hW c0 c1 f0 f1 o0 o1 o2 o3 hg
  go_region_law (first
    | (go_simp; go_at_call 61; (
        rw [HWR.out]
        refine (HD.out _ HB.out.1).mono ?_
        rintro e w2 ⟨v', rfl, hR⟩
        obtain ⟨a2, c2, n2, rfl, hn2⟩ := hR.1.asSlice
        have hx := bk_put1 HH.out HB.out.1 hR
        have HX := hid hx.2
        have HY : Hid (BkN w (w.heap.size + 2) (w2.setCell ⟨p, 1, none⟩ (.slice a2 n2 c2)) B p va (.slice (some ⟨g, 0, none⟩) n cap) bs (less ss k)) := hid (by have h1 := bk_put1 (HH.out.on HB.out.1) (Below.refl _ _) hR; have h2 := BkTo.n HB.out.1 h1.2; rw [HB.out.2.2.2] at h2; exact h2)
        have hq := (hR.2.1.ob HB.out.2.1 (fun e => by have h3 : g = w.heap.size := Option.some.inj e; have := HG.out; omega))
        have hq2 := (hR.2.1.ob HB.out.2.2.1 (fun e => by have h3 : g = w.heap.size + 1 := Option.some.inj e; have := HG.out; omega))
        have T3 : Tch (fun k => k = p) w2 (w2.setCell ⟨p, 1, none⟩ (.slice a2 n2 c2)) := Tch.set _ _ _ rfl
        have hq3 := T3.ob hq (by omega)
        have hq4 := T3.ob hq2 (by omega)
        obtain ⟨hpl2, e0, e1, f0, f1⟩ := hx.1.cells
        clear hx hR hq hq2 T3 hn2)))
  all_goals (
    generalize hW3 : w2.setCell ⟨p, 1, none⟩ (.slice a2 n2 c2) = W3 at HY hq3 hq4 ⊢
    have k0 := cellAt' hq3 0
    have k1 := cellAt' hq3 1
    have k2 := cellAt' hq3 2
    have k3 := cellAt' hq3 3
    have m0 := cellAt' hq4 0
    have m1 := cellAt' hq4 1
    have m2 := cellAt' hq4 2
    have m3 := cellAt' hq4 3
    have z0 : ∀ f, W3.frozen? ⟨w.heap.size, f, none⟩ = false := fun f => by simp [World.frozen?, hq3]
    simp at k0 k1 k2 k3 m0 m1 m2 m3
    clear hq3 hq4 hW3
    go_wp2
    refine bodyPost_ret (v := o.v) (by simp [results, Try.results57, go_sem, k0, k1, k2, k3]) rfl ⟨rfl, ?_⟩
    exact BkN.to ((((HY.out.set HH.out (Nat.le_refl _) (by omega) _ _).set HH.out (Nat.le_refl _) (by omega) _ _).set HH.out (Nat.le_refl _) (by omega) _ _).set HH.out (Nat.le_refl _) (by omega) _ _) (by omega))

set_option maxHeartbeats 3200000 in
set_option maxRecDepth 100000 in
theorem cRestS0 {w : World} {B p : Nat} {va vb : Value} {bs ss : List Od} (h : BkA w B p va vb bs ss) (hl : bs.length ≤ 1000 ∧ ss.length ≤ 1000) (hB : B ≤ w.heap.size) (i pr m : Int) :
    Calls Try.prog 55 #[ptr p, .agg #[.int .i64 i, .int .i64 0, .int .i64 pr, .int .i64 m]] w fun e w' => e = .returned (.tuple #[]) ∧ BkTo w w' B p va vb (insG bs (bs.findIdx (isW ⟨i, 0, pr, m⟩)) ⟨i, 0, pr, m⟩) ss := by
  obtain ⟨hpl, c0, c1, f0, f1⟩ := h.bk.cells
  have eg : ∀ args w, (callFunc 63 args).run Try.prog w = .ok (.enter 63 args) w := enters_of Try.func63 (by kernel_rfl) rfl
  have HI : Hid (∀ W, Below (w.heap.size + 1) (w.alloc (.cells #[.int .i64 i, .int .i64 0, .int .i64 pr, .int .i64 m] 52)) W → Calls Try.prog 62 #[va, .func (.func 63) #[] #[ptr w.heap.size]] W fun e w' => e = .returned (.int .i64 (idxO (isW (⟨i, 0, pr, m⟩ : Od)) bs)) ∧ Below (w.heap.size + 1) (w.alloc (.cells #[.int .i64 i, .int .i64 0, .int .i64 pr, .int .i64 m] 52)) w') := hid fun W hW => by
    have hBw : Below w.heap.size w W := below_box hW
    have hc : W.heap[w.heap.size]? = some (.cells #[.int .i64 i, .int .i64 0, .int .i64 pr, .int .i64 m] 52 (0, 0)) := obOn (heap_alloc_new w _) hW (by omega)
    have hsz := hW.size
    exact (cIndexFunc (h.ra.on hBw) (by omega) (isW (⟨i, 0, pr, m⟩ : Od)) _ _ eg (cRest1 (⟨i, 0, pr, m⟩ : Od) w.heap.size W hc)).mono fun e w' ⟨he, hb⟩ => ⟨he, hW.trans (hb.mono (by simpa using hsz))⟩
  have HN : Hid (∀ W q, Below w.heap.size w W → W.heap[q]? = some (.cells #[.int .i64 i, .int .i64 0, .int .i64 pr, .int .i64 m] 52 (0, 0)) → w.heap.size ≤ q → Calls Try.prog 65 #[va, .int .i64 ((bs.findIdx (isW (⟨i, 0, pr, m⟩ : Od)) : Nat) : Int), .slice (some ⟨q, 0, none⟩) 1 1] W fun e w' => ∃ v', e = .returned v' ∧ RowTo W w' B va v' (insG bs (bs.findIdx (isW (⟨i, 0, pr, m⟩ : Od))) (⟨i, 0, pr, m⟩ : Od))) := hid fun W q hW hq hwq =>
    cInsert (h.ra.on hW) (by omega) (Nat.le_trans hB hW.size) _ List.findIdx_le_length (⟨i, 0, pr, m⟩ : Od) q hq fun e => by have := (h.ra.lt q e).2; omega
  have HH := hid h
  obtain ⟨a, cap, n, e1, hn⟩ := h.ra.asSlice
  subst e1
  obtain ⟨j, hj⟩ : ∃ j : Nat, j = bs.findIdx (isW (⟨i, 0, pr, m⟩ : Od)) := ⟨_, rfl⟩
  rcases hany : bs.any (isW (⟨i, 0, pr, m⟩ : Od)) with _ | _
  · have ei : idxO (isW (⟨i, 0, pr, m⟩ : Od)) bs = -1 := idxO_none hany
    have ej : j = n := by
      rw [hj, hn, List.findIdx_eq_length]
      intro x hx
      simpa using List.any_eq_false.1 hany x hx
    rw [ei] at HI
    rw [← hj, ej] at HN ⊢
    clear h hj ej ei hany hn eg hl
    go_enter Try.func55, Try.ntmps55
    go_wp2_with fail
    go_region_law fail
    go_wp2_with (go_at_call 62; refine (HI.out _ (Below.refl _ _).drew).mono ?_; rintro e w2 ⟨rfl, hB2⟩; have hb2 := below_box hB2; have d0 := (hb2.cell (p := ⟨p, 0, none⟩) hpl).trans c0; have hq := obOn (heap_alloc_new w (.cells #[.int .i64 i, .int .i64 0, .int .i64 pr, .int .i64 m] 52)) hB2 (by omega); have k0 := cellAt' hq 0; have k1 := cellAt' hq 1; have k2 := cellAt' hq 2; have k3 := cellAt' hq 3; simp at k0 k1 k2 k3; have hz2 : w.heap.size < w2.heap.size := (by have := hB2.size; simp at this; omega); have HB2 := hid hb2; clear hb2 hB2 hq)
    go_region_law (first
      | (go_simp; go_at_call 65; (
          have hal : Below w2.heap.size w2 (w2.drew.alloc (.cells #[.int .i64 i, .int .i64 0, .int .i64 pr, .int .i64 m] 52)) := (Below.refl _ w2).drew.alloc (Nat.le_refl _) _
          have hbw : Below w.heap.size w (w2.drew.alloc (.cells #[.int .i64 i, .int .i64 0, .int .i64 pr, .int .i64 m] 52)) := HB2.out.trans (hal.mono HB2.out.size)
          refine (HN.out _ w2.heap.size hbw (heap_alloc_new w2.drew _) HB2.out.size).mono ?_
          rintro e w4 ⟨v', rfl, hR⟩
          obtain ⟨a2, c2, n2, rfl, hn2⟩ := hR.1.asSlice
          have hx := bk_put0 HH.out hbw hR
          have HX := hid hx.2
          obtain ⟨hpl2, e0, e1, f0, f1⟩ := hx.1.cells
          have q1 := (hR.2.1.cell (i := 1) (Nat.lt_of_lt_of_le hz2 hal.size) (fun e => by have := (HH.out.ra.lt _ e).2; omega)).trans ((hal.cell (p := ⟨w.heap.size, 1, none⟩) hz2).trans k1)
          clear hx hR hn2 hal hbw)))
    all_goals (
      go_wp2
      go_end0
      exact ⟨rfl, HX.out⟩)
  · obtain ⟨ei, _⟩ := idxO_any hany
    rw [ei] at HI
    rw [← hj] at HN HI ⊢
    clear h hj ei hany hn eg hl
    go_enter Try.func55, Try.ntmps55
    go_wp2_with fail
    go_region_law fail
    go_wp2_with (go_at_call 62; refine (HI.out _ (Below.refl _ _).drew).mono ?_; rintro e w2 ⟨rfl, hB2⟩; have hb2 := below_box hB2; have d0 := (hb2.cell (p := ⟨p, 0, none⟩) hpl).trans c0; have hq := obOn (heap_alloc_new w (.cells #[.int .i64 i, .int .i64 0, .int .i64 pr, .int .i64 m] 52)) hB2 (by omega); have k0 := cellAt' hq 0; have k1 := cellAt' hq 1; have k2 := cellAt' hq 2; have k3 := cellAt' hq 3; simp at k0 k1 k2 k3; have hz2 : w.heap.size < w2.heap.size := (by have := hB2.size; simp at this; omega); have HB2 := hid hb2; clear hb2 hB2 hq)
    go_region_law (first
      | (go_simp; go_at_call 65; (
          have hal : Below w2.heap.size w2 (w2.drew.alloc (.cells #[.int .i64 i, .int .i64 0, .int .i64 pr, .int .i64 m] 52)) := (Below.refl _ w2).drew.alloc (Nat.le_refl _) _
          have hbw : Below w.heap.size w (w2.drew.alloc (.cells #[.int .i64 i, .int .i64 0, .int .i64 pr, .int .i64 m] 52)) := HB2.out.trans (hal.mono HB2.out.size)
          refine (HN.out _ w2.heap.size hbw (heap_alloc_new w2.drew _) HB2.out.size).mono ?_
          rintro e w4 ⟨v', rfl, hR⟩
          obtain ⟨a2, c2, n2, rfl, hn2⟩ := hR.1.asSlice
          have hx := bk_put0 HH.out hbw hR
          have HX := hid hx.2
          obtain ⟨hpl2, e0, e1, f0, f1⟩ := hx.1.cells
          have q1 := (hR.2.1.cell (i := 1) (Nat.lt_of_lt_of_le hz2 hal.size) (fun e => by have := (HH.out.ra.lt _ e).2; omega)).trans ((hal.cell (p := ⟨w.heap.size, 1, none⟩) hz2).trans k1)
          clear hx hR hn2 hal hbw)))
    all_goals (
      go_wp2
      go_end0
      exact ⟨rfl, HX.out⟩)

set_option maxHeartbeats 3200000 in
set_option maxRecDepth 100000 in
theorem cRestS1 {w : World} {B p : Nat} {va vb : Value} {bs ss : List Od} (h : BkA w B p va vb bs ss) (hl : bs.length ≤ 1000 ∧ ss.length ≤ 1000) (hB : B ≤ w.heap.size) (i pr m : Int) :
    Calls Try.prog 55 #[ptr p, .agg #[.int .i64 i, .int .i64 1, .int .i64 pr, .int .i64 m]] w fun e w' => e = .returned (.tuple #[]) ∧ BkTo w w' B p va vb bs (insG ss (ss.findIdx (isW ⟨i, 1, pr, m⟩)) ⟨i, 1, pr, m⟩) := by
  obtain ⟨hpl, c0, c1, f0, f1⟩ := h.bk.cells
  have eg : ∀ args w, (callFunc 63 args).run Try.prog w = .ok (.enter 63 args) w := enters_of Try.func63 (by kernel_rfl) rfl
  have HI : Hid (∀ W, Below (w.heap.size + 1) (w.alloc (.cells #[.int .i64 i, .int .i64 1, .int .i64 pr, .int .i64 m] 52)) W → Calls Try.prog 62 #[vb, .func (.func 63) #[] #[ptr w.heap.size]] W fun e w' => e = .returned (.int .i64 (idxO (isW (⟨i, 1, pr, m⟩ : Od)) ss)) ∧ Below (w.heap.size + 1) (w.alloc (.cells #[.int .i64 i, .int .i64 1, .int .i64 pr, .int .i64 m] 52)) w') := hid fun W hW => by
    have hBw : Below w.heap.size w W := below_box hW
    have hc : W.heap[w.heap.size]? = some (.cells #[.int .i64 i, .int .i64 1, .int .i64 pr, .int .i64 m] 52 (0, 0)) := obOn (heap_alloc_new w _) hW (by omega)
    have hsz := hW.size
    exact (cIndexFunc (h.rb.on hBw) (by omega) (isW (⟨i, 1, pr, m⟩ : Od)) _ _ eg (cRest1 (⟨i, 1, pr, m⟩ : Od) w.heap.size W hc)).mono fun e w' ⟨he, hb⟩ => ⟨he, hW.trans (hb.mono (by simpa using hsz))⟩
  have HN : Hid (∀ W q, Below w.heap.size w W → W.heap[q]? = some (.cells #[.int .i64 i, .int .i64 1, .int .i64 pr, .int .i64 m] 52 (0, 0)) → w.heap.size ≤ q → Calls Try.prog 65 #[vb, .int .i64 ((ss.findIdx (isW (⟨i, 1, pr, m⟩ : Od)) : Nat) : Int), .slice (some ⟨q, 0, none⟩) 1 1] W fun e w' => ∃ v', e = .returned v' ∧ RowTo W w' B vb v' (insG ss (ss.findIdx (isW (⟨i, 1, pr, m⟩ : Od))) (⟨i, 1, pr, m⟩ : Od))) := hid fun W q hW hq hwq =>
    cInsert (h.rb.on hW) (by omega) (Nat.le_trans hB hW.size) _ List.findIdx_le_length (⟨i, 1, pr, m⟩ : Od) q hq fun e => by have := (h.rb.lt q e).2; omega
  have HH := hid h
  obtain ⟨a, cap, n, e1, hn⟩ := h.rb.asSlice
  subst e1
  obtain ⟨j, hj⟩ : ∃ j : Nat, j = ss.findIdx (isW (⟨i, 1, pr, m⟩ : Od)) := ⟨_, rfl⟩
  rcases hany : ss.any (isW (⟨i, 1, pr, m⟩ : Od)) with _ | _
  · have ei : idxO (isW (⟨i, 1, pr, m⟩ : Od)) ss = -1 := idxO_none hany
    have ej : j = n := by
      rw [hj, hn, List.findIdx_eq_length]
      intro x hx
      simpa using List.any_eq_false.1 hany x hx
    rw [ei] at HI
    rw [← hj, ej] at HN ⊢
    clear h hj ej ei hany hn eg hl
    go_enter Try.func55, Try.ntmps55
    go_wp2_with fail
    go_region_law fail
    go_wp2_with (go_at_call 62; refine (HI.out _ (Below.refl _ _).drew).mono ?_; rintro e w2 ⟨rfl, hB2⟩; have hb2 := below_box hB2; have d0 := (hb2.cell (p := ⟨p, 1, none⟩) hpl).trans c1; have hq := obOn (heap_alloc_new w (.cells #[.int .i64 i, .int .i64 1, .int .i64 pr, .int .i64 m] 52)) hB2 (by omega); have k0 := cellAt' hq 0; have k1 := cellAt' hq 1; have k2 := cellAt' hq 2; have k3 := cellAt' hq 3; simp at k0 k1 k2 k3; have hz2 : w.heap.size < w2.heap.size := (by have := hB2.size; simp at this; omega); have HB2 := hid hb2; clear hb2 hB2 hq)
    go_region_law (first
      | (go_simp; go_at_call 65; (
          have hal : Below w2.heap.size w2 (w2.drew.alloc (.cells #[.int .i64 i, .int .i64 1, .int .i64 pr, .int .i64 m] 52)) := (Below.refl _ w2).drew.alloc (Nat.le_refl _) _
          have hbw : Below w.heap.size w (w2.drew.alloc (.cells #[.int .i64 i, .int .i64 1, .int .i64 pr, .int .i64 m] 52)) := HB2.out.trans (hal.mono HB2.out.size)
          refine (HN.out _ w2.heap.size hbw (heap_alloc_new w2.drew _) HB2.out.size).mono ?_
          rintro e w4 ⟨v', rfl, hR⟩
          obtain ⟨a2, c2, n2, rfl, hn2⟩ := hR.1.asSlice
          have hx := bk_put1 HH.out hbw hR
          have HX := hid hx.2
          obtain ⟨hpl2, e0, e1, f0, f1⟩ := hx.1.cells
          have q1 := (hR.2.1.cell (i := 1) (Nat.lt_of_lt_of_le hz2 hal.size) (fun e => by have := (HH.out.rb.lt _ e).2; omega)).trans ((hal.cell (p := ⟨w.heap.size, 1, none⟩) hz2).trans k1)
          clear hx hR hn2 hal hbw)))
    all_goals (
      go_wp2
      go_end0
      exact ⟨rfl, HX.out⟩)
  · obtain ⟨ei, _⟩ := idxO_any hany
    rw [ei] at HI
    rw [← hj] at HN HI ⊢
    clear h hj ei hany hn eg hl
    go_enter Try.func55, Try.ntmps55
    go_wp2_with fail
    go_region_law fail
    go_wp2_with (go_at_call 62; refine (HI.out _ (Below.refl _ _).drew).mono ?_; rintro e w2 ⟨rfl, hB2⟩; have hb2 := below_box hB2; have d0 := (hb2.cell (p := ⟨p, 1, none⟩) hpl).trans c1; have hq := obOn (heap_alloc_new w (.cells #[.int .i64 i, .int .i64 1, .int .i64 pr, .int .i64 m] 52)) hB2 (by omega); have k0 := cellAt' hq 0; have k1 := cellAt' hq 1; have k2 := cellAt' hq 2; have k3 := cellAt' hq 3; simp at k0 k1 k2 k3; have hz2 : w.heap.size < w2.heap.size := (by have := hB2.size; simp at this; omega); have HB2 := hid hb2; clear hb2 hB2 hq)
    go_region_law (first
      | (go_simp; go_at_call 65; (
          have hal : Below w2.heap.size w2 (w2.drew.alloc (.cells #[.int .i64 i, .int .i64 1, .int .i64 pr, .int .i64 m] 52)) := (Below.refl _ w2).drew.alloc (Nat.le_refl _) _
          have hbw : Below w.heap.size w (w2.drew.alloc (.cells #[.int .i64 i, .int .i64 1, .int .i64 pr, .int .i64 m] 52)) := HB2.out.trans (hal.mono HB2.out.size)
          refine (HN.out _ w2.heap.size hbw (heap_alloc_new w2.drew _) HB2.out.size).mono ?_
          rintro e w4 ⟨v', rfl, hR⟩
          obtain ⟨a2, c2, n2, rfl, hn2⟩ := hR.1.asSlice
          have hx := bk_put1 HH.out hbw hR
          have HX := hid hx.2
          obtain ⟨hpl2, e0, e1, f0, f1⟩ := hx.1.cells
          have q1 := (hR.2.1.cell (i := 1) (Nat.lt_of_lt_of_le hz2 hal.size) (fun e => by have := (HH.out.rb.lt _ e).2; omega)).trans ((hal.cell (p := ⟨w.heap.size, 1, none⟩) hz2).trans k1)
          clear hx hR hn2 hal hbw)))
    all_goals (
      go_wp2
      go_end0
      exact ⟨rfl, HX.out⟩)

end Go.Proofs.Ytdgllpfccdbdnaa

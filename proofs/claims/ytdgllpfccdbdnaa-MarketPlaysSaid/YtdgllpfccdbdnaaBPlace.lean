/- The program's book: Place. -/
import Derived.Test.YtdgllpfccdbdnaaBWout
namespace Go.Proofs.Ytdgllpfccdbdnaa
set_option linter.unusedVariables false
open Go.RowKit
open Go.Lib (hid)

/-- The error of an order, whatever would fill it. -/
def refE (bs ss : List Od) (o : Od) : Int := if o.n = 0 then 7 else if mayB o = false then 1 else if wOk bs ss o.i then 6 else 0
set_option maxHeartbeats 1600000 in
set_option maxRecDepth 100000 in
theorem cRefuses {w : World} {B p : Nat} {va vb : Value} {bs ss : List Od} (h : BkA w B p va vb bs ss) (hl : bs.length ≤ 1000 ∧ ss.length ≤ 1000) (o : Od) :
    Calls Try.prog 50 #[ptr p, o.v] w fun e w' => e = .returned (.int .i64 (refE bs ss o)) ∧ Below w.heap.size w w' := by
  have hal : ∀ n, Below w.heap.size w (w.alloc (.cells #[.int .i64 o.i, .int .i64 o.s, .int .i64 o.p, .int .i64 n] 52)) := fun n => (Below.refl _ w).alloc (Nat.le_refl _) _
  have HM := hid (fun w => cMayBe o w)
  have HW := hid (fun (W : World) (hW : Below w.heap.size w W) => cWhere (h.on hW) hl o.i)
  have HA := hid hal
  clear h
  by_cases h0 : o.n = 0
  · have hr : refE bs ss o = 7 := by unfold refE; rw [if_pos h0]
    rw [hr]
    clear hr hal
    go_enter Try.func50, Try.ntmps50
    go_wp2
    go_ret
    exact ⟨rfl, HA.out _⟩
  · rcases hm : mayB o with _ | _
    · have hr : refE bs ss o = 1 := by unfold refE; rw [if_neg h0, if_pos hm]
      rw [hr]
      rw [hm] at HM
      clear hr hm hal
      go_enter Try.func50, Try.ntmps50
      go_wp2_with (go_at_call 59; refine (HM.out _).mono ?_; rintro e w1 ⟨rfl, hB1⟩; have HB1 := hid hB1; clear hB1)
      go_ret
      exact ⟨rfl, (HA.out _).trans (HB1.out.mono (by simp))⟩
    · rcases hw : wOk bs ss o.i with _ | _
      · have hr : refE bs ss o = 0 := by unfold refE; rw [if_neg h0, if_neg (by rw [hm]; decide), if_neg (by rw [hw]; decide)]
        rw [hr]
        rw [hm] at HM
        rw [hw] at HW
        clear hr hm hw hal
        go_enter Try.func50, Try.ntmps50
        go_wp2_with (first
          | (go_at_call 59; refine (HM.out _).mono ?_; rintro e w1 ⟨rfl, hB1⟩; have hq := obOn (heap_alloc_new w (.cells #[.int .i64 o.i, .int .i64 o.s, .int .i64 o.p, .int .i64 o.n] 52)) (hB1.mono (B' := w.heap.size + 1) (by simp)) (by omega); have k0 := cellAt' hq 0; simp at k0; have hz := (Array.getElem?_eq_some_iff.1 hq).1; have HB1 := hid ((HA.out _).trans (hB1.mono (by simp))); clear hB1 hq)
          | (go_at_call 56; refine (HW.out _ HB1.out).mono ?_; rintro e w2 ⟨rfl, hB2⟩; have HB2 := hid hB2; clear hB2))
        go_ret
        exact ⟨rfl, HB1.out.trans (HB2.out.mono HB1.out.size)⟩
      · have hr : refE bs ss o = 6 := by unfold refE; rw [if_neg h0, if_neg (by rw [hm]; decide), if_pos hw]
        rw [hr]
        rw [hm] at HM
        rw [hw] at HW
        clear hr hm hw hal
        go_enter Try.func50, Try.ntmps50
        go_wp2_with (first
          | (go_at_call 59; refine (HM.out _).mono ?_; rintro e w1 ⟨rfl, hB1⟩; have hq := obOn (heap_alloc_new w (.cells #[.int .i64 o.i, .int .i64 o.s, .int .i64 o.p, .int .i64 o.n] 52)) (hB1.mono (B' := w.heap.size + 1) (by simp)) (by omega); have k0 := cellAt' hq 0; simp at k0; have hz := (Array.getElem?_eq_some_iff.1 hq).1; have HB1 := hid ((HA.out _).trans (hB1.mono (by simp))); clear hB1 hq)
          | (go_at_call 56; refine (HW.out _ HB1.out).mono ?_; rintro e w2 ⟨rfl, hB2⟩; have HB2 := hid hB2; clear hB2))
        go_ret
        exact ⟨rfl, HB1.out.trans (HB2.out.mono HB1.out.size)⟩

theorem BkN.then {P : Program} {f : FuncId} {args : Array Value} {w W : World} {n B p : Nat} {va vb : Value} {bs ss bs1 ss1 bs2 ss2 : List Od} {v : Value} (h : BkN w n W B p va vb bs1 ss1) (h0 : BkA w B p va vb bs ss) (hn0 : w.heap.size ≤ n) (hn : n ≤ W.heap.size)
    (h2 : ∀ va' vb', BkA W B p va' vb' bs1 ss1 → Calls P f args W fun e w' => e = .returned v ∧ BkTo W w' B p va' vb' bs2 ss2) :
    Calls P f args W fun e w' => e = .returned v ∧ BkN w n w' B p va vb bs2 ss2 ∧ (∀ k, w.heap.size ≤ k → k < n → w'.heap[k]? = W.heap[k]?) ∧ W.heap.size ≤ w'.heap.size := by
  obtain ⟨va1, vb1, h1, t1, f1, g1⟩ := h
  refine (h2 va1 vb1 h1).mono fun e w' ⟨he, h3⟩ => ⟨he, ?_⟩
  obtain ⟨va2, vb2, h3, t2, f2, g2⟩ := h3
  have hp := (Array.getElem?_eq_some_iff.1 h0.bk).1
  refine ⟨⟨va2, vb2, h3, t1.next t2 fun k hk => ?_, fun k hk => ?_, fun k hk => ?_⟩, fun k hk hkn => t2.block k (by omega) fun hs => ?_, t2.size⟩
  · rcases hk with rfl | hk | hk
    · exact .inl (.inl rfl)
    · rcases f1 k hk with e | e
      · exact .inl (.inr (.inl e))
      · exact .inr (Nat.le_trans hn0 e)
    · rcases g1 k hk with e | e
      · exact .inl (.inr (.inr e))
      · exact .inr (Nat.le_trans hn0 e)
  · rcases f2 k hk with e | e
    · exact f1 k e
    · exact .inr (Nat.le_trans hn e)
  · rcases g2 k hk with e | e
    · exact g1 k e
    · exact .inr (Nat.le_trans hn e)
  · rcases hs with rfl | hs | hs
    · omega
    · rcases f1 k hs with e | e
      · have := (h0.ra.lt k e).2; omega
      · omega
    · rcases g1 k hs with e | e
      · have := (h0.rb.lt k e).2; omega
      · omega
theorem own_kept {w w' : World} {B size n : Nat} {e : TypeId} {v : Value} {xs : List Value} (h : w.ownsRow B e size v n xs) (hk : ∀ k, v.ownBlock = some k → w'.heap[k]? = w.heap[k]?) : w'.ownsRow B e size v n xs := by
  refine ⟨h.1, ?_⟩
  rcases h.2 with h2 | ⟨g, cap, cur, rfl, h1, hg, r⟩
  · exact .inl h2
  · exact .inr ⟨g, cap, cur, rfl, h1, (hk g rfl).trans hg, r⟩
/-- The two blocks with which Place begins. -/
theorem two_boxes {w w1 : World} {i s p n : Int} (h : Below (w.heap.size + 2) ((w.alloc (.cells #[.int .i64 i, .int .i64 s, .int .i64 p, .int .i64 n] 52 (0, 0))).alloc box3) w1) :
    w1.heap[w.heap.size]? = some (.cells #[.int .i64 i, .int .i64 s, .int .i64 p, .int .i64 n] 52 (0, 0)) ∧ w1.heap[w.heap.size + 1]? = some box3 ∧ Below w.heap.size w w1 ∧ w.heap.size + 2 ≤ w1.heap.size := by
  have h1 : ((w.alloc (.cells #[.int .i64 i, .int .i64 s, .int .i64 p, .int .i64 n] 52 (0, 0))).alloc box3).heap[w.heap.size + 1]? = some box3 := by
    rw [show w.heap.size + 1 = (w.alloc (.cells #[.int .i64 i, .int .i64 s, .int .i64 p, .int .i64 n] 52 (0, 0))).heap.size by simp]; exact heap_alloc_new _ _
  refine ⟨obOn (obAlloc (heap_alloc_new w _)) h (by omega), obOn h1 h (by omega), (((Below.refl _ w).alloc (Nat.le_refl _) _).alloc (by simp) _).trans (h.mono (by omega)), ?_⟩
  have := h.size; simp at this; omega
theorem box4_at {w1 : World} {N : Nat} {i s p n : Int} (h : w1.heap[N]? = some (.cells #[.int .i64 i, .int .i64 s, .int .i64 p, .int .i64 n] 52 (0, 0))) : (w1.cell? ⟨N, 0, none⟩ = some (.int .i64 i) ∧ w1.cell? ⟨N, 1, none⟩ = some (.int .i64 s) ∧ w1.cell? ⟨N, 2, none⟩ = some (.int .i64 p) ∧ w1.cell? ⟨N, 3, none⟩ = some (.int .i64 n)) ∧ (∀ f, w1.frozen? ⟨N, f, none⟩ = false) ∧ N < w1.heap.size := by
  exact ⟨⟨by rw [cellAt' h]; rfl, by rw [cellAt' h]; rfl, by rw [cellAt' h]; rfl, by rw [cellAt' h]; rfl⟩, fun f => by simp [World.frozen?, h], (Array.getElem?_eq_some_iff.1 h).1⟩
theorem box3_at' {w1 : World} {N : Nat} (h : w1.heap[N]? = some box3) : (w1.cell? ⟨N, 0, none⟩ = some (.int .i64 0) ∧ w1.cell? ⟨N, 1, none⟩ = some (.slice none 0 0) ∧ w1.cell? ⟨N, 2, none⟩ = some (.int .i64 0)) ∧ (∀ f, w1.frozen? ⟨N, f, none⟩ = false) ∧ N < w1.heap.size := by
  refine ⟨⟨by rw [cellAt' h]; rfl, by rw [cellAt' h]; rfl, by rw [cellAt' h]; rfl⟩, fun f => by simp [World.frozen?, h], (Array.getElem?_eq_some_iff.1 h).1⟩

set_option maxHeartbeats 3200000 in
set_option maxRecDepth 100000 in
theorem cPlace_bad {w : World} {B p : Nat} {va vb : Value} {bs ss : List Od} (h : BkA w B p va vb bs ss) (hl : bs.length ≤ 1000 ∧ ss.length ≤ 1000) (o : Od) (err : Int) (he : refE bs ss o = err) (h0 : err ≠ 0) :
    Calls Try.prog 33 #[ptr p, o.v] w fun e w' => Told w w' B p va vb e err [] 0 bs ss := by
  have HR := hid (fun (W : World) (hW : Below w.heap.size w W) => cRefuses (h.on hW) hl o)
  rw [he] at HR
  have HH := hid h
  have hw0 : Below w.heap.size w ((w.alloc (.cells #[.int .i64 o.i, .int .i64 o.s, .int .i64 o.p, .int .i64 o.n] 52 (0, 0))).alloc box3) := ((Below.refl _ w).alloc (Nat.le_refl _) _).alloc (by simp) _
  have HW0 := hid hw0
  clear h he hw0
  go_enter Try.func33, Try.ntmps33
  go_wp2_with (first
    | (go_at_call 50; refine (HR.out _ HW0.out).mono ?_; rintro e w1 ⟨rfl, hB1⟩; have HB1 := hid hB1; clear hB1)
    | (go_at_call 49; refine (cFailed _ _).mono ?_; rintro e w2 ⟨rfl, hB2⟩; have hB := HB1.out.trans (hB2.mono HB1.out.size); have hx := two_boxes (hB.mono (by simp)); have hk := box3_at' hx.2.1; obtain ⟨⟨k0, k1, k2⟩, fz, hz⟩ := hk; have HB := hid hx.2.2.1; clear hB2 hB hx))
  refine bodyPost_ret (v := rpV err (.slice none 0 0) 0) (by simp [results, Try.results33, go_sem, k0, k1, k2]) rfl ⟨_, rfl, World.ownsRow_nil _ _ _ _, ?_⟩
  exact (BkTo.refl HH.out).on (((HB.out.setCell (Nat.le_succ _) _).setCell (Nat.le_succ _) _).setCell (Nat.le_succ _) _)

theorem without_len : ∀ (l : List Od) (fs : List Fl), (withoutG l fs).length ≤ l.length
  | l, [] => by simp [withoutG]
  | [], f :: fs => by simp [withoutG]
  | x :: xs, f :: fs => by
    simp only [withoutG]
    split
    · exact Nat.le_trans (without_len xs fs) (by simp)
    · exact Nat.le_trans (without_len _ fs) (by simp)
termination_by l fs => fs.length
end Go.Proofs.Ytdgllpfccdbdnaa

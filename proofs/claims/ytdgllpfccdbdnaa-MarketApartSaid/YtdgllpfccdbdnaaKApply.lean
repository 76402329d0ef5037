/- The program's market: Apply. -/
import Derived.Test.YtdgllpfccdbdnaaKDoes
namespace Go.Proofs.Ytdgllpfccdbdnaa
set_option linter.unusedVariables false
set_option linter.unusedSimpArgs false
open Go.RowKit
open Go.Lib (hid)

theorem fill_ok {s p t : Int} : ∀ (l : List Od) (left : Int), 0 ≤ left → left ≤ 1048576 → AllO t l → FlOk (fillG s p left l).1
  | [], left, h, _, _ => by simp [fillG, FlOk]
  | x :: xs, left, h, h2, hx => by
    have h1 := hx x (by simp)
    unfold okO at h1
    unfold fillG
    split
    · intro f hf; simp at hf
    · rename_i hc
      have hl : left ≠ 0 := fun e => hc (.inl e)
      intro f hf
      rcases List.mem_cons.1 hf with rfl | hf
      · simp only; omega
      · exact fill_ok xs (left - min left x.n) (by omega) (by omega) (fun y hy => hx y (by simp [hy])) f hf
/-- The fills of an act may be. -/
theorem does_ok (c : C7) {bs ss : List Od} (hF : FineB bs ss) : FlOk (doesF c bs ss).2.1 ∧ (doesF c bs ss).2.1.length ≤ 8 := by
  have hnil : FlOk [] ∧ ([] : List Fl).length ≤ 8 := ⟨fun f hf => by simp at hf, by simp⟩
  have hlen := hF.len
  unfold doesF
  split
  · unfold placeF
    split
    · exact hnil
    · rename_i hc
      have he : refE bs ss ⟨c.i, c.d, c.p, c.q⟩ = 0 := by omega
      have hmay : mayB ⟨c.i, c.d, c.p, c.q⟩ = true := by
        unfold refE at he
        split at he
        · cases he
        · split at he
          · cases he
          · rename_i hh; simpa using hh
      have hm2 := may_iff.1 hmay
      simp only at hm2
      have h0 := fill_ok (s := 0) (p := c.p) ss c.q (by omega) (by omega) hF.fs
      have h1 := fill_ok (s := 1) (p := c.p) bs c.q (by omega) (by omega) hF.fb
      have l0 := (fillG_left (s := 0) (p := c.p) ss c.q (by omega) fun x hx => by have := hF.fs x hx; unfold okO at this; omega).2.2.1
      have l1 := (fillG_left (s := 1) (p := c.p) bs c.q (by omega) fun x hx => by have := hF.fb x hx; unfold okO at this; omega).2.2.1
      split <;> split <;> (try split) <;> first | exact hnil | exact ⟨h0, by simp only; omega⟩ | exact ⟨h1, by simp only; omega⟩
  · split
    · unfold cancelF; split; exact hnil; split <;> exact hnil
    · unfold amendF; split; exact hnil; split; exact hnil; split; exact hnil; split <;> exact hnil

def stepF (p : Pl) (r : Res) : Pl := ⟨r.2.2.2.1, r.2.2.2.2, p.vol + volF r.2.1, p.val + valF r.2.1⟩
/-- What a command tells of a market, and leaves of it. -/
def applyF (c : C7) (P : Nat → Pl) : Int × List Fl × Int × (Nat → Pl) :=
  if c.ok = false then (1, [], 0, P)
  else if overB ((P c.s.toNat).vol + volF (doesF c (P c.s.toNat).bs (P c.s.toNat).ss).2.1) ((P c.s.toNat).val + valF (doesF c (P c.s.toNat).bs (P c.s.toNat).ss).2.1) then (8, [], 0, P)
  else ((doesF c (P c.s.toNat).bs (P c.s.toNat).ss).1, (doesF c (P c.s.toNat).bs (P c.s.toNat).ss).2.1, (doesF c (P c.s.toNat).bs (P c.s.toNat).ss).2.2.1, upd P c.s.toNat (stepF (P c.s.toNat) (doesF c (P c.s.toNat).bs (P c.s.toNat).ss)))
def Appl (w w' : World) (m : Nat) (e : Ending) (r : Int × List Fl × Int × (Nat → Pl)) : Prop :=
  (∀ i, i < 4 → PlOk (r.2.2.2 i)) ∧ ∃ f q', e = .returned (rpV r.1 f r.2.2.1) ∧ OwnF w' w.heap.size f r.2.1 ∧ Mk w' m q' r.2.2.2 ∧ Tch (fun k => k = m) w w'
theorem ok_sym {c : C7} (h : c.ok = true) : 0 ≤ c.s ∧ c.s ≤ 3 := by
  unfold C7.ok oneB at h
  simp only [Bool.and_eq_true] at h
  exact within_true.1 h.1.2
theorem cRight1 (c : C7) (b cap : Nat) (w : World) (h : w.heap[b]? = some (.cells c.cells.toArray 42 (0, 0))) : Calls Try.prog 18 #[.slice (some ⟨b, 0, none⟩) 1 cap] w fun e w' => e = .returned (.bool c.ok) ∧ Below w.heap.size w w' := by
  have := cRight b 0 cap (some ⟨b, 0, none⟩) [c] (fun _ => rfl) (by simp) w (fun j x hx f v hv => by
    have h0 : j = 0 := by have := (List.getElem?_eq_some_iff.1 hx).1; simp at this; exact this
    subst h0
    simp at hx
    subst hx
    rw [show (0 : Nat) + (0 * 7 + f) = f by omega, cellAt' h, List.getElem?_toArray]
    exact hv) (fun _ => (Array.getElem?_eq_some_iff.1 h).1)
  refine this.mono ?_
  rintro e w' ⟨rfl, hb⟩
  exact ⟨by simp, hb⟩

/-- A block of another type is none of a book's. -/
theorem BkA.offT {w : World} {B q N : Nat} {va vb : Value} {bs ss : List Od} {cs : Array Value} {T : TypeId} (h : BkA w B q va vb bs ss) (hN : w.heap[N]? = some (.cells cs T (0, 0))) (h1 : T ≠ 81) (h2 : T ≠ 52) : ¬ Nb q va vb N := by
  have ty : ∀ {v : Value} {l : List Od}, OwnO w B v l → v.ownBlock ≠ some N := fun {v} {l} h e => by
    rcases h.2 with ⟨rfl, _⟩ | ⟨g, cap, cur, rfl, _, hg, _⟩
    · cases e
    · simp [Value.ownBlock] at e
      subst e
      rw [hg] at hN
      injection hN with h3
      injection h3 with h4 h5
      exact h2 h5.symm
  rintro (e | e | e)
  · have h3 := h.bk
    unfold Bk at h3
    rw [← e, hN] at h3
    injection h3 with h4
    injection h4 with h5 h6
    exact h1 h6
  · exact ty h.ra e
  · exact ty h.rb e
theorem below_set3 {B N : Nat} {w W : World} (h : Below B w W) (hN : B ≤ N) (x y z : Value) : Below B w (((W.setCell ⟨N, 0, none⟩ x).setCell ⟨N, 1, none⟩ y).setCell ⟨N, 2, none⟩ z) := ((h.setCell hN _).setCell hN _).setCell hN _
/-- Apply under way: the command's box, the reply's. -/
structure Ap (w W : World) (c : C7) : Prop where
  be : Below w.heap.size w W
  n0 : W.heap[w.heap.size]? = some (.cells c.cells.toArray 42 (0, 0))
  n1 : W.heap[w.heap.size + 1]? = some box3
theorem Ap.below {w W W' : World} {c : C7} (h : Ap w W c) (hb : Below (w.heap.size + 2) W W') : Ap w W' c :=
  ⟨h.be.trans (hb.mono (by omega)), obOn h.n0 hb (by omega), obOn h.n1 hb (by omega)⟩
theorem Ap.cells {w W : World} {c : C7} (h : Ap w W c) : W.cell? ⟨w.heap.size, 0, none⟩ = some (.int .i64 c.i) ∧ W.cell? ⟨w.heap.size, 1, none⟩ = some (.int .i64 c.k) ∧ W.cell? ⟨w.heap.size, 2, none⟩ = some (.int .i64 c.s) ∧ W.cell? ⟨w.heap.size, 3, none⟩ = some (.int .i64 c.t) ∧ W.cell? ⟨w.heap.size, 4, none⟩ = some (.int .i64 c.d) ∧ W.cell? ⟨w.heap.size, 5, none⟩ = some (.int .i64 c.p) ∧ W.cell? ⟨w.heap.size, 6, none⟩ = some (.int .i64 c.q) := by
  have h0 := h.n0
  refine ⟨?_, ?_, ?_, ?_, ?_, ?_, ?_⟩ <;> (rw [cellAt' h0]; rfl)
theorem Ap.box {w W : World} {c : C7} (h : Ap w W c) : (W.cell? ⟨w.heap.size + 1, 0, none⟩ = some (.int .i64 0) ∧ W.cell? ⟨w.heap.size + 1, 1, none⟩ = some (.slice none 0 0) ∧ W.cell? ⟨w.heap.size + 1, 2, none⟩ = some (.int .i64 0)) ∧ ∀ f, W.frozen? ⟨w.heap.size + 1, f, none⟩ = false := by
  have h0 := h.n1
  exact ⟨⟨by rw [cellAt' h0]; rfl, by rw [cellAt' h0]; rfl, by rw [cellAt' h0]; rfl⟩, fun f => by simp [World.frozen?, h0]⟩
theorem Ap.start {w : World} (c : C7) : Ap w (((w.alloc (.cells c.cells.toArray 42)).alloc box3).alloc (.cells c.cells.toArray 42)) c ∧
    (((w.alloc (.cells c.cells.toArray 42)).alloc box3).alloc (.cells c.cells.toArray 42)).heap[w.heap.size + 2]? = some (.cells c.cells.toArray 42 (0, 0)) ∧ w.heap.size + 2 ≤ (((w.alloc (.cells c.cells.toArray 42)).alloc box3).alloc (.cells c.cells.toArray 42)).heap.size := by
  have e1 : (w.alloc (.cells c.cells.toArray 42)).heap.size = w.heap.size + 1 := by simp
  have e2 : ((w.alloc (.cells c.cells.toArray 42)).alloc box3).heap.size = w.heap.size + 2 := by simp
  refine ⟨⟨(((Below.refl _ w).alloc (Nat.le_refl _) _).alloc (by omega) _).alloc (by omega) _, obAlloc (obAlloc (heap_alloc_new w _)), ?_⟩, ?_, by simp⟩
  · rw [← e1]; exact obAlloc (heap_alloc_new _ _)
  · rw [← e2]; exact heap_alloc_new _ _
/-- Behind a place's copy: its box, its book. -/
structure Ap3 (w W : World) (c : C7) (N q : Nat) (x : Value) (bs ss : List Od) : Prop where
  ap : Ap w W c
  n5 : W.heap[N]? = some (.cells #[ptr q, x] 59 (0, 0))
  h5 : w.heap.size + 2 ≤ N
  bk : ∃ va vb, BkA W (w.heap.size + 2) q va vb bs ss
theorem Ap3.cells {w W : World} {c : C7} {N q : Nat} {x : Value} {bs ss : List Od} (h : Ap3 w W c N q x bs ss) : (W.cell? ⟨N, 0, none⟩ = some (ptr q) ∧ W.cell? ⟨N, 1, none⟩ = some x) ∧ (∀ f, W.frozen? ⟨N, f, none⟩ = false) ∧ N < W.heap.size := by
  have h0 := h.n5
  exact ⟨⟨by rw [cellAt' h0]; rfl, by rw [cellAt' h0]; rfl⟩, fun f => by simp [World.frozen?, h0], (Array.getElem?_eq_some_iff.1 h0).1⟩
theorem set2 {W : World} {N : Nat} {a b : Value} {T : TypeId} (h : W.heap[N]? = some (.cells #[a, b] T (0, 0))) (x y : Value) : ((W.setCell ⟨N, 0, none⟩ x).setCell ⟨N, 1, none⟩ y).heap[N]? = some (.cells #[x, y] T (0, 0)) := by
  simp [World.setCell, Array.getElem?_modify, h]
abbrev zeroP : Obj := .cells #[.pointer none, .complex .f64 0 0] 59 (0, 0)
theorem Ap.before {w w1 w2 : World} {c : C7} {q : Nat} {va vb x : Value} {bs ss : List Od} (h : Ap w w1 c) (hs : w.heap.size + 2 ≤ w1.heap.size) (hB : Below (w1.drew.alloc zeroP).heap.size (w1.drew.alloc zeroP) w2) (hK : BkA w2 (w1.drew.alloc zeroP).heap.size q va vb bs ss) :
    w2.heap[w1.heap.size]? = some zeroP ∧ Ap3 w ((w2.setCell ⟨w1.heap.size, 0, none⟩ (ptr q)).setCell ⟨w1.heap.size, 1, none⟩ x) c w1.heap.size q x bs ss := by
  have e : (w1.drew.alloc zeroP).heap.size = w1.heap.size + 1 := by simp
  have hx : w2.heap[w1.heap.size]? = some zeroP := obOn (heap_alloc_new w1.drew zeroP) hB (by rw [e]; exact Nat.lt_succ_self _)
  have hb : Below (w.heap.size + 2) w1 w2 := ((Below.refl _ w1).drew.alloc hs zeroP).trans (hB.mono (by omega))
  refine ⟨hx, h.below ((hb.setCell hs _).setCell hs _), set2 hx _ _, hs, va, vb, (hK.tch (S := fun k => k = w1.heap.size) ((Tch.set (S := fun k => k = w1.heap.size) _ _ _ rfl).trans (Tch.set (S := fun k => k = w1.heap.size) _ _ _ rfl)) fun k hk e2 => ?_).low (by omega)⟩
  have := (hK.nb k hk).1
  omega
theorem Ap.after {w w1 w2 : World} {c : C7} {q : Nat} {va vb x : Value} {bs ss : List Od} (h : Ap w w1 c) (hs : w.heap.size + 2 ≤ w1.heap.size) (hB : Below w1.drew.heap.size w1.drew w2) (hK : BkA w2 w1.drew.heap.size q va vb bs ss) :
    Ap3 w (w2.alloc (.cells #[ptr q, x] 59)) c w2.heap.size q x bs ss := by
  have e : w1.drew.heap.size = w1.heap.size := rfl
  have hb : Below (w.heap.size + 2) w1 w2 := ((Below.refl _ w1).drew).trans (hB.mono (by omega))
  have h2 : w.heap.size + 2 ≤ w2.heap.size := Nat.le_trans hs hb.size
  exact ⟨h.below (hb.alloc h2 _), heap_alloc_new _ _, h2, va, vb, (hK.on ((Below.refl _ w2).alloc (Nat.le_refl _) _)).low (by omega)⟩

set_option maxHeartbeats 3200000 in
set_option maxRecDepth 100000 in
theorem cApply_bad {w : World} {m : Nat} {q : Nat → Nat} {P : Nat → Pl} (h : Mk w m q P) (hok : ∀ i, i < 4 → PlOk (P i)) (c : C7) (hc : c.ok = false) : Calls Try.prog 8 #[ptr m, cmV c.i c.k c.s c.t c.d c.p c.q] w fun e w' => Appl w w' m e (applyF c P) := by
  have HF : Hid (applyF c P = (1, [], 0, P)) := hid (by unfold applyF; rw [if_pos hc])
  rw [HF.out]
  have HC := hid hc
  have HM := hid h
  clear h hc
  go_enter Try.func8, Try.ntmps8
  go_wp2_with fail
  go_at_call 18
  obtain ⟨W0, hW0⟩ : ∃ W, W = ((w.alloc (.cells c.cells.toArray 42)).alloc box3).alloc (.cells c.cells.toArray 42) := ⟨_, rfl⟩
  have h0 := Ap.start (w := w) c
  rw [← hW0] at h0
  show Calls _ _ _ (((w.alloc (.cells c.cells.toArray 42)).alloc box3).alloc (.cells c.cells.toArray 42)) _
  rw [← hW0]
  refine (cRight1 c _ _ W0 h0.2.1).mono ?_
  rintro e w1 ⟨rfl, hB1⟩
  rw [HC.out]
  have HA1 := hid (h0.1.below (hB1.mono h0.2.2))
  clear h0 hB1 hW0
  go_wp2_with fail
  go_at_call 19
  refine (cMFailed _ _).mono ?_
  rintro e w2 ⟨rfl, hB2⟩
  have hs1 : w.heap.size + 2 ≤ w1.heap.size := (Array.getElem?_eq_some_iff.1 HA1.out.n1).1
  have HA2 := hid (HA1.out.below (hB2.mono hs1))
  obtain ⟨⟨k0, k1, k2⟩, fz⟩ := HA2.out.box
  clear hB2
  go_wp2_with fail
  refine bodyPost_ret (v := rpV 1 (.slice none 0 0) 0) (by simp [results, Try.results8, go_sem, k0, k1, k2]) rfl ?_
  have hB := fun x y z => below_set3 HA2.out.be (N := w.heap.size + 1) (by omega) x y z
  exact ⟨hok, _, q, rfl, World.ownsRow_nil _ _ _ _, HM.out.on (hB _ _ _), Tch.ofBelow (hB _ _ _)⟩
end Go.Proofs.Ytdgllpfccdbdnaa

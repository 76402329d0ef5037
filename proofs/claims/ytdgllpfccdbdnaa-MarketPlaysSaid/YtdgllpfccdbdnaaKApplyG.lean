/- The program's market: Apply, whatever the command; no market. -/
import Derived.Test.YtdgllpfccdbdnaaKDoes
import Derived.Deep.CutRange
/- The program's market: Apply. -/
namespace Go.Proofs.Ytdgllpfccdbdnaa
set_option linter.unusedVariables false
set_option linter.unusedSimpArgs false
open Go.RowKit
open Go.Lib (hid)

theorem fill_ok {s p t : Int} : ∀ (l : List Od) (left : Int), 0 ≤ left → left ≤ 1048576 → AllO t l → FlOk (fillG s p left l).1
  | [], left, h, _, _ => by simp [fillG, FlOk]
  | x :: xs, left, h, h2, hx => by
    have h1 := hx x (by simp)
    unfold okO at h1
    unfold fillG
    split
    · intro f hf; simp at hf
    · rename_i hc
      have hl : left ≠ 0 := fun e => hc (.inl e)
      intro f hf
      rcases List.mem_cons.1 hf with rfl | hf
      · simp only; omega
      · exact fill_ok xs (left - min left x.n) (by omega) (by omega) (fun y hy => hx y (by simp [hy])) f hf
/-- The fills of an act may be. -/
theorem does_ok (c : C7) {bs ss : List Od} (hF : FineB bs ss) : FlOk (doesF c bs ss).2.1 ∧ (doesF c bs ss).2.1.length ≤ 8 := by
  have hnil : FlOk [] ∧ ([] : List Fl).length ≤ 8 := ⟨fun f hf => by simp at hf, by simp⟩
  have hlen := hF.len
  unfold doesF
  split
  · unfold placeF
    split
    · exact hnil
    · rename_i hc
      have he : refE bs ss ⟨c.i, c.d, c.p, c.q⟩ = 0 := by omega
      have hmay : mayB ⟨c.i, c.d, c.p, c.q⟩ = true := by
        unfold refE at he
        split at he
        · cases he
        · split at he
          · cases he
          · rename_i hh; simpa using hh
      have hm2 := may_iff.1 hmay
      simp only at hm2
      have h0 := fill_ok (s := 0) (p := c.p) ss c.q (by omega) (by omega) hF.fs
      have h1 := fill_ok (s := 1) (p := c.p) bs c.q (by omega) (by omega) hF.fb
      have l0 := (fillG_left (s := 0) (p := c.p) ss c.q (by omega) fun x hx => by have := hF.fs x hx; unfold okO at this; omega).2.2.1
      have l1 := (fillG_left (s := 1) (p := c.p) bs c.q (by omega) fun x hx => by have := hF.fb x hx; unfold okO at this; omega).2.2.1
      split <;> split <;> (try split) <;> first | exact hnil | exact ⟨h0, by simp only; omega⟩ | exact ⟨h1, by simp only; omega⟩
  · split
    · unfold cancelF; split; exact hnil; split <;> exact hnil
    · unfold amendF; split; exact hnil; split; exact hnil; split; exact hnil; split <;> exact hnil

def stepF (p : Pl) (r : Res) : Pl := ⟨r.2.2.2.1, r.2.2.2.2, p.vol + volF r.2.1, p.val + valF r.2.1⟩
/-- What a command tells of a market, and leaves of it. -/
def applyF (c : C7) (P : Nat → Pl) : Int × List Fl × Int × (Nat → Pl) :=
  if c.ok = false then (1, [], 0, P)
  else if overB ((P c.s.toNat).vol + volF (doesF c (P c.s.toNat).bs (P c.s.toNat).ss).2.1) ((P c.s.toNat).val + valF (doesF c (P c.s.toNat).bs (P c.s.toNat).ss).2.1) then (8, [], 0, P)
  else ((doesF c (P c.s.toNat).bs (P c.s.toNat).ss).1, (doesF c (P c.s.toNat).bs (P c.s.toNat).ss).2.1, (doesF c (P c.s.toNat).bs (P c.s.toNat).ss).2.2.1, upd P c.s.toNat (stepF (P c.s.toNat) (doesF c (P c.s.toNat).bs (P c.s.toNat).ss)))
def Appl (w w' : World) (m : Nat) (e : Ending) (r : Int × List Fl × Int × (Nat → Pl)) : Prop :=
  (∀ i, i < 4 → PlOk (r.2.2.2 i)) ∧ ∃ f q', e = .returned (rpV r.1 f r.2.2.1) ∧ OwnF w' w.heap.size f r.2.1 ∧ Mk w' m q' r.2.2.2 ∧ Tch (fun k => k = m) w w'
theorem ok_sym {c : C7} (h : c.ok = true) : 0 ≤ c.s ∧ c.s ≤ 3 := by
  unfold C7.ok oneB at h
  simp only [Bool.and_eq_true] at h
  exact within_true.1 h.1.2
theorem cRight1 (c : C7) (b cap : Nat) (w : World) (h : w.heap[b]? = some (.cells c.cells.toArray 42 (0, 0))) : Calls Try.prog 18 #[.slice (some ⟨b, 0, none⟩) 1 cap] w fun e w' => e = .returned (.bool c.ok) ∧ Below w.heap.size w w' := by
  have := cRight b 0 cap (some ⟨b, 0, none⟩) [c] (fun _ => rfl) (by simp) w (fun j x hx f v hv => by
    have h0 : j = 0 := by have := (List.getElem?_eq_some_iff.1 hx).1; simp at this; exact this
    subst h0
    simp at hx
    subst hx
    rw [show (0 : Nat) + (0 * 7 + f) = f by omega, cellAt' h, List.getElem?_toArray]
    exact hv) (fun _ => (Array.getElem?_eq_some_iff.1 h).1)
  refine this.mono ?_
  rintro e w' ⟨rfl, hb⟩
  exact ⟨by simp, hb⟩

/-- A block of another type is none of a book's. -/
theorem BkA.offT {w : World} {B q N : Nat} {va vb : Value} {bs ss : List Od} {cs : Array Value} {T : TypeId} (h : BkA w B q va vb bs ss) (hN : w.heap[N]? = some (.cells cs T (0, 0))) (h1 : T ≠ 81) (h2 : T ≠ 52) : ¬ Nb q va vb N := by
  have ty : ∀ {v : Value} {l : List Od}, OwnO w B v l → v.ownBlock ≠ some N := fun {v} {l} h e => by
    rcases h.2 with ⟨rfl, _⟩ | ⟨g, cap, cur, rfl, _, hg, _⟩
    · cases e
    · simp [Value.ownBlock] at e
      subst e
      rw [hg] at hN
      injection hN with h3
      injection h3 with h4 h5
      exact h2 h5.symm
  rintro (e | e | e)
  · have h3 := h.bk
    unfold Bk at h3
    rw [← e, hN] at h3
    injection h3 with h4
    injection h4 with h5 h6
    exact h1 h6
  · exact ty h.ra e
  · exact ty h.rb e
theorem below_set3 {B N : Nat} {w W : World} (h : Below B w W) (hN : B ≤ N) (x y z : Value) : Below B w (((W.setCell ⟨N, 0, none⟩ x).setCell ⟨N, 1, none⟩ y).setCell ⟨N, 2, none⟩ z) := ((h.setCell hN _).setCell hN _).setCell hN _
/-- Apply under way: the command's box, the reply's. -/
structure Ap (w W : World) (c : C7) : Prop where
  be : Below w.heap.size w W
  n0 : W.heap[w.heap.size]? = some (.cells c.cells.toArray 42 (0, 0))
  n1 : W.heap[w.heap.size + 1]? = some box3
theorem Ap.below {w W W' : World} {c : C7} (h : Ap w W c) (hb : Below (w.heap.size + 2) W W') : Ap w W' c :=
  ⟨h.be.trans (hb.mono (by omega)), obOn h.n0 hb (by omega), obOn h.n1 hb (by omega)⟩
theorem Ap.cells {w W : World} {c : C7} (h : Ap w W c) : W.cell? ⟨w.heap.size, 0, none⟩ = some (.int .i64 c.i) ∧ W.cell? ⟨w.heap.size, 1, none⟩ = some (.int .i64 c.k) ∧ W.cell? ⟨w.heap.size, 2, none⟩ = some (.int .i64 c.s) ∧ W.cell? ⟨w.heap.size, 3, none⟩ = some (.int .i64 c.t) ∧ W.cell? ⟨w.heap.size, 4, none⟩ = some (.int .i64 c.d) ∧ W.cell? ⟨w.heap.size, 5, none⟩ = some (.int .i64 c.p) ∧ W.cell? ⟨w.heap.size, 6, none⟩ = some (.int .i64 c.q) := by
  have h0 := h.n0
  refine ⟨?_, ?_, ?_, ?_, ?_, ?_, ?_⟩ <;> (rw [cellAt' h0]; rfl)
theorem Ap.box {w W : World} {c : C7} (h : Ap w W c) : (W.cell? ⟨w.heap.size + 1, 0, none⟩ = some (.int .i64 0) ∧ W.cell? ⟨w.heap.size + 1, 1, none⟩ = some (.slice none 0 0) ∧ W.cell? ⟨w.heap.size + 1, 2, none⟩ = some (.int .i64 0)) ∧ ∀ f, W.frozen? ⟨w.heap.size + 1, f, none⟩ = false := by
  have h0 := h.n1
  exact ⟨⟨by rw [cellAt' h0]; rfl, by rw [cellAt' h0]; rfl, by rw [cellAt' h0]; rfl⟩, fun f => by simp [World.frozen?, h0]⟩
theorem Ap.start {w : World} (c : C7) : Ap w (((w.alloc (.cells c.cells.toArray 42)).alloc box3).alloc (.cells c.cells.toArray 42)) c ∧
    (((w.alloc (.cells c.cells.toArray 42)).alloc box3).alloc (.cells c.cells.toArray 42)).heap[w.heap.size + 2]? = some (.cells c.cells.toArray 42 (0, 0)) ∧ w.heap.size + 2 ≤ (((w.alloc (.cells c.cells.toArray 42)).alloc box3).alloc (.cells c.cells.toArray 42)).heap.size := by
  have e1 : (w.alloc (.cells c.cells.toArray 42)).heap.size = w.heap.size + 1 := by simp
  have e2 : ((w.alloc (.cells c.cells.toArray 42)).alloc box3).heap.size = w.heap.size + 2 := by simp
  refine ⟨⟨(((Below.refl _ w).alloc (Nat.le_refl _) _).alloc (by omega) _).alloc (by omega) _, obAlloc (obAlloc (heap_alloc_new w _)), ?_⟩, ?_, by simp⟩
  · rw [← e1]; exact obAlloc (heap_alloc_new _ _)
  · rw [← e2]; exact heap_alloc_new _ _
/-- Behind a place's copy: its box, its book. -/
structure Ap3 (w W : World) (c : C7) (N q : Nat) (x : Value) (bs ss : List Od) : Prop where
  ap : Ap w W c
  n5 : W.heap[N]? = some (.cells #[ptr q, x] 59 (0, 0))
  h5 : w.heap.size + 2 ≤ N
  bk : ∃ va vb, BkA W (w.heap.size + 2) q va vb bs ss
theorem Ap3.cells {w W : World} {c : C7} {N q : Nat} {x : Value} {bs ss : List Od} (h : Ap3 w W c N q x bs ss) : (W.cell? ⟨N, 0, none⟩ = some (ptr q) ∧ W.cell? ⟨N, 1, none⟩ = some x) ∧ (∀ f, W.frozen? ⟨N, f, none⟩ = false) ∧ N < W.heap.size := by
  have h0 := h.n5
  exact ⟨⟨by rw [cellAt' h0]; rfl, by rw [cellAt' h0]; rfl⟩, fun f => by simp [World.frozen?, h0], (Array.getElem?_eq_some_iff.1 h0).1⟩
theorem set2 {W : World} {N : Nat} {a b : Value} {T : TypeId} (h : W.heap[N]? = some (.cells #[a, b] T (0, 0))) (x y : Value) : ((W.setCell ⟨N, 0, none⟩ x).setCell ⟨N, 1, none⟩ y).heap[N]? = some (.cells #[x, y] T (0, 0)) := by
  simp [World.setCell, Array.getElem?_modify, h]
abbrev zeroP : Obj := .cells #[.pointer none, .complex .f64 0 0] 59 (0, 0)
theorem Ap.before {w w1 w2 : World} {c : C7} {q : Nat} {va vb x : Value} {bs ss : List Od} (h : Ap w w1 c) (hs : w.heap.size + 2 ≤ w1.heap.size) (hB : Below (w1.drew.alloc zeroP).heap.size (w1.drew.alloc zeroP) w2) (hK : BkA w2 (w1.drew.alloc zeroP).heap.size q va vb bs ss) :
    w2.heap[w1.heap.size]? = some zeroP ∧ Ap3 w ((w2.setCell ⟨w1.heap.size, 0, none⟩ (ptr q)).setCell ⟨w1.heap.size, 1, none⟩ x) c w1.heap.size q x bs ss := by
  have e : (w1.drew.alloc zeroP).heap.size = w1.heap.size + 1 := by simp
  have hx : w2.heap[w1.heap.size]? = some zeroP := obOn (heap_alloc_new w1.drew zeroP) hB (by rw [e]; exact Nat.lt_succ_self _)
  have hb : Below (w.heap.size + 2) w1 w2 := ((Below.refl _ w1).drew.alloc hs zeroP).trans (hB.mono (by omega))
  refine ⟨hx, h.below ((hb.setCell hs _).setCell hs _), set2 hx _ _, hs, va, vb, (hK.tch (S := fun k => k = w1.heap.size) ((Tch.set (S := fun k => k = w1.heap.size) _ _ _ rfl).trans (Tch.set (S := fun k => k = w1.heap.size) _ _ _ rfl)) fun k hk e2 => ?_).low (by omega)⟩
  have := (hK.nb k hk).1
  omega
theorem Ap.after {w w1 w2 : World} {c : C7} {q : Nat} {va vb x : Value} {bs ss : List Od} (h : Ap w w1 c) (hs : w.heap.size + 2 ≤ w1.heap.size) (hB : Below w1.drew.heap.size w1.drew w2) (hK : BkA w2 w1.drew.heap.size q va vb bs ss) :
    Ap3 w (w2.alloc (.cells #[ptr q, x] 59)) c w2.heap.size q x bs ss := by
  have e : w1.drew.heap.size = w1.heap.size := rfl
  have hb : Below (w.heap.size + 2) w1 w2 := ((Below.refl _ w1).drew).trans (hB.mono (by omega))
  have h2 : w.heap.size + 2 ≤ w2.heap.size := Nat.le_trans hs hb.size
  exact ⟨h.below (hb.alloc h2 _), heap_alloc_new _ _, h2, va, vb, (hK.on ((Below.refl _ w2).alloc (Nat.le_refl _) _)).low (by omega)⟩

set_option maxHeartbeats 3200000 in
set_option maxRecDepth 100000 in
theorem cApply_bad {w : World} {m : Nat} {q : Nat → Nat} {P : Nat → Pl} (h : Mk w m q P) (hok : ∀ i, i < 4 → PlOk (P i)) (c : C7) (hc : c.ok = false) : Calls Try.prog 8 #[ptr m, cmV c.i c.k c.s c.t c.d c.p c.q] w fun e w' => Appl w w' m e (applyF c P) := by
  have HF : Hid (applyF c P = (1, [], 0, P)) := hid (by unfold applyF; rw [if_pos hc])
  rw [HF.out]
  have HC := hid hc
  have HM := hid h
  clear h hc
  go_enter Try.func8, Try.ntmps8
  go_wp2_with fail
  go_at_call 18
  obtain ⟨W0, hW0⟩ : ∃ W, W = ((w.alloc (.cells c.cells.toArray 42)).alloc box3).alloc (.cells c.cells.toArray 42) := ⟨_, rfl⟩
  have h0 := Ap.start (w := w) c
  rw [← hW0] at h0
  show Calls _ _ _ (((w.alloc (.cells c.cells.toArray 42)).alloc box3).alloc (.cells c.cells.toArray 42)) _
  rw [← hW0]
  refine (cRight1 c _ _ W0 h0.2.1).mono ?_
  rintro e w1 ⟨rfl, hB1⟩
  rw [HC.out]
  have HA1 := hid (h0.1.below (hB1.mono h0.2.2))
  clear h0 hB1 hW0
  go_wp2_with fail
  go_at_call 19
  refine (cMFailed _ _).mono ?_
  rintro e w2 ⟨rfl, hB2⟩
  have hs1 : w.heap.size + 2 ≤ w1.heap.size := (Array.getElem?_eq_some_iff.1 HA1.out.n1).1
  have HA2 := hid (HA1.out.below (hB2.mono hs1))
  obtain ⟨⟨k0, k1, k2⟩, fz⟩ := HA2.out.box
  clear hB2
  go_wp2_with fail
  refine bodyPost_ret (v := rpV 1 (.slice none 0 0) 0) (by simp [results, Try.results8, go_sem, k0, k1, k2]) rfl ?_
  have hB := fun x y z => below_set3 HA2.out.be (N := w.heap.size + 1) (by omega) x y z
  exact ⟨hok, _, q, rfl, World.ownsRow_nil _ _ _ _, HM.out.on (hB _ _ _), Tch.ofBelow (hB _ _ _)⟩
end Go.Proofs.Ytdgllpfccdbdnaa
/- The program's market: Apply, its boxes on the way. -/
namespace Go.Proofs.Ytdgllpfccdbdnaa
set_option linter.unusedVariables false
set_option linter.unusedSimpArgs false
open Go.RowKit
open Go.Lib (hid)

/-- Behind what the book did: the reply's box. -/
structure Ap5 (w W : World) (c : C7) (N N6 q : Nat) (x : Value) (err : Int) (f : Value) (left : Int) (bs ss : List Od) (fs : List Fl) : Prop where
  ap3 : Ap3 w W c N q x bs ss
  n6 : W.heap[N6]? = some (.cells #[.int .i64 err, f, .int .i64 left] 37 (0, 0))
  h6 : w.heap.size + 2 ≤ N6
  fl : OwnF W (w.heap.size + 2) f fs
theorem Ap5.rep {w W : World} {c : C7} {N N6 q : Nat} {x f : Value} {err left : Int} {bs ss : List Od} {fs : List Fl} (h : Ap5 w W c N N6 q x err f left bs ss fs) :
    W.cell? ⟨N6, 0, none⟩ = some (.int .i64 err) ∧ W.cell? ⟨N6, 1, none⟩ = some f ∧ W.cell? ⟨N6, 2, none⟩ = some (.int .i64 left) := by
  have h0 := h.n6
  exact ⟨by rw [cellAt' h0]; rfl, by rw [cellAt' h0]; rfl, by rw [cellAt' h0]; rfl⟩
theorem Ap3.on {w W W' : World} {c : C7} {N q : Nat} {x : Value} {bs ss : List Od} (h : Ap3 w W c N q x bs ss) (hb : Below W.heap.size W W') : Ap3 w W' c N q x bs ss := by
  obtain ⟨va, vb, hK⟩ := h.bk
  exact ⟨h.ap.below (hb.mono (Nat.le_of_lt (Nat.lt_of_le_of_lt h.h5 h.cells.2.2))), obOn h.n5 hb h.cells.2.2, h.h5, va, vb, hK.on hb⟩
theorem Ap3.does {w W w4 : World} {c : C7} {N q : Nat} {x va vb : Value} {bs ss bs' ss' : List Od} {e : Ending} {err left : Int} {fs : List Fl} (h : Ap3 w W c N q x bs ss) (hK : BkA W (w.heap.size + 2) q va vb bs ss)
    (hT : Told W w4 (w.heap.size + 2) q va vb e err fs left bs' ss') : ∃ fa fn fc, e = .returned (rpV err (.slice fa fn fc) left) ∧
      Ap5 w (w4.alloc (.cells #[.int .i64 err, .slice fa fn fc, .int .i64 left] 37)) c N w4.heap.size q x err (.slice fa fn fc) left bs' ss' fs := by
  obtain ⟨f, rfl, hf, va', vb', hK', ht, _, _⟩ := hT
  obtain ⟨fa, fc, fn, rfl, _⟩ := hf.asSlice
  have hsz : w.heap.size + 2 ≤ W.heap.size := by have := h.h5; have := h.cells.2.2; omega
  have hb : Below (w.heap.size + 2) W w4 := ht.below (fun k hk => (hK.nb k hk).1) hsz
  have hal : Below w4.heap.size w4 (w4.alloc (.cells #[.int .i64 err, .slice fa fn fc, .int .i64 left] 37)) := (Below.refl _ w4).alloc (Nat.le_refl _) _
  have hn5 : w4.heap[N]? = some (.cells #[ptr q, x] 59 (0, 0)) := ht.ob h.n5 (hK.offT h.n5 (by decide) (by decide))
  have h4 : Ap3 w w4 c N q x bs' ss' := ⟨h.ap.below hb, hn5, h.h5, va', vb', hK'⟩
  exact ⟨fa, fn, fc, rfl, h4.on hal, heap_alloc_new w4 _, Nat.le_trans hsz hb.size, (hf.on hal).mono hsz⟩
theorem Ap5.below {w W W' : World} {c : C7} {N N6 q : Nat} {x f : Value} {err left : Int} {bs ss : List Od} {fs : List Fl} (h : Ap5 w W c N N6 q x err f left bs ss fs) (hb : Below W.heap.size W W') : Ap5 w W' c N N6 q x err f left bs ss fs :=
  ⟨h.ap3.on hb, obOn h.n6 hb (Array.getElem?_eq_some_iff.1 h.n6).1, h.h6, h.fl.on hb⟩
theorem Ap5.turned {w W W' : World} {c : C7} {N N6 q : Nat} {x f : Value} {err left : Int} {bs ss : List Od} {fs : List Fl} (h : Ap5 w W c N N6 q x err f left bs ss fs) (hb : Below W.drew.heap.size W.drew W') : Ap5 w W' c N N6 q x err f left bs ss fs :=
  h.below (undrew hb)
theorem set_1 {W : World} {N : Nat} {a b : Value} {T : TypeId} (h : W.heap[N]? = some (.cells #[a, b] T (0, 0))) (y : Value) : (W.setCell ⟨N, 1, none⟩ y).heap[N]? = some (.cells #[a, y] T (0, 0)) := by
  simp [World.setCell, Array.getElem?_modify, h]
/-- A block of another type is none of fills'. -/
theorem OwnF.offT {w : World} {B N : Nat} {v : Value} {fs : List Fl} {cs : Array Value} {T : TypeId} (h : OwnF w B v fs) (hN : w.heap[N]? = some (.cells cs T (0, 0))) (h2 : T ≠ 55) : v.ownBlock ≠ some N := by
  intro e
  rcases h.2 with ⟨rfl, _⟩ | ⟨g, cap, cur, rfl, _, hg, _⟩
  · cases e
  · simp [Value.ownBlock] at e
    subst e
    rw [hg] at hN
    injection hN with h3
    injection h3 with h4 h5
    exact h2 h5.symm
theorem ob_ne {W : World} {N M : Nat} {cs ds : Array Value} {T U : TypeId} (h : W.heap[N]? = some (.cells cs T (0, 0))) (k : W.heap[M]? = some (.cells ds U (0, 0))) (hT : T ≠ U) : N ≠ M := by
  rintro rfl
  rw [h] at k
  injection k with h3
  injection h3 with h4 h5
  exact hT h5
/-- The place's box, turned. -/
theorem Ap5.put {w W : World} {c : C7} {N N6 q : Nat} {x f : Value} {err left : Int} {bs ss : List Od} {fs : List Fl} (h : Ap5 w W c N N6 q x err f left bs ss fs) (y : Value) : Ap5 w (W.setCell ⟨N, 1, none⟩ y) c N N6 q y err f left bs ss fs := by
  obtain ⟨va, vb, hK⟩ := h.ap3.bk
  have ht : Tch (fun k => k = N) W (W.setCell ⟨N, 1, none⟩ y) := Tch.set _ _ _ rfl
  refine ⟨⟨h.ap3.ap.below ((Below.refl _ W).setCell h.ap3.h5 _), set_1 h.ap3.n5 y, h.ap3.h5, va, vb, hK.tch ht fun k hk e => ?_⟩, ht.ob h.n6 (ob_ne h.n6 h.ap3.n5 (by decide)), h.h6, OwnG.tch h.fl ht fun k hk e => ?_⟩
  · subst e; exact hK.offT h.ap3.n5 (by decide) (by decide) hk
  · subst e; exact OwnF.offT h.fl h.ap3.n5 (by decide) hk
/-- The market has the place: what is told, and left. -/
theorem Ap5.fin {w W : World} {c : C7} {N N6 q' m S : Nat} {q : Nat → Nat} {P : Nat → Pl} {x f : Value} {err left : Int} {bs ss : List Od} {fs : List Fl} (h : Ap5 w W c N N6 q' x err f left bs ss fs) (hM : Mk w m q P) (hS : S < 4) (p : Pl) (hb : p.bs = bs) (hs : p.ss = ss) (W1 : World)
    (hW : W1 = (W.drew.setCell ⟨m, 2 * S, none⟩ (ptr q')).setCell ⟨m, 2 * S + 1, none⟩ (cx p)) :
    ((W1.cell? ⟨w.heap.size + 1, 0, none⟩ = some (.int .i64 0) ∧ W1.cell? ⟨w.heap.size + 1, 1, none⟩ = some (.slice none 0 0) ∧ W1.cell? ⟨w.heap.size + 1, 2, none⟩ = some (.int .i64 0)) ∧ ∀ f, W1.frozen? ⟨w.heap.size + 1, f, none⟩ = false) ∧
    (W1.cell? ⟨N6, 0, none⟩ = some (.int .i64 err) ∧ W1.cell? ⟨N6, 1, none⟩ = some f ∧ W1.cell? ⟨N6, 2, none⟩ = some (.int .i64 left)) ∧
    ∀ x y z, OwnF (((W1.setCell ⟨w.heap.size + 1, 0, none⟩ x).setCell ⟨w.heap.size + 1, 1, none⟩ y).setCell ⟨w.heap.size + 1, 2, none⟩ z) w.heap.size f fs ∧
      Mk (((W1.setCell ⟨w.heap.size + 1, 0, none⟩ x).setCell ⟨w.heap.size + 1, 1, none⟩ y).setCell ⟨w.heap.size + 1, 2, none⟩ z) m (upd q S q') (upd P S p) ∧
      Tch (fun k => k = m) w (((W1.setCell ⟨w.heap.size + 1, 0, none⟩ x).setCell ⟨w.heap.size + 1, 1, none⟩ y).setCell ⟨w.heap.size + 1, 2, none⟩ z) := by
  have hm : m < w.heap.size := (Array.getElem?_eq_some_iff.1 hM.ob).1
  have hMW := hM.on h.ap3.ap.be
  have ht : Tch (fun k => k = m) W W1 := by rw [hW]; exact ((Tch.refl _ W).drew.trans (Tch.set (S := fun k => k = m) _ _ _ rfl)).trans (Tch.set (S := fun k => k = m) _ _ _ rfl)
  obtain ⟨va, vb, hK⟩ := h.ap3.bk
  have hmo : W.heap[m]? = some (MkO fun i => (ptr (q i), cx (P i))) := hMW.ob
  have n1 : W1.heap[w.heap.size + 1]? = some box3 := ht.ob h.ap3.ap.n1 (by omega)
  have n6 : W1.heap[N6]? = some (.cells #[.int .i64 err, f, .int .i64 left] 37 (0, 0)) := ht.ob h.n6 (by have := h.h6; omega)
  have fl : OwnF W1 (w.heap.size + 2) f fs := OwnG.tch h.fl ht fun k hk e => by have := (h.fl.lt k hk).1; omega
  have ob1 : W1.heap[m]? = some (MkO (upd (fun i => (ptr (q i), cx (P i))) S (ptr q', cx p))) := by rw [hW]; exact MkO.set (w := W.drew) hmo hS _ _
  have hq : ∀ i, i < 4 → BkQ W1 (upd q S q' i) (upd P S p i) := fun i hi => by
    by_cases e : i = S
    · subst e; rw [upd_at, upd_at]
      exact BkQ.tch ⟨va, vb, by rw [hb, hs]; exact hK.low (Nat.zero_le _)⟩ hmo ht
    · rw [upd_off _ _ e, upd_off _ _ e]; exact (hMW.at' i hi).tch hmo ht
  have hup : (fun i => (ptr (upd q S q' i), cx (upd P S p i))) = upd (fun i => (ptr (q i), cx (P i))) S (ptr q', cx p) := by
    funext i; unfold upd; split <;> rfl
  refine ⟨⟨⟨by rw [cellAt' n1]; rfl, by rw [cellAt' n1]; rfl, by rw [cellAt' n1]; rfl⟩, fun f => by simp [World.frozen?, n1]⟩, ⟨by rw [cellAt' n6]; rfl, by rw [cellAt' n6]; rfl, by rw [cellAt' n6]; rfl⟩, fun x y z => ?_⟩
  have ht2 : Tch (fun k => k = w.heap.size + 1) W1 (((W1.setCell ⟨w.heap.size + 1, 0, none⟩ x).setCell ⟨w.heap.size + 1, 1, none⟩ y).setCell ⟨w.heap.size + 1, 2, none⟩ z) :=
    ((Tch.set (S := fun k => k = w.heap.size + 1) _ _ _ rfl).trans (Tch.set (S := fun k => k = w.heap.size + 1) _ _ _ rfl)).trans (Tch.set (S := fun k => k = w.heap.size + 1) _ _ _ rfl)
  refine ⟨(OwnG.tch fl ht2 fun k hk e => by have := (fl.lt k hk).1; omega).mono (by omega), ⟨by rw [hup]; exact ht2.ob ob1 (by omega), fun i hi => ?_⟩, ((Tch.ofBelow h.ap3.ap.be).trans ht).next ht2 fun k hk => .inr (by omega)⟩
  obtain ⟨ua, ub, hb⟩ := hq i hi
  exact ⟨ua, ub, hb.tch ht2 fun k hk e => by subst e; exact hb.offT n1 (by decide) (by decide) hk⟩
theorem ok_upd {P : Nat → Pl} {S : Nat} {err left : Int} {fs : List Fl} {bs ss : List Od} (h : ∀ i, i < 4 → PlOk (P i)) (hF : FineB bs ss) (ho : overB ((P S).vol + volF fs) ((P S).val + valF fs) = false) (i : Nat) (hi : i < 4) : PlOk (upd P S (stepF (P S) (err, fs, left, bs, ss)) i) := by
  by_cases e : i = S
  · subst e; rw [upd_at]
    unfold overB at ho
    have := of_decide_eq_false ho
    exact ⟨hF, by simp only [stepF]; omega, by simp only [stepF]; omega⟩
  · rw [upd_off _ _ e]; exact h i hi

end Go.Proofs.Ytdgllpfccdbdnaa
/- The program's market: Apply of a command that may be. -/
namespace Go.Proofs.Ytdgllpfccdbdnaa
set_option linter.unusedVariables false
set_option linter.unusedSimpArgs false
open Go.RowKit
open Go.Lib (hid)

set_option maxHeartbeats 6400000 in
set_option maxRecDepth 100000 in
theorem cApply0 {w : World} {m : Nat} {q : Nat → Nat} {P : Nat → Pl} (h : Mk w m q P) (hok : ∀ i, i < 4 → PlOk (P i)) (ci ck ct cd cp cq : Int) (hc : C7.ok ⟨ci, ck, 0, ct, cd, cp, cq⟩ = true) : Calls Try.prog 8 #[ptr m, cmV ci ck 0 ct cd cp cq] w fun e w' => Appl w w' m e (applyF ⟨ci, ck, 0, ct, cd, cp, cq⟩ P) := by
  obtain ⟨R, hR⟩ : ∃ R, R = doesF ⟨ci, ck, 0, ct, cd, cp, cq⟩ (P 0).bs (P 0).ss := ⟨_, rfl⟩
  have HF : Hid (applyF ⟨ci, ck, 0, ct, cd, cp, cq⟩ P = if overB ((P 0).vol + volF R.2.1) ((P 0).val + valF R.2.1) then (8, [], 0, P) else (R.1, R.2.1, R.2.2.1, upd P 0 (stepF (P 0) R))) := hid (by unfold applyF; rw [if_neg (by rw [hc]; decide), hR]; rfl)
  have hfl := does_ok ⟨ci, ck, 0, ct, cd, cp, cq⟩ (hok 0 (by omega)).1
  rw [← hR] at hfl
  have hvb := vol_bound hfl.1
  have hP1 := (hok 0 (by omega)).2.1
  have hP2 := (hok 0 (by omega)).2.2
  obtain ⟨vf, hvf⟩ : ∃ vf, vf = volF R.2.1 := ⟨_, rfl⟩
  obtain ⟨vl, hvl⟩ : ∃ vl, vl = valF R.2.1 := ⟨_, rfl⟩
  rw [← hvf, ← hvl] at HF hvb
  have hl8 := hfl.2
  have hadd := run_cadd (a := (P 0).vol) (b := (P 0).val) (c := vf) (d := vl) (by omega) (by omega)
  have HOV := hid (fun q' w => cOver q' ((P 0).vol + vf) ((P 0).val + vl) (by omega) (by omega) w)
  have HT : Hid (∀ (W : World) (C : Nat) (v : Value), OwnF W C v R.2.1 → Calls Try.prog 21 #[v] W fun e w' => e = .returned (cxV vf vl) ∧ Below W.heap.size W w') := hid fun W C v hv => by rw [hvf, hvl]; exact cTurns hv hfl.2 hfl.1
  have HC : Hid (∀ W, Below w.heap.size w W → Calls Try.prog 17 #[plV (q 0) (P 0)] W fun e w' => ∃ q', e = .returned (plV q' (P 0)) ∧ (∃ va vb, BkA w' W.heap.size q' va vb (P 0).bs (P 0).ss) ∧ Below W.heap.size W w') := hid fun W hW => cCopied ((h.at' 0 (by omega)).on hW) (hok 0 (by omega)).1
  have HM := hid h
  have HOK := hid hok
  have HRR := hid hR
  have HCC := hid hc
  have HVF := hid (And.intro hvf hvl)
  have hst := stX
  clear h hok hc hR hfl hvb hP1 hP2 hvf hvl hl8
  go_enter Try.func8, Try.ntmps8
  go_wp2_with fail
  go_at_call 18
  obtain ⟨W0, hW0⟩ : ∃ W, W = ((w.alloc (.cells #[.int .i64 ci, .int .i64 ck, .int .i64 0, .int .i64 ct, .int .i64 cd, .int .i64 cp, .int .i64 cq] 42)).alloc box3).alloc (.cells #[.int .i64 ci, .int .i64 ck, .int .i64 0, .int .i64 ct, .int .i64 cd, .int .i64 cp, .int .i64 cq] 42) := ⟨_, rfl⟩
  rw [← hW0]
  have h0 := Ap.start (w := w) ⟨ci, ck, 0, ct, cd, cp, cq⟩
  simp only [C7.cells] at h0
  rw [← hW0] at h0
  refine (cRight1 ⟨ci, ck, 0, ct, cd, cp, cq⟩ _ _ W0 h0.2.1).mono ?_
  rintro e w1 ⟨rfl, hB1⟩
  rw [HCC.out]
  have HA1 := hid (h0.1.below (hB1.mono h0.2.2))
  have hS1 : w.heap.size + 2 ≤ w1.heap.size := Nat.le_trans h0.2.2 hB1.size
  clear h0 hB1 hW0
  obtain ⟨i0, i1, i2, i3, i4, i5, i6⟩ := HA1.out.cells
  simp only at i0 i1 i2 i3 i4 i5 i6
  have hM1 := HM.out.on HA1.out.be
  obtain ⟨hm1, ⟨g0, g1, g2, g3, g4, g5, g6, g7⟩, _⟩ := MkO.cells hM1.ob
  simp only at g0 g1 g2 g3 g4 g5 g6 g7
  clear hM1
  have i2a := Lib.cell?_alloc_some (.cells #[.pointer none, .complex .f64 0 0] 59) i2
  have gaa := Lib.cell?_alloc_some (.cells #[.pointer none, .complex .f64 0 0] 59) g0
  have gba := Lib.cell?_alloc_some (.cells #[.pointer none, .complex .f64 0 0] 59) g1
  go_upto_region 3 with fail
  go_cut [5] from 16 to 23 (fun s5 wx => ∃ N q', s5 = .pointer (some ⟨N, 0, none⟩) ∧ Hid (Ap3 w wx ⟨ci, ck, 0, ct, cd, cp, cq⟩ N q' (cx (P 0)) (P 0).bs (P 0).ss))
  case first =>
    go_region_law (first
      | (go_simp; go_at_call 17; (
          refine (HC.out (w1.drew.alloc (.cells #[.pointer none, .complex .f64 0 0] 59)) (HA1.out.be.drew.alloc HA1.out.be.size _)).mono ?_
          rintro e w2 ⟨q', rfl, ⟨va, vb, hK⟩, hB⟩
          have hx := Ap.before (x := cx (P 0)) HA1.out hS1 hB hK
          have HX := hid hx.2
          have y0 := cellAt' hx.1 0
          have y1 := cellAt' hx.1 1
          have fz : ∀ f, w2.frozen? ⟨w1.heap.size, f, none⟩ = false := fun f => by have h3 := hx.1; simp [World.frozen?, h3]
          simp at y0 y1
          clear hx hK hB))
      | (go_simp; go_at_call 17; (
          refine (HC.out w1.drew HA1.out.be.drew).mono ?_
          rintro e w2 ⟨q', rfl, ⟨va, vb, hK⟩, hB⟩
          have HX := hid (Ap.after (x := cx (P 0)) HA1.out hS1 hB hK)
          clear hK hB)))
    all_goals (
      go_wp2_with fail
      go_meet
      exact ⟨_, _, rfl, HX⟩)
  case rest =>
    clear i2a gaa gba i0 i1 i2 i3 i4 i5 i6 g0 g1 g2 g3 g4 g5 g6 g7
    obtain ⟨N5, q', rfl, H3⟩ := hcut
    obtain ⟨⟨y0, y1⟩, yf, hN5⟩ := H3.out.cells
    obtain ⟨i0, i1, i2, i3, i4, i5, i6⟩ := H3.out.ap.cells
    simp only at i0 i1 i2 i3 i4 i5 i6
    go_wp2_with fail
    go_at_call 20
    obtain ⟨va, vb, hK⟩ := H3.out.bk
    refine (cDoes hK (HOK.out 0 (by omega)).1 (by have := H3.out.h5; omega) (P 0).vol (P 0).val ⟨ci, ck, 0, ct, cd, cp, cq⟩).mono ?_
    rintro e w4 ⟨err, fs, left, bs', ss', hT, hF, hE⟩
    have hR2 : R = (err, fs, left, bs', ss') := HRR.out.trans hE.symm
    subst hR2
    simp only at HF HT HVF
    obtain ⟨fa, fn, fc, rfl, h5⟩ := H3.out.does hK hT
    have H5 := hid h5
    have HFi := hid hF
    clear hK hT hF hE h5 y0 y1 yf hN5 i0 i1 i2 i3 i4 i5 i6
    go_upto_region 5 with fail
    generalize hN6 : w4.heap.size = N6 at H5 ⊢
    generalize hw5 : w4.alloc _ = w5 at H5 ⊢
    obtain ⟨⟨y0, y1⟩, yf, hN5⟩ := H5.out.ap3.cells
    obtain ⟨z0, z1, z2⟩ := H5.out.rep
    clear hN6 hw5
    go_cut [33] from 27 to 32 (fun s33 wx => Hid (Ap5 w wx ⟨ci, ck, 0, ct, cd, cp, cq⟩ N5 N6 q' (cxV ((P 0).vol + vf) ((P 0).val + vl)) err (.slice fa fn fc) left bs' ss' fs))
    case first =>
      go_region_law (first
        | (go_simp; go_at_call 21; (
            refine (HT.out _ _ _ (H5.out.fl.on (Below.refl _ w5).drew)).mono ?_
            rintro e w6 ⟨rfl, hB⟩
            have hx := H5.out.turned hB
            obtain ⟨⟨b0, b1⟩, bf, hb5⟩ := hx.ap3.cells
            have HX := hid (hx.put (cxV ((P 0).vol + vf) ((P 0).val + vl)))
            clear hx hB)))
      all_goals (
        go_wp2_with fail
        go_meet
        exact HX)
    case rest =>
      clear y0 y1 yf hN5 z0 z1 z2
      have H7 := hcut
      obtain ⟨⟨y0, y1⟩, yf, hN5⟩ := H7.out.ap3.cells
      go_wp2_with fail
      go_at_call 22
      refine (HOV.out q' _).mono ?_
      rintro e w8 ⟨rfl, hB⟩
      have H8 := hid (H7.out.below hB)
      clear hB y0 y1 yf hN5
      rcases hov : overB ((P 0).vol + vf) ((P 0).val + vl) with _ | _
      · have HO := hid hov
        rw [hov] at HF
        clear hov
        obtain ⟨⟨y0, y1⟩, yf, hN5⟩ := H8.out.ap3.cells
        obtain ⟨i0, i1, i2, i3, i4, i5, i6⟩ := H8.out.ap3.ap.cells
        simp only at i0 i1 i2 i3 i4 i5 i6
        obtain ⟨hm8, ⟨g0, g1, g2, g3, g4, g5, g6, g7⟩, gf⟩ := MkO.cells (HM.out.on H8.out.ap3.ap.be).ob
        simp only at g0 g1 g2 g3 g4 g5 g6 g7
        go_upto_region 8 with fail
        go_cut [44] from 37 to 43 (fun s44 wx => wx.os = w8.os ∧ Hid (wx = ((w8.drew.setCell ⟨m, 0, none⟩ (ptr q')).setCell ⟨m, 1, none⟩ (cxV ((P 0).vol + vf) ((P 0).val + vl)))))
        case first =>
          go_region_law (fail)
          all_goals (
            go_wp2_with fail
            go_meet
            exact ⟨rfl, hid rfl⟩)
        case rest =>
          clear y0 y1 yf hN5 i0 i1 i2 i3 i4 i5 i6 g0 g1 g2 g3 g4 g5 g6 g7 gf
          obtain ⟨_, HW9⟩ := hcut
          have hfin := H8.out.fin HM.out (S := 0) (by omega) (stepF (P 0) (err, fs, left, bs', ss')) rfl rfl wc (by rw [HW9.out, show (stepF (P 0) (err, fs, left, bs', ss')) = ⟨bs', ss', (P 0).vol + vf, (P 0).val + vl⟩ from by rw [HVF.out.1, HVF.out.2]; rfl])
          obtain ⟨⟨k0, k1, k2⟩, fz⟩ := hfin.1
          obtain ⟨z0, z1, z2⟩ := hfin.2.1
          have HL := hid hfin.2.2
          clear hfin HW9
          go_wp2_with fail
          refine bodyPost_ret (v := rpV err (.slice fa fn fc) left) (by simp [results, Try.results8, go_sem, k0, k1, k2]) rfl ?_
          rw [HF.out]
          have h9 := HL.out (.int .i64 err) (.slice fa fn fc) (.int .i64 left)
          refine ⟨fun i hi => ?_, _, _, rfl, h9.1, h9.2.1, h9.2.2⟩
          exact ok_upd HOK.out HFi.out (by have := HO.out; rw [HVF.out.1, HVF.out.2] at this; exact this) i hi
      · rw [hov] at HF
        clear hov
        go_wp2_with fail
        go_at_call 19
        refine (cMFailed _ _).mono ?_
        rintro e w9 ⟨rfl, hB⟩
        have H9 := hid (H8.out.below hB)
        obtain ⟨⟨k0, k1, k2⟩, fz⟩ := H9.out.ap3.ap.box
        clear hB
        go_wp2_with fail
        refine bodyPost_ret (v := rpV 8 (.slice none 0 0) 0) (by simp [results, Try.results8, go_sem, k0, k1, k2]) rfl ?_
        rw [HF.out]
        have hB := fun x y z => below_set3 H9.out.ap3.ap.be (N := w.heap.size + 1) (by omega) x y z
        exact ⟨HOK.out, _, q, rfl, World.ownsRow_nil _ _ _ _, HM.out.on (hB _ _ _), Tch.ofBelow (hB _ _ _)⟩
end Go.Proofs.Ytdgllpfccdbdnaa
/- The program's market: Apply of a command that may be. -/
namespace Go.Proofs.Ytdgllpfccdbdnaa
set_option linter.unusedVariables false
set_option linter.unusedSimpArgs false
open Go.RowKit
open Go.Lib (hid)

set_option maxHeartbeats 6400000 in
set_option maxRecDepth 100000 in
theorem cApply1 {w : World} {m : Nat} {q : Nat → Nat} {P : Nat → Pl} (h : Mk w m q P) (hok : ∀ i, i < 4 → PlOk (P i)) (ci ck ct cd cp cq : Int) (hc : C7.ok ⟨ci, ck, 1, ct, cd, cp, cq⟩ = true) : Calls Try.prog 8 #[ptr m, cmV ci ck 1 ct cd cp cq] w fun e w' => Appl w w' m e (applyF ⟨ci, ck, 1, ct, cd, cp, cq⟩ P) := by
  obtain ⟨R, hR⟩ : ∃ R, R = doesF ⟨ci, ck, 1, ct, cd, cp, cq⟩ (P 1).bs (P 1).ss := ⟨_, rfl⟩
  have HF : Hid (applyF ⟨ci, ck, 1, ct, cd, cp, cq⟩ P = if overB ((P 1).vol + volF R.2.1) ((P 1).val + valF R.2.1) then (8, [], 0, P) else (R.1, R.2.1, R.2.2.1, upd P 1 (stepF (P 1) R))) := hid (by unfold applyF; rw [if_neg (by rw [hc]; decide), hR]; rfl)
  have hfl := does_ok ⟨ci, ck, 1, ct, cd, cp, cq⟩ (hok 1 (by omega)).1
  rw [← hR] at hfl
  have hvb := vol_bound hfl.1
  have hP1 := (hok 1 (by omega)).2.1
  have hP2 := (hok 1 (by omega)).2.2
  obtain ⟨vf, hvf⟩ : ∃ vf, vf = volF R.2.1 := ⟨_, rfl⟩
  obtain ⟨vl, hvl⟩ : ∃ vl, vl = valF R.2.1 := ⟨_, rfl⟩
  rw [← hvf, ← hvl] at HF hvb
  have hl8 := hfl.2
  have hadd := run_cadd (a := (P 1).vol) (b := (P 1).val) (c := vf) (d := vl) (by omega) (by omega)
  have HOV := hid (fun q' w => cOver q' ((P 1).vol + vf) ((P 1).val + vl) (by omega) (by omega) w)
  have HT : Hid (∀ (W : World) (C : Nat) (v : Value), OwnF W C v R.2.1 → Calls Try.prog 21 #[v] W fun e w' => e = .returned (cxV vf vl) ∧ Below W.heap.size W w') := hid fun W C v hv => by rw [hvf, hvl]; exact cTurns hv hfl.2 hfl.1
  have HC : Hid (∀ W, Below w.heap.size w W → Calls Try.prog 17 #[plV (q 1) (P 1)] W fun e w' => ∃ q', e = .returned (plV q' (P 1)) ∧ (∃ va vb, BkA w' W.heap.size q' va vb (P 1).bs (P 1).ss) ∧ Below W.heap.size W w') := hid fun W hW => cCopied ((h.at' 1 (by omega)).on hW) (hok 1 (by omega)).1
  have HM := hid h
  have HOK := hid hok
  have HRR := hid hR
  have HCC := hid hc
  have HVF := hid (And.intro hvf hvl)
  have hst := stX
  clear h hok hc hR hfl hvb hP1 hP2 hvf hvl hl8
  go_enter Try.func8, Try.ntmps8
  go_wp2_with fail
  go_at_call 18
  obtain ⟨W0, hW0⟩ : ∃ W, W = ((w.alloc (.cells #[.int .i64 ci, .int .i64 ck, .int .i64 1, .int .i64 ct, .int .i64 cd, .int .i64 cp, .int .i64 cq] 42)).alloc box3).alloc (.cells #[.int .i64 ci, .int .i64 ck, .int .i64 1, .int .i64 ct, .int .i64 cd, .int .i64 cp, .int .i64 cq] 42) := ⟨_, rfl⟩
  rw [← hW0]
  have h0 := Ap.start (w := w) ⟨ci, ck, 1, ct, cd, cp, cq⟩
  simp only [C7.cells] at h0
  rw [← hW0] at h0
  refine (cRight1 ⟨ci, ck, 1, ct, cd, cp, cq⟩ _ _ W0 h0.2.1).mono ?_
  rintro e w1 ⟨rfl, hB1⟩
  rw [HCC.out]
  have HA1 := hid (h0.1.below (hB1.mono h0.2.2))
  have hS1 : w.heap.size + 2 ≤ w1.heap.size := Nat.le_trans h0.2.2 hB1.size
  clear h0 hB1 hW0
  obtain ⟨i0, i1, i2, i3, i4, i5, i6⟩ := HA1.out.cells
  simp only at i0 i1 i2 i3 i4 i5 i6
  have hM1 := HM.out.on HA1.out.be
  obtain ⟨hm1, ⟨g0, g1, g2, g3, g4, g5, g6, g7⟩, _⟩ := MkO.cells hM1.ob
  simp only at g0 g1 g2 g3 g4 g5 g6 g7
  clear hM1
  have i2a := Lib.cell?_alloc_some (.cells #[.pointer none, .complex .f64 0 0] 59) i2
  have gaa := Lib.cell?_alloc_some (.cells #[.pointer none, .complex .f64 0 0] 59) g2
  have gba := Lib.cell?_alloc_some (.cells #[.pointer none, .complex .f64 0 0] 59) g3
  go_upto_region 3 with fail
  go_cut [5] from 16 to 23 (fun s5 wx => ∃ N q', s5 = .pointer (some ⟨N, 0, none⟩) ∧ Hid (Ap3 w wx ⟨ci, ck, 1, ct, cd, cp, cq⟩ N q' (cx (P 1)) (P 1).bs (P 1).ss))
  case first =>
    go_region_law (first
      | (go_simp; go_at_call 17; (
          refine (HC.out (w1.drew.alloc (.cells #[.pointer none, .complex .f64 0 0] 59)) (HA1.out.be.drew.alloc HA1.out.be.size _)).mono ?_
          rintro e w2 ⟨q', rfl, ⟨va, vb, hK⟩, hB⟩
          have hx := Ap.before (x := cx (P 1)) HA1.out hS1 hB hK
          have HX := hid hx.2
          have y0 := cellAt' hx.1 0
          have y1 := cellAt' hx.1 1
          have fz : ∀ f, w2.frozen? ⟨w1.heap.size, f, none⟩ = false := fun f => by have h3 := hx.1; simp [World.frozen?, h3]
          simp at y0 y1
          clear hx hK hB))
      | (go_simp; go_at_call 17; (
          refine (HC.out w1.drew HA1.out.be.drew).mono ?_
          rintro e w2 ⟨q', rfl, ⟨va, vb, hK⟩, hB⟩
          have HX := hid (Ap.after (x := cx (P 1)) HA1.out hS1 hB hK)
          clear hK hB)))
    all_goals (
      go_wp2_with fail
      go_meet
      exact ⟨_, _, rfl, HX⟩)
  case rest =>
    clear i2a gaa gba i0 i1 i2 i3 i4 i5 i6 g0 g1 g2 g3 g4 g5 g6 g7
    obtain ⟨N5, q', rfl, H3⟩ := hcut
    obtain ⟨⟨y0, y1⟩, yf, hN5⟩ := H3.out.cells
    obtain ⟨i0, i1, i2, i3, i4, i5, i6⟩ := H3.out.ap.cells
    simp only at i0 i1 i2 i3 i4 i5 i6
    go_wp2_with fail
    go_at_call 20
    obtain ⟨va, vb, hK⟩ := H3.out.bk
    refine (cDoes hK (HOK.out 1 (by omega)).1 (by have := H3.out.h5; omega) (P 1).vol (P 1).val ⟨ci, ck, 1, ct, cd, cp, cq⟩).mono ?_
    rintro e w4 ⟨err, fs, left, bs', ss', hT, hF, hE⟩
    have hR2 : R = (err, fs, left, bs', ss') := HRR.out.trans hE.symm
    subst hR2
    simp only at HF HT HVF
    obtain ⟨fa, fn, fc, rfl, h5⟩ := H3.out.does hK hT
    have H5 := hid h5
    have HFi := hid hF
    clear hK hT hF hE h5 y0 y1 yf hN5 i0 i1 i2 i3 i4 i5 i6
    go_upto_region 5 with fail
    generalize hN6 : w4.heap.size = N6 at H5 ⊢
    generalize hw5 : w4.alloc _ = w5 at H5 ⊢
    obtain ⟨⟨y0, y1⟩, yf, hN5⟩ := H5.out.ap3.cells
    obtain ⟨z0, z1, z2⟩ := H5.out.rep
    clear hN6 hw5
    go_cut [33] from 27 to 32 (fun s33 wx => Hid (Ap5 w wx ⟨ci, ck, 1, ct, cd, cp, cq⟩ N5 N6 q' (cxV ((P 1).vol + vf) ((P 1).val + vl)) err (.slice fa fn fc) left bs' ss' fs))
    case first =>
      go_region_law (first
        | (go_simp; go_at_call 21; (
            refine (HT.out _ _ _ (H5.out.fl.on (Below.refl _ w5).drew)).mono ?_
            rintro e w6 ⟨rfl, hB⟩
            have hx := H5.out.turned hB
            obtain ⟨⟨b0, b1⟩, bf, hb5⟩ := hx.ap3.cells
            have HX := hid (hx.put (cxV ((P 1).vol + vf) ((P 1).val + vl)))
            clear hx hB)))
      all_goals (
        go_wp2_with fail
        go_meet
        exact HX)
    case rest =>
      clear y0 y1 yf hN5 z0 z1 z2
      have H7 := hcut
      obtain ⟨⟨y0, y1⟩, yf, hN5⟩ := H7.out.ap3.cells
      go_wp2_with fail
      go_at_call 22
      refine (HOV.out q' _).mono ?_
      rintro e w8 ⟨rfl, hB⟩
      have H8 := hid (H7.out.below hB)
      clear hB y0 y1 yf hN5
      rcases hov : overB ((P 1).vol + vf) ((P 1).val + vl) with _ | _
      · have HO := hid hov
        rw [hov] at HF
        clear hov
        obtain ⟨⟨y0, y1⟩, yf, hN5⟩ := H8.out.ap3.cells
        obtain ⟨i0, i1, i2, i3, i4, i5, i6⟩ := H8.out.ap3.ap.cells
        simp only at i0 i1 i2 i3 i4 i5 i6
        obtain ⟨hm8, ⟨g0, g1, g2, g3, g4, g5, g6, g7⟩, gf⟩ := MkO.cells (HM.out.on H8.out.ap3.ap.be).ob
        simp only at g0 g1 g2 g3 g4 g5 g6 g7
        go_upto_region 8 with fail
        go_cut [44] from 37 to 43 (fun s44 wx => wx.os = w8.os ∧ Hid (wx = ((w8.drew.setCell ⟨m, 2, none⟩ (ptr q')).setCell ⟨m, 3, none⟩ (cxV ((P 1).vol + vf) ((P 1).val + vl)))))
        case first =>
          go_region_law (fail)
          all_goals (
            go_wp2_with fail
            go_meet
            exact ⟨rfl, hid rfl⟩)
        case rest =>
          clear y0 y1 yf hN5 i0 i1 i2 i3 i4 i5 i6 g0 g1 g2 g3 g4 g5 g6 g7 gf
          obtain ⟨_, HW9⟩ := hcut
          have hfin := H8.out.fin HM.out (S := 1) (by omega) (stepF (P 1) (err, fs, left, bs', ss')) rfl rfl wc (by rw [HW9.out, show (stepF (P 1) (err, fs, left, bs', ss')) = ⟨bs', ss', (P 1).vol + vf, (P 1).val + vl⟩ from by rw [HVF.out.1, HVF.out.2]; rfl])
          obtain ⟨⟨k0, k1, k2⟩, fz⟩ := hfin.1
          obtain ⟨z0, z1, z2⟩ := hfin.2.1
          have HL := hid hfin.2.2
          clear hfin HW9
          go_wp2_with fail
          refine bodyPost_ret (v := rpV err (.slice fa fn fc) left) (by simp [results, Try.results8, go_sem, k0, k1, k2]) rfl ?_
          rw [HF.out]
          have h9 := HL.out (.int .i64 err) (.slice fa fn fc) (.int .i64 left)
          refine ⟨fun i hi => ?_, _, _, rfl, h9.1, h9.2.1, h9.2.2⟩
          exact ok_upd HOK.out HFi.out (by have := HO.out; rw [HVF.out.1, HVF.out.2] at this; exact this) i hi
      · rw [hov] at HF
        clear hov
        go_wp2_with fail
        go_at_call 19
        refine (cMFailed _ _).mono ?_
        rintro e w9 ⟨rfl, hB⟩
        have H9 := hid (H8.out.below hB)
        obtain ⟨⟨k0, k1, k2⟩, fz⟩ := H9.out.ap3.ap.box
        clear hB
        go_wp2_with fail
        refine bodyPost_ret (v := rpV 8 (.slice none 0 0) 0) (by simp [results, Try.results8, go_sem, k0, k1, k2]) rfl ?_
        rw [HF.out]
        have hB := fun x y z => below_set3 H9.out.ap3.ap.be (N := w.heap.size + 1) (by omega) x y z
        exact ⟨HOK.out, _, q, rfl, World.ownsRow_nil _ _ _ _, HM.out.on (hB _ _ _), Tch.ofBelow (hB _ _ _)⟩
end Go.Proofs.Ytdgllpfccdbdnaa
/- The program's market: Apply of a command that may be. -/
namespace Go.Proofs.Ytdgllpfccdbdnaa
set_option linter.unusedVariables false
set_option linter.unusedSimpArgs false
open Go.RowKit
open Go.Lib (hid)

set_option maxHeartbeats 6400000 in
set_option maxRecDepth 100000 in
theorem cApply2 {w : World} {m : Nat} {q : Nat → Nat} {P : Nat → Pl} (h : Mk w m q P) (hok : ∀ i, i < 4 → PlOk (P i)) (ci ck ct cd cp cq : Int) (hc : C7.ok ⟨ci, ck, 2, ct, cd, cp, cq⟩ = true) : Calls Try.prog 8 #[ptr m, cmV ci ck 2 ct cd cp cq] w fun e w' => Appl w w' m e (applyF ⟨ci, ck, 2, ct, cd, cp, cq⟩ P) := by
  obtain ⟨R, hR⟩ : ∃ R, R = doesF ⟨ci, ck, 2, ct, cd, cp, cq⟩ (P 2).bs (P 2).ss := ⟨_, rfl⟩
  have HF : Hid (applyF ⟨ci, ck, 2, ct, cd, cp, cq⟩ P = if overB ((P 2).vol + volF R.2.1) ((P 2).val + valF R.2.1) then (8, [], 0, P) else (R.1, R.2.1, R.2.2.1, upd P 2 (stepF (P 2) R))) := hid (by unfold applyF; rw [if_neg (by rw [hc]; decide), hR]; rfl)
  have hfl := does_ok ⟨ci, ck, 2, ct, cd, cp, cq⟩ (hok 2 (by omega)).1
  rw [← hR] at hfl
  have hvb := vol_bound hfl.1
  have hP1 := (hok 2 (by omega)).2.1
  have hP2 := (hok 2 (by omega)).2.2
  obtain ⟨vf, hvf⟩ : ∃ vf, vf = volF R.2.1 := ⟨_, rfl⟩
  obtain ⟨vl, hvl⟩ : ∃ vl, vl = valF R.2.1 := ⟨_, rfl⟩
  rw [← hvf, ← hvl] at HF hvb
  have hl8 := hfl.2
  have hadd := run_cadd (a := (P 2).vol) (b := (P 2).val) (c := vf) (d := vl) (by omega) (by omega)
  have HOV := hid (fun q' w => cOver q' ((P 2).vol + vf) ((P 2).val + vl) (by omega) (by omega) w)
  have HT : Hid (∀ (W : World) (C : Nat) (v : Value), OwnF W C v R.2.1 → Calls Try.prog 21 #[v] W fun e w' => e = .returned (cxV vf vl) ∧ Below W.heap.size W w') := hid fun W C v hv => by rw [hvf, hvl]; exact cTurns hv hfl.2 hfl.1
  have HC : Hid (∀ W, Below w.heap.size w W → Calls Try.prog 17 #[plV (q 2) (P 2)] W fun e w' => ∃ q', e = .returned (plV q' (P 2)) ∧ (∃ va vb, BkA w' W.heap.size q' va vb (P 2).bs (P 2).ss) ∧ Below W.heap.size W w') := hid fun W hW => cCopied ((h.at' 2 (by omega)).on hW) (hok 2 (by omega)).1
  have HM := hid h
  have HOK := hid hok
  have HRR := hid hR
  have HCC := hid hc
  have HVF := hid (And.intro hvf hvl)
  have hst := stX
  clear h hok hc hR hfl hvb hP1 hP2 hvf hvl hl8
  go_enter Try.func8, Try.ntmps8
  go_wp2_with fail
  go_at_call 18
  obtain ⟨W0, hW0⟩ : ∃ W, W = ((w.alloc (.cells #[.int .i64 ci, .int .i64 ck, .int .i64 2, .int .i64 ct, .int .i64 cd, .int .i64 cp, .int .i64 cq] 42)).alloc box3).alloc (.cells #[.int .i64 ci, .int .i64 ck, .int .i64 2, .int .i64 ct, .int .i64 cd, .int .i64 cp, .int .i64 cq] 42) := ⟨_, rfl⟩
  rw [← hW0]
  have h0 := Ap.start (w := w) ⟨ci, ck, 2, ct, cd, cp, cq⟩
  simp only [C7.cells] at h0
  rw [← hW0] at h0
  refine (cRight1 ⟨ci, ck, 2, ct, cd, cp, cq⟩ _ _ W0 h0.2.1).mono ?_
  rintro e w1 ⟨rfl, hB1⟩
  rw [HCC.out]
  have HA1 := hid (h0.1.below (hB1.mono h0.2.2))
  have hS1 : w.heap.size + 2 ≤ w1.heap.size := Nat.le_trans h0.2.2 hB1.size
  clear h0 hB1 hW0
  obtain ⟨i0, i1, i2, i3, i4, i5, i6⟩ := HA1.out.cells
  simp only at i0 i1 i2 i3 i4 i5 i6
  have hM1 := HM.out.on HA1.out.be
  obtain ⟨hm1, ⟨g0, g1, g2, g3, g4, g5, g6, g7⟩, _⟩ := MkO.cells hM1.ob
  simp only at g0 g1 g2 g3 g4 g5 g6 g7
  clear hM1
  have i2a := Lib.cell?_alloc_some (.cells #[.pointer none, .complex .f64 0 0] 59) i2
  have gaa := Lib.cell?_alloc_some (.cells #[.pointer none, .complex .f64 0 0] 59) g4
  have gba := Lib.cell?_alloc_some (.cells #[.pointer none, .complex .f64 0 0] 59) g5
  go_upto_region 3 with fail
  go_cut [5] from 16 to 23 (fun s5 wx => ∃ N q', s5 = .pointer (some ⟨N, 0, none⟩) ∧ Hid (Ap3 w wx ⟨ci, ck, 2, ct, cd, cp, cq⟩ N q' (cx (P 2)) (P 2).bs (P 2).ss))
  case first =>
    go_region_law (first
      | (go_simp; go_at_call 17; (
          refine (HC.out (w1.drew.alloc (.cells #[.pointer none, .complex .f64 0 0] 59)) (HA1.out.be.drew.alloc HA1.out.be.size _)).mono ?_
          rintro e w2 ⟨q', rfl, ⟨va, vb, hK⟩, hB⟩
          have hx := Ap.before (x := cx (P 2)) HA1.out hS1 hB hK
          have HX := hid hx.2
          have y0 := cellAt' hx.1 0
          have y1 := cellAt' hx.1 1
          have fz : ∀ f, w2.frozen? ⟨w1.heap.size, f, none⟩ = false := fun f => by have h3 := hx.1; simp [World.frozen?, h3]
          simp at y0 y1
          clear hx hK hB))
      | (go_simp; go_at_call 17; (
          refine (HC.out w1.drew HA1.out.be.drew).mono ?_
          rintro e w2 ⟨q', rfl, ⟨va, vb, hK⟩, hB⟩
          have HX := hid (Ap.after (x := cx (P 2)) HA1.out hS1 hB hK)
          clear hK hB)))
    all_goals (
      go_wp2_with fail
      go_meet
      exact ⟨_, _, rfl, HX⟩)
  case rest =>
    clear i2a gaa gba i0 i1 i2 i3 i4 i5 i6 g0 g1 g2 g3 g4 g5 g6 g7
    obtain ⟨N5, q', rfl, H3⟩ := hcut
    obtain ⟨⟨y0, y1⟩, yf, hN5⟩ := H3.out.cells
    obtain ⟨i0, i1, i2, i3, i4, i5, i6⟩ := H3.out.ap.cells
    simp only at i0 i1 i2 i3 i4 i5 i6
    go_wp2_with fail
    go_at_call 20
    obtain ⟨va, vb, hK⟩ := H3.out.bk
    refine (cDoes hK (HOK.out 2 (by omega)).1 (by have := H3.out.h5; omega) (P 2).vol (P 2).val ⟨ci, ck, 2, ct, cd, cp, cq⟩).mono ?_
    rintro e w4 ⟨err, fs, left, bs', ss', hT, hF, hE⟩
    have hR2 : R = (err, fs, left, bs', ss') := HRR.out.trans hE.symm
    subst hR2
    simp only at HF HT HVF
    obtain ⟨fa, fn, fc, rfl, h5⟩ := H3.out.does hK hT
    have H5 := hid h5
    have HFi := hid hF
    clear hK hT hF hE h5 y0 y1 yf hN5 i0 i1 i2 i3 i4 i5 i6
    go_upto_region 5 with fail
    generalize hN6 : w4.heap.size = N6 at H5 ⊢
    generalize hw5 : w4.alloc _ = w5 at H5 ⊢
    obtain ⟨⟨y0, y1⟩, yf, hN5⟩ := H5.out.ap3.cells
    obtain ⟨z0, z1, z2⟩ := H5.out.rep
    clear hN6 hw5
    go_cut [33] from 27 to 32 (fun s33 wx => Hid (Ap5 w wx ⟨ci, ck, 2, ct, cd, cp, cq⟩ N5 N6 q' (cxV ((P 2).vol + vf) ((P 2).val + vl)) err (.slice fa fn fc) left bs' ss' fs))
    case first =>
      go_region_law (first
        | (go_simp; go_at_call 21; (
            refine (HT.out _ _ _ (H5.out.fl.on (Below.refl _ w5).drew)).mono ?_
            rintro e w6 ⟨rfl, hB⟩
            have hx := H5.out.turned hB
            obtain ⟨⟨b0, b1⟩, bf, hb5⟩ := hx.ap3.cells
            have HX := hid (hx.put (cxV ((P 2).vol + vf) ((P 2).val + vl)))
            clear hx hB)))
      all_goals (
        go_wp2_with fail
        go_meet
        exact HX)
    case rest =>
      clear y0 y1 yf hN5 z0 z1 z2
      have H7 := hcut
      obtain ⟨⟨y0, y1⟩, yf, hN5⟩ := H7.out.ap3.cells
      go_wp2_with fail
      go_at_call 22
      refine (HOV.out q' _).mono ?_
      rintro e w8 ⟨rfl, hB⟩
      have H8 := hid (H7.out.below hB)
      clear hB y0 y1 yf hN5
      rcases hov : overB ((P 2).vol + vf) ((P 2).val + vl) with _ | _
      · have HO := hid hov
        rw [hov] at HF
        clear hov
        obtain ⟨⟨y0, y1⟩, yf, hN5⟩ := H8.out.ap3.cells
        obtain ⟨i0, i1, i2, i3, i4, i5, i6⟩ := H8.out.ap3.ap.cells
        simp only at i0 i1 i2 i3 i4 i5 i6
        obtain ⟨hm8, ⟨g0, g1, g2, g3, g4, g5, g6, g7⟩, gf⟩ := MkO.cells (HM.out.on H8.out.ap3.ap.be).ob
        simp only at g0 g1 g2 g3 g4 g5 g6 g7
        go_upto_region 8 with fail
        go_cut [44] from 37 to 43 (fun s44 wx => wx.os = w8.os ∧ Hid (wx = ((w8.drew.setCell ⟨m, 4, none⟩ (ptr q')).setCell ⟨m, 5, none⟩ (cxV ((P 2).vol + vf) ((P 2).val + vl)))))
        case first =>
          go_region_law (fail)
          all_goals (
            go_wp2_with fail
            go_meet
            exact ⟨rfl, hid rfl⟩)
        case rest =>
          clear y0 y1 yf hN5 i0 i1 i2 i3 i4 i5 i6 g0 g1 g2 g3 g4 g5 g6 g7 gf
          obtain ⟨_, HW9⟩ := hcut
          have hfin := H8.out.fin HM.out (S := 2) (by omega) (stepF (P 2) (err, fs, left, bs', ss')) rfl rfl wc (by rw [HW9.out, show (stepF (P 2) (err, fs, left, bs', ss')) = ⟨bs', ss', (P 2).vol + vf, (P 2).val + vl⟩ from by rw [HVF.out.1, HVF.out.2]; rfl])
          obtain ⟨⟨k0, k1, k2⟩, fz⟩ := hfin.1
          obtain ⟨z0, z1, z2⟩ := hfin.2.1
          have HL := hid hfin.2.2
          clear hfin HW9
          go_wp2_with fail
          refine bodyPost_ret (v := rpV err (.slice fa fn fc) left) (by simp [results, Try.results8, go_sem, k0, k1, k2]) rfl ?_
          rw [HF.out]
          have h9 := HL.out (.int .i64 err) (.slice fa fn fc) (.int .i64 left)
          refine ⟨fun i hi => ?_, _, _, rfl, h9.1, h9.2.1, h9.2.2⟩
          exact ok_upd HOK.out HFi.out (by have := HO.out; rw [HVF.out.1, HVF.out.2] at this; exact this) i hi
      · rw [hov] at HF
        clear hov
        go_wp2_with fail
        go_at_call 19
        refine (cMFailed _ _).mono ?_
        rintro e w9 ⟨rfl, hB⟩
        have H9 := hid (H8.out.below hB)
        obtain ⟨⟨k0, k1, k2⟩, fz⟩ := H9.out.ap3.ap.box
        clear hB
        go_wp2_with fail
        refine bodyPost_ret (v := rpV 8 (.slice none 0 0) 0) (by simp [results, Try.results8, go_sem, k0, k1, k2]) rfl ?_
        rw [HF.out]
        have hB := fun x y z => below_set3 H9.out.ap3.ap.be (N := w.heap.size + 1) (by omega) x y z
        exact ⟨HOK.out, _, q, rfl, World.ownsRow_nil _ _ _ _, HM.out.on (hB _ _ _), Tch.ofBelow (hB _ _ _)⟩
end Go.Proofs.Ytdgllpfccdbdnaa
/- The program's market: Apply of a command that may be. -/
namespace Go.Proofs.Ytdgllpfccdbdnaa
set_option linter.unusedVariables false
set_option linter.unusedSimpArgs false
open Go.RowKit
open Go.Lib (hid)

set_option maxHeartbeats 6400000 in
set_option maxRecDepth 100000 in
theorem cApply3 {w : World} {m : Nat} {q : Nat → Nat} {P : Nat → Pl} (h : Mk w m q P) (hok : ∀ i, i < 4 → PlOk (P i)) (ci ck ct cd cp cq : Int) (hc : C7.ok ⟨ci, ck, 3, ct, cd, cp, cq⟩ = true) : Calls Try.prog 8 #[ptr m, cmV ci ck 3 ct cd cp cq] w fun e w' => Appl w w' m e (applyF ⟨ci, ck, 3, ct, cd, cp, cq⟩ P) := by
  obtain ⟨R, hR⟩ : ∃ R, R = doesF ⟨ci, ck, 3, ct, cd, cp, cq⟩ (P 3).bs (P 3).ss := ⟨_, rfl⟩
  have HF : Hid (applyF ⟨ci, ck, 3, ct, cd, cp, cq⟩ P = if overB ((P 3).vol + volF R.2.1) ((P 3).val + valF R.2.1) then (8, [], 0, P) else (R.1, R.2.1, R.2.2.1, upd P 3 (stepF (P 3) R))) := hid (by unfold applyF; rw [if_neg (by rw [hc]; decide), hR]; rfl)
  have hfl := does_ok ⟨ci, ck, 3, ct, cd, cp, cq⟩ (hok 3 (by omega)).1
  rw [← hR] at hfl
  have hvb := vol_bound hfl.1
  have hP1 := (hok 3 (by omega)).2.1
  have hP2 := (hok 3 (by omega)).2.2
  obtain ⟨vf, hvf⟩ : ∃ vf, vf = volF R.2.1 := ⟨_, rfl⟩
  obtain ⟨vl, hvl⟩ : ∃ vl, vl = valF R.2.1 := ⟨_, rfl⟩
  rw [← hvf, ← hvl] at HF hvb
  have hl8 := hfl.2
  have hadd := run_cadd (a := (P 3).vol) (b := (P 3).val) (c := vf) (d := vl) (by omega) (by omega)
  have HOV := hid (fun q' w => cOver q' ((P 3).vol + vf) ((P 3).val + vl) (by omega) (by omega) w)
  have HT : Hid (∀ (W : World) (C : Nat) (v : Value), OwnF W C v R.2.1 → Calls Try.prog 21 #[v] W fun e w' => e = .returned (cxV vf vl) ∧ Below W.heap.size W w') := hid fun W C v hv => by rw [hvf, hvl]; exact cTurns hv hfl.2 hfl.1
  have HC : Hid (∀ W, Below w.heap.size w W → Calls Try.prog 17 #[plV (q 3) (P 3)] W fun e w' => ∃ q', e = .returned (plV q' (P 3)) ∧ (∃ va vb, BkA w' W.heap.size q' va vb (P 3).bs (P 3).ss) ∧ Below W.heap.size W w') := hid fun W hW => cCopied ((h.at' 3 (by omega)).on hW) (hok 3 (by omega)).1
  have HM := hid h
  have HOK := hid hok
  have HRR := hid hR
  have HCC := hid hc
  have HVF := hid (And.intro hvf hvl)
  have hst := stX
  clear h hok hc hR hfl hvb hP1 hP2 hvf hvl hl8
  go_enter Try.func8, Try.ntmps8
  go_wp2_with fail
  go_at_call 18
  obtain ⟨W0, hW0⟩ : ∃ W, W = ((w.alloc (.cells #[.int .i64 ci, .int .i64 ck, .int .i64 3, .int .i64 ct, .int .i64 cd, .int .i64 cp, .int .i64 cq] 42)).alloc box3).alloc (.cells #[.int .i64 ci, .int .i64 ck, .int .i64 3, .int .i64 ct, .int .i64 cd, .int .i64 cp, .int .i64 cq] 42) := ⟨_, rfl⟩
  rw [← hW0]
  have h0 := Ap.start (w := w) ⟨ci, ck, 3, ct, cd, cp, cq⟩
  simp only [C7.cells] at h0
  rw [← hW0] at h0
  refine (cRight1 ⟨ci, ck, 3, ct, cd, cp, cq⟩ _ _ W0 h0.2.1).mono ?_
  rintro e w1 ⟨rfl, hB1⟩
  rw [HCC.out]
  have HA1 := hid (h0.1.below (hB1.mono h0.2.2))
  have hS1 : w.heap.size + 2 ≤ w1.heap.size := Nat.le_trans h0.2.2 hB1.size
  clear h0 hB1 hW0
  obtain ⟨i0, i1, i2, i3, i4, i5, i6⟩ := HA1.out.cells
  simp only at i0 i1 i2 i3 i4 i5 i6
  have hM1 := HM.out.on HA1.out.be
  obtain ⟨hm1, ⟨g0, g1, g2, g3, g4, g5, g6, g7⟩, _⟩ := MkO.cells hM1.ob
  simp only at g0 g1 g2 g3 g4 g5 g6 g7
  clear hM1
  have i2a := Lib.cell?_alloc_some (.cells #[.pointer none, .complex .f64 0 0] 59) i2
  have gaa := Lib.cell?_alloc_some (.cells #[.pointer none, .complex .f64 0 0] 59) g6
  have gba := Lib.cell?_alloc_some (.cells #[.pointer none, .complex .f64 0 0] 59) g7
  go_upto_region 3 with fail
  go_cut [5] from 16 to 23 (fun s5 wx => ∃ N q', s5 = .pointer (some ⟨N, 0, none⟩) ∧ Hid (Ap3 w wx ⟨ci, ck, 3, ct, cd, cp, cq⟩ N q' (cx (P 3)) (P 3).bs (P 3).ss))
  case first =>
    go_region_law (first
      | (go_simp; go_at_call 17; (
          refine (HC.out (w1.drew.alloc (.cells #[.pointer none, .complex .f64 0 0] 59)) (HA1.out.be.drew.alloc HA1.out.be.size _)).mono ?_
          rintro e w2 ⟨q', rfl, ⟨va, vb, hK⟩, hB⟩
          have hx := Ap.before (x := cx (P 3)) HA1.out hS1 hB hK
          have HX := hid hx.2
          have y0 := cellAt' hx.1 0
          have y1 := cellAt' hx.1 1
          have fz : ∀ f, w2.frozen? ⟨w1.heap.size, f, none⟩ = false := fun f => by have h3 := hx.1; simp [World.frozen?, h3]
          simp at y0 y1
          clear hx hK hB))
      | (go_simp; go_at_call 17; (
          refine (HC.out w1.drew HA1.out.be.drew).mono ?_
          rintro e w2 ⟨q', rfl, ⟨va, vb, hK⟩, hB⟩
          have HX := hid (Ap.after (x := cx (P 3)) HA1.out hS1 hB hK)
          clear hK hB)))
    all_goals (
      go_wp2_with fail
      go_meet
      exact ⟨_, _, rfl, HX⟩)
  case rest =>
    clear i2a gaa gba i0 i1 i2 i3 i4 i5 i6 g0 g1 g2 g3 g4 g5 g6 g7
    obtain ⟨N5, q', rfl, H3⟩ := hcut
    obtain ⟨⟨y0, y1⟩, yf, hN5⟩ := H3.out.cells
    obtain ⟨i0, i1, i2, i3, i4, i5, i6⟩ := H3.out.ap.cells
    simp only at i0 i1 i2 i3 i4 i5 i6
    go_wp2_with fail
    go_at_call 20
    obtain ⟨va, vb, hK⟩ := H3.out.bk
    refine (cDoes hK (HOK.out 3 (by omega)).1 (by have := H3.out.h5; omega) (P 3).vol (P 3).val ⟨ci, ck, 3, ct, cd, cp, cq⟩).mono ?_
    rintro e w4 ⟨err, fs, left, bs', ss', hT, hF, hE⟩
    have hR2 : R = (err, fs, left, bs', ss') := HRR.out.trans hE.symm
    subst hR2
    simp only at HF HT HVF
    obtain ⟨fa, fn, fc, rfl, h5⟩ := H3.out.does hK hT
    have H5 := hid h5
    have HFi := hid hF
    clear hK hT hF hE h5 y0 y1 yf hN5 i0 i1 i2 i3 i4 i5 i6
    go_upto_region 5 with fail
    generalize hN6 : w4.heap.size = N6 at H5 ⊢
    generalize hw5 : w4.alloc _ = w5 at H5 ⊢
    obtain ⟨⟨y0, y1⟩, yf, hN5⟩ := H5.out.ap3.cells
    obtain ⟨z0, z1, z2⟩ := H5.out.rep
    clear hN6 hw5
    go_cut [33] from 27 to 32 (fun s33 wx => Hid (Ap5 w wx ⟨ci, ck, 3, ct, cd, cp, cq⟩ N5 N6 q' (cxV ((P 3).vol + vf) ((P 3).val + vl)) err (.slice fa fn fc) left bs' ss' fs))
    case first =>
      go_region_law (first
        | (go_simp; go_at_call 21; (
            refine (HT.out _ _ _ (H5.out.fl.on (Below.refl _ w5).drew)).mono ?_
            rintro e w6 ⟨rfl, hB⟩
            have hx := H5.out.turned hB
            obtain ⟨⟨b0, b1⟩, bf, hb5⟩ := hx.ap3.cells
            have HX := hid (hx.put (cxV ((P 3).vol + vf) ((P 3).val + vl)))
            clear hx hB)))
      all_goals (
        go_wp2_with fail
        go_meet
        exact HX)
    case rest =>
      clear y0 y1 yf hN5 z0 z1 z2
      have H7 := hcut
      obtain ⟨⟨y0, y1⟩, yf, hN5⟩ := H7.out.ap3.cells
      go_wp2_with fail
      go_at_call 22
      refine (HOV.out q' _).mono ?_
      rintro e w8 ⟨rfl, hB⟩
      have H8 := hid (H7.out.below hB)
      clear hB y0 y1 yf hN5
      rcases hov : overB ((P 3).vol + vf) ((P 3).val + vl) with _ | _
      · have HO := hid hov
        rw [hov] at HF
        clear hov
        obtain ⟨⟨y0, y1⟩, yf, hN5⟩ := H8.out.ap3.cells
        obtain ⟨i0, i1, i2, i3, i4, i5, i6⟩ := H8.out.ap3.ap.cells
        simp only at i0 i1 i2 i3 i4 i5 i6
        obtain ⟨hm8, ⟨g0, g1, g2, g3, g4, g5, g6, g7⟩, gf⟩ := MkO.cells (HM.out.on H8.out.ap3.ap.be).ob
        simp only at g0 g1 g2 g3 g4 g5 g6 g7
        go_upto_region 8 with fail
        go_cut [44] from 37 to 43 (fun s44 wx => wx.os = w8.os ∧ Hid (wx = ((w8.drew.setCell ⟨m, 6, none⟩ (ptr q')).setCell ⟨m, 7, none⟩ (cxV ((P 3).vol + vf) ((P 3).val + vl)))))
        case first =>
          go_region_law (fail)
          all_goals (
            go_wp2_with fail
            go_meet
            exact ⟨rfl, hid rfl⟩)
        case rest =>
          clear y0 y1 yf hN5 i0 i1 i2 i3 i4 i5 i6 g0 g1 g2 g3 g4 g5 g6 g7 gf
          obtain ⟨_, HW9⟩ := hcut
          have hfin := H8.out.fin HM.out (S := 3) (by omega) (stepF (P 3) (err, fs, left, bs', ss')) rfl rfl wc (by rw [HW9.out, show (stepF (P 3) (err, fs, left, bs', ss')) = ⟨bs', ss', (P 3).vol + vf, (P 3).val + vl⟩ from by rw [HVF.out.1, HVF.out.2]; rfl])
          obtain ⟨⟨k0, k1, k2⟩, fz⟩ := hfin.1
          obtain ⟨z0, z1, z2⟩ := hfin.2.1
          have HL := hid hfin.2.2
          clear hfin HW9
          go_wp2_with fail
          refine bodyPost_ret (v := rpV err (.slice fa fn fc) left) (by simp [results, Try.results8, go_sem, k0, k1, k2]) rfl ?_
          rw [HF.out]
          have h9 := HL.out (.int .i64 err) (.slice fa fn fc) (.int .i64 left)
          refine ⟨fun i hi => ?_, _, _, rfl, h9.1, h9.2.1, h9.2.2⟩
          exact ok_upd HOK.out HFi.out (by have := HO.out; rw [HVF.out.1, HVF.out.2] at this; exact this) i hi
      · rw [hov] at HF
        clear hov
        go_wp2_with fail
        go_at_call 19
        refine (cMFailed _ _).mono ?_
        rintro e w9 ⟨rfl, hB⟩
        have H9 := hid (H8.out.below hB)
        obtain ⟨⟨k0, k1, k2⟩, fz⟩ := H9.out.ap3.ap.box
        clear hB
        go_wp2_with fail
        refine bodyPost_ret (v := rpV 8 (.slice none 0 0) 0) (by simp [results, Try.results8, go_sem, k0, k1, k2]) rfl ?_
        rw [HF.out]
        have hB := fun x y z => below_set3 H9.out.ap3.ap.be (N := w.heap.size + 1) (by omega) x y z
        exact ⟨HOK.out, _, q, rfl, World.ownsRow_nil _ _ _ _, HM.out.on (hB _ _ _), Tch.ofBelow (hB _ _ _)⟩
end Go.Proofs.Ytdgllpfccdbdnaa
namespace Go.Proofs.Ytdgllpfccdbdnaa
set_option linter.unusedVariables false
set_option linter.unusedSimpArgs false
open Go.RowKit
open Go.Lib (hid)

theorem cApply {w : World} {m : Nat} {q : Nat → Nat} {P : Nat → Pl} (h : Mk w m q P) (hok : ∀ i, i < 4 → PlOk (P i)) (c : C7) : Calls Try.prog 8 #[ptr m, cmV c.i c.k c.s c.t c.d c.p c.q] w fun e w' => Appl w w' m e (applyF c P) := by
  rcases hc : c.ok with _ | _
  · exact cApply_bad h hok c hc
  · obtain ⟨h0, h3⟩ := ok_sym hc
    obtain ⟨ci, ck, cs, ct, cd, cp, cq⟩ := c
    simp only at h0 h3 hc ⊢
    obtain rfl | rfl | rfl | rfl : cs = 0 ∨ cs = 1 ∨ cs = 2 ∨ cs = 3 := by omega
    · exact cApply0 h hok ci ck ct cd cp cq hc
    · exact cApply1 h hok ci ck ct cd cp cq hc
    · exact cApply2 h hok ci ck ct cd cp cq hc
    · exact cApply3 h hok ci ck ct cd cp cq hc
set_option maxHeartbeats 1600000 in
set_option maxRecDepth 100000 in
theorem cApply_nil (w : World) (i k s t d p q : Int) : Calls Try.prog 8 #[.pointer none, cmV i k s t d p q] w fun e w' => e = .returned (rpV 1 (.slice none 0 0) 0) ∧ Below w.heap.size w w' := by
  obtain ⟨W, hW⟩ : ∃ W, W = (w.alloc (.cells #[.int .i64 i, .int .i64 k, .int .i64 s, .int .i64 t, .int .i64 d, .int .i64 p, .int .i64 q] 42)).alloc box3 := ⟨_, rfl⟩
  have hB : Below w.heap.size w W := by rw [hW]; exact ((Below.refl _ w).alloc (Nat.le_refl _) _).alloc (by simp) _
  have b1 : W.heap[w.heap.size + 1]? = some box3 := by
    rw [hW, show w.heap.size + 1 = (w.alloc (.cells #[.int .i64 i, .int .i64 k, .int .i64 s, .int .i64 t, .int .i64 d, .int .i64 p, .int .i64 q] 42)).heap.size by simp]; exact heap_alloc_new _ _
  have HW := hid hW
  have HB := hid hB
  have Hb1 := hid b1
  clear hW hB b1
  go_enter Try.func8, Try.ntmps8
  go_wp2_with fail
  go_at_call 19
  rw [← HW.out]
  refine (cMFailed _ _).mono ?_
  rintro e w2 ⟨rfl, hB2⟩
  have hq := obOn Hb1.out hB2 (Array.getElem?_eq_some_iff.1 Hb1.out).1
  have k0 := cellAt' hq 0; have k1 := cellAt' hq 1; have k2 := cellAt' hq 2
  have fz : ∀ f, w2.frozen? ⟨w.heap.size + 1, f, none⟩ = false := fun f => by simp [World.frozen?, hq]
  simp at k0 k1 k2
  have HB2 := hid (HB.out.trans (hB2.mono HB.out.size))
  clear hq hB2
  go_wp2_with fail
  refine bodyPost_ret (v := rpV 1 (.slice none 0 0) 0) (by simp [results, Try.results8, go_sem, k0, k1, k2]) rfl ?_
  exact ⟨rfl, below_set3 HB2.out (N := w.heap.size + 1) (by omega) _ _ _⟩
end Go.Proofs.Ytdgllpfccdbdnaa

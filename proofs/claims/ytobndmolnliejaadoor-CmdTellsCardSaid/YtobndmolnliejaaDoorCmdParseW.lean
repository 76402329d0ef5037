/- The contract of Parse: the command whose text it is, or none: the plain function parseF. -/
import Derived.Test.YtobndmolnliejaaDoorCmdReads
namespace Go.Proofs.YtobndmolnliejaaDoor
open Go.RowKit Go.Lib Go.Maps

/-! ### Words are short -/
def Short (st : St) : Prop := ∀ x ∈ st.1, x.length ≤ 1000
theorem Short.takes {st : St} (h : Short st) (f : List UInt8 → Option Int) : Short (St.takes f st) := fun x hx => h x (List.mem_of_mem_tail hx)
theorem Short.hd {st : St} (h : Short st) : (hdW st.1).length ≤ 1000 := by
  obtain ⟨ws, g⟩ := st
  cases ws with
  | nil => simp [hdW]
  | cons x r => exact h x (by simp)
theorem spl_short : ∀ (k : Nat) (l : List UInt8), ∀ x ∈ spl k l, x.length ≤ l.length
  | 0, l, x, hx => by simp [spl] at hx; subst hx; exact Nat.le_refl _
  | k + 1, l, x, hx => by
    unfold spl at hx
    split at hx
    · simp at hx; subst hx; exact Nat.le_refl _
    · rcases List.mem_cons.1 hx with rfl | hx
      · simp; omega
      · have := spl_short k _ x hx
        simp at this; omega

/-! ### The readers, over a state -/
def TookS (f : List UInt8 → Option Int) (w : World) (bw : Nat) (st : St) (e : Ending) (w' : World) : Prop :=
  e = .returned (.int .i64 (St.gives f st)) ∧ WordsAt w' bw (St.takes f st).1 (St.takes f st).2 ∧ w.grownBy w' (some bw)
theorem sNumber (bw : Nat) (st : St) (w : World) (ok : Okw w) (h : WordsAt w bw st.1 st.2) (hs : Short st) : Calls Tryd.prog 28 #[.pointer (some ⟨bw, 0, none⟩)] w (TookS numW w bw st) := cNumber bw st.1 st.2 w ok h hs.hd
theorem sKind (bw : Nat) (st : St) (w : World) (h : WordsAt w bw st.1 st.2) (hs : Short st) : Calls Tryd.prog 29 #[.pointer (some ⟨bw, 0, none⟩)] w (TookS kindW w bw st) := cKind bw st.1 st.2 w h hs.hd
theorem sSide (bw : Nat) (st : St) (w : World) (h : WordsAt w bw st.1 st.2) : Calls Tryd.prog 30 #[.pointer (some ⟨bw, 0, none⟩)] w (TookS sideW w bw st) := cSide bw st.1 st.2 w h

abbrev cmCells (i k s t d p q : Int) : Array Value := #[.int .i64 i, .int .i64 k, .int .i64 s, .int .i64 t, .int .i64 d, .int .i64 p, .int .i64 q]
/-- While Parse runs: the reader in block bw, the command in bc, the result in the first new block. -/
structure Inv (w0 : World) (bw bc : Nat) (st : St) (i k s t d p q : Int) (w : World) : Prop where
  ok0 : Okw w0
  words : WordsAt w bw st.1 st.2
  cb : w.heap[bc]? = some (.cells (cmCells i k s t d p q) 32 (0, 0))
  rb : w.heap[w0.heap.size]? = some (.cells (cmCells 0 0 0 0 0 0 0) 32 (0, 0))
  below : Below w0.heap.size w0 w
  n1 : bw ≠ bc
  n4 : w0.heap.size < bw
  n5 : w0.heap.size < bc
theorem Inv.ok {w0 w : World} {bw bc : Nat} {st : St} {i k s t d p q : Int} (h : Inv w0 bw bc st i k s t d p q w) : Okw w := h.ok0.on h.below
theorem Inv.took {w0 w w' : World} {bw bc : Nat} {st st' : St} {i k s t d p q : Int} (h : Inv w0 bw bc st i k s t d p q w) (hg : w.grownBy w' (some bw)) (hw : WordsAt w' bw st'.1 st'.2) : Inv w0 bw bc st' i k s t d p q w' where
  ok0 := h.ok0
  words := hw
  cb := by rw [hg.block bc (Array.getElem?_eq_some_iff.1 h.cb).1 (by simpa using h.n1.symm)]; exact h.cb
  rb := by rw [hg.block _ (Array.getElem?_eq_some_iff.1 h.rb).1 (by have := h.n4; simp; omega)]; exact h.rb
  below := h.below.grown hg h.below.size (fun j hj => by cases hj; exact Nat.le_of_lt h.n4)
  n1 := h.n1
  n4 := h.n4
  n5 := h.n5
theorem Inv.on {w0 w w' : World} {bw bc : Nat} {st : St} {i k s t d p q : Int} (h : Inv w0 bw bc st i k s t d p q w) (hb : Below w.heap.size w w') : Inv w0 bw bc st i k s t d p q w' where
  ok0 := h.ok0
  words := h.words.kept hb
  cb := by rw [hb.block bc (Array.getElem?_eq_some_iff.1 h.cb).1]; exact h.cb
  rb := by rw [hb.block _ (Array.getElem?_eq_some_iff.1 h.rb).1]; exact h.rb
  below := h.below.trans (hb.mono h.below.size)
  n1 := h.n1
  n4 := h.n4
  n5 := h.n5
theorem int_cells {i k s t d p q : Int} {o : Nat} {x : List UInt8} : (cmCells i k s t d p q)[o]? ≠ some (str x) := by
  intro e
  have : o < 7 := (Array.getElem?_eq_some_iff.1 e).1
  rcases (by omega : o = 0 ∨ o = 1 ∨ o = 2 ∨ o = 3 ∨ o = 4 ∨ o = 5 ∨ o = 6) with rfl | rfl | rfl | rfl | rfl | rfl | rfl <;> simp at e
theorem Inv.store {w0 w : World} {bw bc : Nat} {st : St} {i k s t d p q i' k' s' t' d' p' q' : Int} {o : Nat} {v : Value} (h : Inv w0 bw bc st i k s t d p q w)
    (hv : (cmCells i k s t d p q).setIfInBounds o v = cmCells i' k' s' t' d' p' q') : Inv w0 bw bc st i' k' s' t' d' p' q' (w.setCell ⟨bc, o, none⟩ v) where
  ok0 := h.ok0
  words := by
    obtain ⟨b, o', cap, hh, hl, hc, hne, hs⟩ := h.words
    refine ⟨b, o', cap, by rw [Below.heap_setCell _ _ _ _ h.n1]; exact hh, hl, hc, hne, fun j x hx => ?_⟩
    have hcx := hs j x hx
    have hb : b ≠ bc := by
      rintro rfl
      rw [(cells_at h.cb).1] at hcx
      exact int_cells hcx
    rw [World.cell?_of_block (w := w) (a := ⟨b, o' + j, none⟩) (Below.heap_setCell _ _ _ _ hb)]
    exact hcx
  cb := by rw [heap_setCell_same h.cb, hv]
  rb := by rw [Below.heap_setCell _ _ _ _ (by have := h.n5; simp; omega)]; exact h.rb
  below := h.below.setCell (Nat.le_of_lt h.n5) v
  n1 := h.n1
  n4 := h.n4
  n5 := h.n5
theorem Inv.cell {w0 w : World} {bw bc : Nat} {st : St} {i k s t d p q : Int} (h : Inv w0 bw bc st i k s t d p q w) : (∀ o, w.cell? ⟨bc, o, none⟩ = (cmCells i k s t d p q)[o]?) ∧ (∀ o, o < 7 → w.frozen? ⟨bc, o, none⟩ = false) :=
  ⟨(cells_at h.cb).1, fun o ho => (cells_at h.cb).2 o (by simp [ho])⟩
/-- The parts, in a block of their own. -/
def PartsAt (w : World) (bp : Nat) (a b c d : Bool) : Prop := w.heap[bp]? = some (.cells #[.bool a, .bool b, .bool c, .bool d] 48 (0, 0))
theorem PartsAt.cell {w : World} {bp : Nat} {a b c d : Bool} (h : PartsAt w bp a b c d) : ∀ o, w.cell? ⟨bp, o, none⟩ = (#[.bool a, .bool b, .bool c, .bool d] : Array Value)[o]? := (cells_at h).1
theorem PartsAt.took {w w' : World} {bp bw : Nat} {a b c d : Bool} (h : PartsAt w bp a b c d) (hg : w.grownBy w' (some bw)) (hne : bp ≠ bw) : PartsAt w' bp a b c d := by
  unfold PartsAt at *
  rw [hg.block bp (Array.getElem?_eq_some_iff.1 h).1 (by simpa using hne)]; exact h
theorem PartsAt.store {w : World} {bp bc o : Nat} {v : Value} {a b c d : Bool} (h : PartsAt w bp a b c d) (hne : bp ≠ bc) : PartsAt (w.setCell ⟨bc, o, none⟩ v) bp a b c d := by
  unfold PartsAt at *
  rw [Below.heap_setCell _ _ _ _ hne]; exact h

theorem ha_new (w : World) (o : Obj) (n : Nat) (h : n = w.heap.size) : (w.alloc o).heap[n]? = some o := by subst h; exact (MapKept.heap_alloc w o).1
theorem Inv.start (w : World) (ok : Okw w) (l : List UInt8) (cs : Array Value) (h1 : (spl 6 l).length ≤ cs.size) (h2 : cs.size ≤ 7)
    (h3 : Strs ((w.alloc (.cells (cmCells 0 0 0 0 0 0 0) 32)).alloc (.cells cs 9)) (w.heap.size + 1) 0 (spl 6 l)) :
    Inv w (w.heap.size + 2) (w.heap.size + 3) (spl 6 l, false) 0 0 0 0 0 0 0 ((((w.alloc (.cells (cmCells 0 0 0 0 0 0 0) 32)).alloc (.cells cs 9)).alloc (.cells #[.slice (some ⟨w.heap.size + 1, 0, none⟩) (spl 6 l).length cs.size, .bool false] 55)).alloc (.cells (cmCells 0 0 0 0 0 0 0) 32)) where
  ok0 := ok
  words := by
    refine ⟨w.heap.size + 1, 0, cs.size, ?_, h1, by omega, by omega, fun j x hx => ?_⟩
    · rw [Below.heap_alloc _ _ _ (by simp)]
      exact ha_new _ _ _ (by simp)
    · have := h3 j x hx
      rw [← this]
      apply World.cell?_of_block
      show ((((w.alloc _).alloc _).alloc _).alloc _).heap[w.heap.size + 1]? = _
      rw [Below.heap_alloc _ _ _ (by simp; try omega), Below.heap_alloc _ _ _ (by simp; try omega)]
  cb := ha_new _ _ _ (by simp)
  rb := by
    rw [Below.heap_alloc _ _ _ (by simp; try omega), Below.heap_alloc _ _ _ (by simp; try omega), Below.heap_alloc _ _ _ (by simp; try omega)]
    exact ha_new _ _ _ rfl
  below := ((((Below.refl w.heap.size w).alloc (Nat.le_refl _) _).alloc (by simp) _).alloc (by simp; try omega) _).alloc (by simp; try omega) _
  n1 := by omega
  n4 := by omega
  n5 := by omega

theorem cells_free {w : World} {b : Nat} {xs : Array Value} {T : TypeId} (h : w.heap[b]? = some (.cells xs T (0, 0))) : ∀ o, w.frozen? ⟨b, o, none⟩ = false := fun o => by simp [World.frozen?, h]
def Has (w : World) (b : Nat) : Prop := ∃ xs T, w.heap[b]? = some (.cells xs T (0, 0)) ∧ xs.size = 7
theorem Has.set {w : World} {b c o : Nat} {v : Value} (h : Has w b) : Has (w.setCell ⟨c, o, none⟩ v) b := by
  obtain ⟨xs, T, h, h7⟩ := h
  by_cases e : b = c
  · subst e; exact ⟨_, T, heap_setCell_same h v, by simp [h7]⟩
  · exact ⟨xs, T, by rw [Below.heap_setCell _ _ _ _ e]; exact h, h7⟩
theorem Has.self {w : World} {b o : Nat} {v : Value} (h : Has w b) (ho : o < 7) : (w.setCell ⟨b, o, none⟩ v).cell? ⟨b, o, none⟩ = some v := by
  obtain ⟨xs, T, h, h7⟩ := h
  have := heap_setCell_same (o := o) h v
  simp [World.cell?, this, h7, ho]
theorem Has.all {w : World} {b : Nat} (h : Has w b) : (∀ v0, Has (w.setCell ⟨b, 0, none⟩ v0) b) ∧ (∀ v0 v1, Has ((w.setCell ⟨b, 0, none⟩ v0).setCell ⟨b, 1, none⟩ v1) b) ∧ (∀ v0 v1 v2, Has (((w.setCell ⟨b, 0, none⟩ v0).setCell ⟨b, 1, none⟩ v1).setCell ⟨b, 2, none⟩ v2) b) ∧ (∀ v0 v1 v2 v3, Has ((((w.setCell ⟨b, 0, none⟩ v0).setCell ⟨b, 1, none⟩ v1).setCell ⟨b, 2, none⟩ v2).setCell ⟨b, 3, none⟩ v3) b) ∧ (∀ v0 v1 v2 v3 v4, Has (((((w.setCell ⟨b, 0, none⟩ v0).setCell ⟨b, 1, none⟩ v1).setCell ⟨b, 2, none⟩ v2).setCell ⟨b, 3, none⟩ v3).setCell ⟨b, 4, none⟩ v4) b) ∧ (∀ v0 v1 v2 v3 v4 v5, Has ((((((w.setCell ⟨b, 0, none⟩ v0).setCell ⟨b, 1, none⟩ v1).setCell ⟨b, 2, none⟩ v2).setCell ⟨b, 3, none⟩ v3).setCell ⟨b, 4, none⟩ v4).setCell ⟨b, 5, none⟩ v5) b) :=
  ⟨fun _ => h.set, fun _ _ => h.set.set, fun _ _ _ => h.set.set.set, fun _ _ _ _ => h.set.set.set.set, fun _ _ _ _ _ => h.set.set.set.set.set, fun _ _ _ _ _ _ => h.set.set.set.set.set.set⟩
/-- What Parse tells of what it has read. -/
def Fin (st : St) (c : Cm) : Cm × Int := if st.2 = true ∨ st.1 ≠ [] ∨ c.ok = false then (Cm.zero, 2) else (c, 0)
abbrev cmOf (c : Cm) : Value := cmV c.i c.k c.s c.t c.d c.p c.q
def ParseEnd (st : St) (c : Cm) (w : World) (e : Ending) (w' : World) : Prop := e = .returned (.tuple #[cmOf (Fin st c).1, .int .i64 (Fin st c).2]) ∧ Below w.heap.size w w'
theorem end_no {st : St} {c : Cm} {w w' : World} (h : st.2 = true ∨ st.1 ≠ [] ∨ c.ok = false) (hb : Below w.heap.size w w') : ParseEnd st c w (.returned (.tuple #[.agg (cmCells 0 0 0 0 0 0 0), .int .i64 2])) w' := by
  unfold ParseEnd Fin; rw [if_pos h]; exact ⟨rfl, hb⟩
theorem end_yes {st : St} {c : Cm} {w w' : World} (h1 : st.2 = false) (h2 : st.1 = []) (h3 : c.ok = true) (hb : Below w.heap.size w w') : ParseEnd st c w (.returned (.tuple #[.agg (cmCells c.i c.k c.s c.t c.d c.p c.q), .int .i64 0])) w' := by
  unfold ParseEnd Fin; rw [if_neg (by simp [h1, h2, h3])]; exact ⟨rfl, hb⟩

set_option maxHeartbeats 1000000 in
set_option maxRecDepth 100000 in
theorem cParse0 (s : ByteArray) (hs : s.size ≤ 1000) (w : World) (ok : Okw w) (st0 : St) (e0 : Hid (st0 = (spl 6 s.data.toList, false))) (hK : Hid (St.gives kindW (St.takes numW st0) = 0)) (hs0 : Short st0) :
    Calls Tryd.prog 16 #[.string s] w (ParseEnd (readPlace (St.gives numW st0) (St.gives numW (St.takes kindW (St.takes numW st0))) (St.takes numW (St.takes kindW (St.takes numW st0)))).2 (readPlace (St.gives numW st0) (St.gives numW (St.takes kindW (St.takes numW st0))) (St.takes numW (St.takes kindW (St.takes numW st0)))).1 w) := by
  have ok1 := ok.on ((Below.refl w.heap.size w).alloc (Nat.le_refl _) (.cells (cmCells 0 0 0 0 0 0 0) 32))
  go_enter Tryd.func16, Tryd.ntmps16
  go_wp2_with (go_at_call 27; refine (cSplit _ hs _ ok1).mono ?_; rintro e w1 ⟨cs, rfl, rfl, h1, h2, h3⟩; have J0 := Inv.start w ok _ cs h1 h2 (by simpa using h3); clear h3 h1 h2)
  rw [← e0.out] at J0
  clear ok1
  refine (sNumber _ st0 _ J0.ok J0.words hs0).mono ?_
  rintro e w1 ⟨he, t1, g1⟩
  subst he
  have I1 := J0.took (st' := St.takes numW st0) g1 t1
  have hs1 := hs0.takes numW
  clear t1 g1 J0
  obtain ⟨c1, f1⟩ := I1.cell
  have f1' := f1 0 (by decide)
  clear f1
  have J1 := I1.store (o := 0) (v := .int .i64 (St.gives numW st0)) rfl
  clear I1
  go_wp2_with fail
  clear c1 f1'
  refine (sKind _ (St.takes numW st0) _ J1.words hs1).mono ?_
  rintro e w2 ⟨he, t2, g2⟩
  rw [hK.out] at he
  subst he
  have I2 := J1.took (st' := St.takes kindW (St.takes numW st0)) g2 t2
  have hs2 := hs1.takes kindW
  clear t2 g2 J1
  obtain ⟨c2, f2⟩ := I2.cell
  have f2' := f2 1 (by decide)
  clear f2
  have J2 := I2.store (o := 1) (v := .int .i64 0) rfl
  clear I2
  go_wp2_with fail
  clear c2 f2'
  refine (sNumber _ (St.takes kindW (St.takes numW st0)) _ J2.ok J2.words hs2).mono ?_
  rintro e w3 ⟨he, t3, g3⟩
  subst he
  have I3 := J2.took (st' := St.takes numW (St.takes kindW (St.takes numW st0))) g3 t3
  have hs3 := hs2.takes numW
  clear t3 g3 J2
  obtain ⟨c3, f3⟩ := I3.cell
  have f3' := f3 2 (by decide)
  clear f3
  have J3 := I3.store (o := 2) (v := .int .i64 (St.gives numW (St.takes kindW (St.takes numW st0)))) rfl
  clear I3
  go_wp2_with fail
  clear c3 f3'
  refine (cParts0 _).mono ?_
  rintro e w4 ⟨rfl, hb⟩
  have I4 := J3.on hb
  have hs4 := hs3
  clear J3 hb hs3
  have hwl := I4.words.lt
  have hcl := (Array.getElem?_eq_some_iff.1 I4.cb).1
  have P4 : PartsAt (w4.alloc (.cells #[.bool false, .bool true, .bool true, .bool true] 48)) w4.heap.size false true true true := ha_new _ _ _ rfl
  have hpw : w4.heap.size ≠ w.heap.size + 2 := by omega
  have hpc : w4.heap.size ≠ w.heap.size + 3 := by omega
  have J4 := I4.on ((Below.refl _ _).alloc (Nat.le_refl _) (.cells #[.bool false, .bool true, .bool true, .bool true] 48))
  clear I4 hwl hcl
  go_wp2_with fail
  refine (sSide _ (St.takes numW (St.takes kindW (St.takes numW st0))) _ J4.words).mono ?_
  rintro e w5 ⟨he, t5, g5⟩
  subst he
  have I5 := J4.took (st' := St.takes sideW (St.takes numW (St.takes kindW (St.takes numW st0)))) g5 t5
  have hs5 := hs4.takes sideW
  have P5 := P4.took g5 hpw
  have q5 := P5.cell
  clear t5 g5 J4 P4
  obtain ⟨c5, f5⟩ := I5.cell
  have f5' := f5 4 (by decide)
  clear f5
  have J5 := I5.store (o := 4) (v := .int .i64 (St.gives sideW (St.takes numW (St.takes kindW (St.takes numW st0))))) rfl
  have P5' := P5.store (bc := w.heap.size + 3) (o := 4) (v := .int .i64 (St.gives sideW (St.takes numW (St.takes kindW (St.takes numW st0))))) hpc
  clear I5 P5
  have P5 := P5'
  clear P5'
  go_wp2_with fail
  clear c5 f5' q5
  refine (sNumber _ (St.takes sideW (St.takes numW (St.takes kindW (St.takes numW st0)))) _ J5.ok J5.words hs5).mono ?_
  rintro e w6 ⟨he, t6, g6⟩
  subst he
  have I6 := J5.took (st' := St.takes numW (St.takes sideW (St.takes numW (St.takes kindW (St.takes numW st0))))) g6 t6
  have hs6 := hs5.takes numW
  have P6 := P5.took g6 hpw
  have q6 := P6.cell
  clear t6 g6 J5 P5
  obtain ⟨c6, f6⟩ := I6.cell
  have f6' := f6 5 (by decide)
  clear f6
  have J6 := I6.store (o := 5) (v := .int .i64 (St.gives numW (St.takes sideW (St.takes numW (St.takes kindW (St.takes numW st0)))))) rfl
  have P6' := P6.store (bc := w.heap.size + 3) (o := 5) (v := .int .i64 (St.gives numW (St.takes sideW (St.takes numW (St.takes kindW (St.takes numW st0)))))) hpc
  clear I6 P6
  have P6 := P6'
  clear P6'
  go_wp2_with fail
  clear c6 f6' q6
  refine (sNumber _ (St.takes numW (St.takes sideW (St.takes numW (St.takes kindW (St.takes numW st0))))) _ J6.ok J6.words hs6).mono ?_
  rintro e w7 ⟨he, t7, g7⟩
  subst he
  have I7 := J6.took (st' := St.takes numW (St.takes numW (St.takes sideW (St.takes numW (St.takes kindW (St.takes numW st0)))))) g7 t7
  have hs7 := hs6.takes numW
  have P7 := P6.took g7 hpw
  have q7 := P7.cell
  clear t7 g7 J6 P6
  obtain ⟨c7, f7⟩ := I7.cell
  have f7' := f7 6 (by decide)
  clear f7
  have J7 := I7.store (o := 6) (v := .int .i64 (St.gives numW (St.takes numW (St.takes sideW (St.takes numW (St.takes kindW (St.takes numW st0))))))) rfl
  have P7' := P7.store (bc := w.heap.size + 3) (o := 6) (v := .int .i64 (St.gives numW (St.takes numW (St.takes sideW (St.takes numW (St.takes kindW (St.takes numW st0))))))) hpc
  obtain ⟨b, o, cap, hh, _, _, _, _⟩ := I7.words
  have hw := (cells_at hh).1
  clear hh
  have hB := I7.below
  have hr := (cells_at I7.rb).1
  have hr0 := cells_free I7.rb
  have hz := hid (Nat.lt_trans I7.n5 (Array.getElem?_eq_some_iff.1 I7.cb).1)
  have hs9 := hid hs7
  have hJ := hid J7
  clear I7 J7 P7 P7' hs7
  generalize he : (St.takes numW (St.takes numW (St.takes sideW (St.takes numW (St.takes kindW (St.takes numW st0)))))) = stf at hw
  have hE := hid he
  clear he
  have hM := fun W => cMayBe (St.gives numW st0) 0 (St.gives numW (St.takes kindW (St.takes numW st0))) 0 (St.gives sideW (St.takes numW (St.takes kindW (St.takes numW st0)))) (St.gives numW (St.takes sideW (St.takes numW (St.takes kindW (St.takes numW st0))))) (St.gives numW (St.takes numW (St.takes sideW (St.takes numW (St.takes kindW (St.takes numW st0)))))) W
  rcases hg : stf.2 with _ | _
  · rw [hg] at hw
    by_cases hn : stf.1 = []
    · rw [hn] at hw
      rcases hm : oneB (St.gives numW st0) 0 (St.gives numW (St.takes kindW (St.takes numW st0))) 0 (St.gives sideW (St.takes numW (St.takes kindW (St.takes numW st0)))) (St.gives numW (St.takes sideW (St.takes numW (St.takes kindW (St.takes numW st0))))) (St.gives numW (St.takes numW (St.takes sideW (St.takes numW (St.takes kindW (St.takes numW st0)))))) with _ | _
      · rw [hm] at hM
        go_wp2_with (go_at_call 19; refine (hM _).mono ?_; rintro e w9 ⟨rfl, hb⟩; have J9 := hJ.out.on hb; have r9 := (cells_at J9.rb).1; have r0 := cells_free J9.rb; have B9 := J9.below; have S9 : Has w9 w.heap.size := ⟨_, _, J9.rb, rfl⟩; obtain ⟨X0, X1, X2, X3, X4, X5⟩ := S9.all; clear J9 hb)
        refine bodyPost_ret (v := .tuple #[.agg (cmCells 0 0 0 0 0 0 0), .int .i64 2]) (by simp [results, Tryd.results16, go_sem, Has.self, S9, X0, X1, X2, X3, X4, X5]) rfl ?_
        refine end_no (Or.inr (Or.inr hm)) ?_
        exact ((((((B9.setCell (by simp) _).setCell (by simp) _).setCell (by simp) _).setCell (by simp) _).setCell (by simp) _).setCell (by simp) _).setCell (by simp) _
      · rw [hm] at hM
        go_wp2_with (go_at_call 19; refine (hM _).mono ?_; rintro e w9 ⟨rfl, hb⟩; have J9 := hJ.out.on hb; have r9 := (cells_at J9.rb).1; have r0 := cells_free J9.rb; have B9 := J9.below; have c9 := (cells_at J9.cb).1; have S9 : Has w9 w.heap.size := ⟨_, _, J9.rb, rfl⟩; obtain ⟨X0, X1, X2, X3, X4, X5⟩ := S9.all; clear J9 hb)
        refine bodyPost_ret (v := .tuple #[.agg (cmCells (St.gives numW st0) 0 (St.gives numW (St.takes kindW (St.takes numW st0))) 0 (St.gives sideW (St.takes numW (St.takes kindW (St.takes numW st0)))) (St.gives numW (St.takes sideW (St.takes numW (St.takes kindW (St.takes numW st0))))) (St.gives numW (St.takes numW (St.takes sideW (St.takes numW (St.takes kindW (St.takes numW st0))))))), .int .i64 0]) (by simp [results, Tryd.results16, go_sem, Has.self, S9, X0, X1, X2, X3, X4, X5]) rfl ?_
        rw [← hE.out] at hg hn
        refine end_yes (c := ⟨St.gives numW st0, 0, St.gives numW (St.takes kindW (St.takes numW st0)), 0, St.gives sideW (St.takes numW (St.takes kindW (St.takes numW st0))), St.gives numW (St.takes sideW (St.takes numW (St.takes kindW (St.takes numW st0)))), St.gives numW (St.takes numW (St.takes sideW (St.takes numW (St.takes kindW (St.takes numW st0)))))⟩) hg hn hm ?_
        exact ((((((B9.setCell (by simp) _).setCell (by simp) _).setCell (by simp) _).setCell (by simp) _).setCell (by simp) _).setCell (by simp) _).setCell (by simp) _
    · have hn' : 0 < stf.1.length := List.length_pos_iff.2 hn
      have hN := hid hn
      clear hn
      have S9 : Has _ w.heap.size := ⟨_, _, hJ.out.rb, rfl⟩
      obtain ⟨X0, X1, X2, X3, X4, X5⟩ := S9.all
      go_wp2_with fail
      refine bodyPost_ret (v := .tuple #[.agg (cmCells 0 0 0 0 0 0 0), .int .i64 2]) (by simp [results, Tryd.results16, go_sem, Has.self, S9, X0, X1, X2, X3, X4, X5]) rfl ?_
      have hn := hN.out
      rw [← hE.out] at hn
      refine end_no (Or.inr (Or.inl hn)) ?_
      exact (((((((hJ.out.below).setCell (by simp) _).setCell (by simp) _).setCell (by simp) _).setCell (by simp) _).setCell (by simp) _).setCell (by simp) _).setCell (by simp) _
  · rw [hg] at hw
    have S9 : Has _ w.heap.size := ⟨_, _, hJ.out.rb, rfl⟩
    obtain ⟨X0, X1, X2, X3, X4, X5⟩ := S9.all
    go_wp2_with fail
    refine bodyPost_ret (v := .tuple #[.agg (cmCells 0 0 0 0 0 0 0), .int .i64 2]) (by simp [results, Tryd.results16, go_sem, Has.self, S9, X0, X1, X2, X3, X4, X5]) rfl ?_
    rw [← hE.out] at hg
    refine end_no (Or.inl hg) ?_
    exact (((((((hJ.out.below).setCell (by simp) _).setCell (by simp) _).setCell (by simp) _).setCell (by simp) _).setCell (by simp) _).setCell (by simp) _).setCell (by simp) _

set_option maxHeartbeats 1000000 in
set_option maxRecDepth 100000 in
theorem cParse1 (s : ByteArray) (hs : s.size ≤ 1000) (w : World) (ok : Okw w) (st0 : St) (e0 : Hid (st0 = (spl 6 s.data.toList, false))) (hK : Hid (St.gives kindW (St.takes numW st0) = 1)) (hs0 : Short st0) :
    Calls Tryd.prog 16 #[.string s] w (ParseEnd (readCancel (St.gives numW st0) (St.gives numW (St.takes kindW (St.takes numW st0))) (St.takes numW (St.takes kindW (St.takes numW st0)))).2 (readCancel (St.gives numW st0) (St.gives numW (St.takes kindW (St.takes numW st0))) (St.takes numW (St.takes kindW (St.takes numW st0)))).1 w) := by
  have ok1 := ok.on ((Below.refl w.heap.size w).alloc (Nat.le_refl _) (.cells (cmCells 0 0 0 0 0 0 0) 32))
  go_enter Tryd.func16, Tryd.ntmps16
  go_wp2_with (go_at_call 27; refine (cSplit _ hs _ ok1).mono ?_; rintro e w1 ⟨cs, rfl, rfl, h1, h2, h3⟩; have J0 := Inv.start w ok _ cs h1 h2 (by simpa using h3); clear h3 h1 h2)
  rw [← e0.out] at J0
  clear ok1
  refine (sNumber _ st0 _ J0.ok J0.words hs0).mono ?_
  rintro e w1 ⟨he, t1, g1⟩
  subst he
  have I1 := J0.took (st' := St.takes numW st0) g1 t1
  have hs1 := hs0.takes numW
  clear t1 g1 J0
  obtain ⟨c1, f1⟩ := I1.cell
  have f1' := f1 0 (by decide)
  clear f1
  have J1 := I1.store (o := 0) (v := .int .i64 (St.gives numW st0)) rfl
  clear I1
  go_wp2_with fail
  clear c1 f1'
  refine (sKind _ (St.takes numW st0) _ J1.words hs1).mono ?_
  rintro e w2 ⟨he, t2, g2⟩
  rw [hK.out] at he
  subst he
  have I2 := J1.took (st' := St.takes kindW (St.takes numW st0)) g2 t2
  have hs2 := hs1.takes kindW
  clear t2 g2 J1
  obtain ⟨c2, f2⟩ := I2.cell
  have f2' := f2 1 (by decide)
  clear f2
  have J2 := I2.store (o := 1) (v := .int .i64 1) rfl
  clear I2
  go_wp2_with fail
  clear c2 f2'
  refine (sNumber _ (St.takes kindW (St.takes numW st0)) _ J2.ok J2.words hs2).mono ?_
  rintro e w3 ⟨he, t3, g3⟩
  subst he
  have I3 := J2.took (st' := St.takes numW (St.takes kindW (St.takes numW st0))) g3 t3
  have hs3 := hs2.takes numW
  clear t3 g3 J2
  obtain ⟨c3, f3⟩ := I3.cell
  have f3' := f3 2 (by decide)
  clear f3
  have J3 := I3.store (o := 2) (v := .int .i64 (St.gives numW (St.takes kindW (St.takes numW st0)))) rfl
  clear I3
  go_wp2_with fail
  clear c3 f3'
  refine (cParts1 _).mono ?_
  rintro e w4 ⟨rfl, hb⟩
  have I4 := J3.on hb
  have hs4 := hs3
  clear J3 hb hs3
  have hwl := I4.words.lt
  have hcl := (Array.getElem?_eq_some_iff.1 I4.cb).1
  have P4 : PartsAt (w4.alloc (.cells #[.bool true, .bool false, .bool false, .bool false] 48)) w4.heap.size true false false false := ha_new _ _ _ rfl
  have hpw : w4.heap.size ≠ w.heap.size + 2 := by omega
  have hpc : w4.heap.size ≠ w.heap.size + 3 := by omega
  have J4 := I4.on ((Below.refl _ _).alloc (Nat.le_refl _) (.cells #[.bool true, .bool false, .bool false, .bool false] 48))
  clear I4 hwl hcl
  go_wp2_with fail
  refine (sNumber _ (St.takes numW (St.takes kindW (St.takes numW st0))) _ J4.ok J4.words hs4).mono ?_
  rintro e w5 ⟨he, t5, g5⟩
  subst he
  have I5 := J4.took (st' := St.takes numW (St.takes numW (St.takes kindW (St.takes numW st0)))) g5 t5
  have hs5 := hs4.takes numW
  have P5 := P4.took g5 hpw
  have q5 := P5.cell
  clear t5 g5 J4 P4
  obtain ⟨c5, f5⟩ := I5.cell
  have f5' := f5 3 (by decide)
  clear f5
  have J5 := I5.store (o := 3) (v := .int .i64 (St.gives numW (St.takes numW (St.takes kindW (St.takes numW st0))))) rfl
  have P5' := P5.store (bc := w.heap.size + 3) (o := 3) (v := .int .i64 (St.gives numW (St.takes numW (St.takes kindW (St.takes numW st0))))) hpc
  obtain ⟨b, o, cap, hh, _, _, _, _⟩ := I5.words
  have hw := (cells_at hh).1
  clear hh
  have hB := I5.below
  have hr := (cells_at I5.rb).1
  have hr0 := cells_free I5.rb
  have hz := hid (Nat.lt_trans I5.n5 (Array.getElem?_eq_some_iff.1 I5.cb).1)
  have hs9 := hid hs5
  have hJ := hid J5
  clear I5 J5 P5 P5' hs5
  generalize he : (St.takes numW (St.takes numW (St.takes kindW (St.takes numW st0)))) = stf at hw
  have hE := hid he
  clear he
  have hM := fun W => cMayBe (St.gives numW st0) 1 (St.gives numW (St.takes kindW (St.takes numW st0))) (St.gives numW (St.takes numW (St.takes kindW (St.takes numW st0)))) 0 0 0 W
  rcases hg : stf.2 with _ | _
  · rw [hg] at hw
    by_cases hn : stf.1 = []
    · rw [hn] at hw
      rcases hm : oneB (St.gives numW st0) 1 (St.gives numW (St.takes kindW (St.takes numW st0))) (St.gives numW (St.takes numW (St.takes kindW (St.takes numW st0)))) 0 0 0 with _ | _
      · rw [hm] at hM
        go_wp2_with (go_at_call 19; refine (hM _).mono ?_; rintro e w9 ⟨rfl, hb⟩; have J9 := hJ.out.on hb; have r9 := (cells_at J9.rb).1; have r0 := cells_free J9.rb; have B9 := J9.below; have S9 : Has w9 w.heap.size := ⟨_, _, J9.rb, rfl⟩; obtain ⟨X0, X1, X2, X3, X4, X5⟩ := S9.all; clear J9 hb)
        refine bodyPost_ret (v := .tuple #[.agg (cmCells 0 0 0 0 0 0 0), .int .i64 2]) (by simp [results, Tryd.results16, go_sem, Has.self, S9, X0, X1, X2, X3, X4, X5]) rfl ?_
        refine end_no (Or.inr (Or.inr hm)) ?_
        exact ((((((B9.setCell (by simp) _).setCell (by simp) _).setCell (by simp) _).setCell (by simp) _).setCell (by simp) _).setCell (by simp) _).setCell (by simp) _
      · rw [hm] at hM
        go_wp2_with (go_at_call 19; refine (hM _).mono ?_; rintro e w9 ⟨rfl, hb⟩; have J9 := hJ.out.on hb; have r9 := (cells_at J9.rb).1; have r0 := cells_free J9.rb; have B9 := J9.below; have c9 := (cells_at J9.cb).1; have S9 : Has w9 w.heap.size := ⟨_, _, J9.rb, rfl⟩; obtain ⟨X0, X1, X2, X3, X4, X5⟩ := S9.all; clear J9 hb)
        refine bodyPost_ret (v := .tuple #[.agg (cmCells (St.gives numW st0) 1 (St.gives numW (St.takes kindW (St.takes numW st0))) (St.gives numW (St.takes numW (St.takes kindW (St.takes numW st0)))) 0 0 0), .int .i64 0]) (by simp [results, Tryd.results16, go_sem, Has.self, S9, X0, X1, X2, X3, X4, X5]) rfl ?_
        rw [← hE.out] at hg hn
        refine end_yes (c := ⟨St.gives numW st0, 1, St.gives numW (St.takes kindW (St.takes numW st0)), (St.gives numW (St.takes numW (St.takes kindW (St.takes numW st0)))), 0, 0, 0⟩) hg hn hm ?_
        exact ((((((B9.setCell (by simp) _).setCell (by simp) _).setCell (by simp) _).setCell (by simp) _).setCell (by simp) _).setCell (by simp) _).setCell (by simp) _
    · have hn' : 0 < stf.1.length := List.length_pos_iff.2 hn
      have hN := hid hn
      clear hn
      have S9 : Has _ w.heap.size := ⟨_, _, hJ.out.rb, rfl⟩
      obtain ⟨X0, X1, X2, X3, X4, X5⟩ := S9.all
      go_wp2_with fail
      refine bodyPost_ret (v := .tuple #[.agg (cmCells 0 0 0 0 0 0 0), .int .i64 2]) (by simp [results, Tryd.results16, go_sem, Has.self, S9, X0, X1, X2, X3, X4, X5]) rfl ?_
      have hn := hN.out
      rw [← hE.out] at hn
      refine end_no (Or.inr (Or.inl hn)) ?_
      exact (((((((hJ.out.below).setCell (by simp) _).setCell (by simp) _).setCell (by simp) _).setCell (by simp) _).setCell (by simp) _).setCell (by simp) _).setCell (by simp) _
  · rw [hg] at hw
    have S9 : Has _ w.heap.size := ⟨_, _, hJ.out.rb, rfl⟩
    obtain ⟨X0, X1, X2, X3, X4, X5⟩ := S9.all
    go_wp2_with fail
    refine bodyPost_ret (v := .tuple #[.agg (cmCells 0 0 0 0 0 0 0), .int .i64 2]) (by simp [results, Tryd.results16, go_sem, Has.self, S9, X0, X1, X2, X3, X4, X5]) rfl ?_
    rw [← hE.out] at hg
    refine end_no (Or.inl hg) ?_
    exact (((((((hJ.out.below).setCell (by simp) _).setCell (by simp) _).setCell (by simp) _).setCell (by simp) _).setCell (by simp) _).setCell (by simp) _).setCell (by simp) _

set_option maxHeartbeats 1000000 in
set_option maxRecDepth 100000 in
theorem cParse2 (s : ByteArray) (hs : s.size ≤ 1000) (w : World) (ok : Okw w) (st0 : St) (e0 : Hid (st0 = (spl 6 s.data.toList, false))) (hK : Hid (St.gives kindW (St.takes numW st0) = 2)) (hs0 : Short st0) :
    Calls Tryd.prog 16 #[.string s] w (ParseEnd (readAmend (St.gives numW st0) (St.gives numW (St.takes kindW (St.takes numW st0))) (St.takes numW (St.takes kindW (St.takes numW st0)))).2 (readAmend (St.gives numW st0) (St.gives numW (St.takes kindW (St.takes numW st0))) (St.takes numW (St.takes kindW (St.takes numW st0)))).1 w) := by
  have ok1 := ok.on ((Below.refl w.heap.size w).alloc (Nat.le_refl _) (.cells (cmCells 0 0 0 0 0 0 0) 32))
  go_enter Tryd.func16, Tryd.ntmps16
  go_wp2_with (go_at_call 27; refine (cSplit _ hs _ ok1).mono ?_; rintro e w1 ⟨cs, rfl, rfl, h1, h2, h3⟩; have J0 := Inv.start w ok _ cs h1 h2 (by simpa using h3); clear h3 h1 h2)
  rw [← e0.out] at J0
  clear ok1
  refine (sNumber _ st0 _ J0.ok J0.words hs0).mono ?_
  rintro e w1 ⟨he, t1, g1⟩
  subst he
  have I1 := J0.took (st' := St.takes numW st0) g1 t1
  have hs1 := hs0.takes numW
  clear t1 g1 J0
  obtain ⟨c1, f1⟩ := I1.cell
  have f1' := f1 0 (by decide)
  clear f1
  have J1 := I1.store (o := 0) (v := .int .i64 (St.gives numW st0)) rfl
  clear I1
  go_wp2_with fail
  clear c1 f1'
  refine (sKind _ (St.takes numW st0) _ J1.words hs1).mono ?_
  rintro e w2 ⟨he, t2, g2⟩
  rw [hK.out] at he
  subst he
  have I2 := J1.took (st' := St.takes kindW (St.takes numW st0)) g2 t2
  have hs2 := hs1.takes kindW
  clear t2 g2 J1
  obtain ⟨c2, f2⟩ := I2.cell
  have f2' := f2 1 (by decide)
  clear f2
  have J2 := I2.store (o := 1) (v := .int .i64 2) rfl
  clear I2
  go_wp2_with fail
  clear c2 f2'
  refine (sNumber _ (St.takes kindW (St.takes numW st0)) _ J2.ok J2.words hs2).mono ?_
  rintro e w3 ⟨he, t3, g3⟩
  subst he
  have I3 := J2.took (st' := St.takes numW (St.takes kindW (St.takes numW st0))) g3 t3
  have hs3 := hs2.takes numW
  clear t3 g3 J2
  obtain ⟨c3, f3⟩ := I3.cell
  have f3' := f3 2 (by decide)
  clear f3
  have J3 := I3.store (o := 2) (v := .int .i64 (St.gives numW (St.takes kindW (St.takes numW st0)))) rfl
  clear I3
  go_wp2_with fail
  clear c3 f3'
  refine (cParts2 _).mono ?_
  rintro e w4 ⟨rfl, hb⟩
  have I4 := J3.on hb
  have hs4 := hs3
  clear J3 hb hs3
  have hwl := I4.words.lt
  have hcl := (Array.getElem?_eq_some_iff.1 I4.cb).1
  have P4 : PartsAt (w4.alloc (.cells #[.bool true, .bool false, .bool false, .bool true] 48)) w4.heap.size true false false true := ha_new _ _ _ rfl
  have hpw : w4.heap.size ≠ w.heap.size + 2 := by omega
  have hpc : w4.heap.size ≠ w.heap.size + 3 := by omega
  have J4 := I4.on ((Below.refl _ _).alloc (Nat.le_refl _) (.cells #[.bool true, .bool false, .bool false, .bool true] 48))
  clear I4 hwl hcl
  go_wp2_with fail
  refine (sNumber _ (St.takes numW (St.takes kindW (St.takes numW st0))) _ J4.ok J4.words hs4).mono ?_
  rintro e w5 ⟨he, t5, g5⟩
  subst he
  have I5 := J4.took (st' := St.takes numW (St.takes numW (St.takes kindW (St.takes numW st0)))) g5 t5
  have hs5 := hs4.takes numW
  have P5 := P4.took g5 hpw
  have q5 := P5.cell
  clear t5 g5 J4 P4
  obtain ⟨c5, f5⟩ := I5.cell
  have f5' := f5 3 (by decide)
  clear f5
  have J5 := I5.store (o := 3) (v := .int .i64 (St.gives numW (St.takes numW (St.takes kindW (St.takes numW st0))))) rfl
  have P5' := P5.store (bc := w.heap.size + 3) (o := 3) (v := .int .i64 (St.gives numW (St.takes numW (St.takes kindW (St.takes numW st0))))) hpc
  clear I5 P5
  have P5 := P5'
  clear P5'
  go_wp2_with fail
  clear c5 f5' q5
  refine (sNumber _ (St.takes numW (St.takes numW (St.takes kindW (St.takes numW st0)))) _ J5.ok J5.words hs5).mono ?_
  rintro e w6 ⟨he, t6, g6⟩
  subst he
  have I6 := J5.took (st' := St.takes numW (St.takes numW (St.takes numW (St.takes kindW (St.takes numW st0))))) g6 t6
  have hs6 := hs5.takes numW
  have P6 := P5.took g6 hpw
  have q6 := P6.cell
  clear t6 g6 J5 P5
  obtain ⟨c6, f6⟩ := I6.cell
  have f6' := f6 6 (by decide)
  clear f6
  have J6 := I6.store (o := 6) (v := .int .i64 (St.gives numW (St.takes numW (St.takes numW (St.takes kindW (St.takes numW st0)))))) rfl
  have P6' := P6.store (bc := w.heap.size + 3) (o := 6) (v := .int .i64 (St.gives numW (St.takes numW (St.takes numW (St.takes kindW (St.takes numW st0)))))) hpc
  obtain ⟨b, o, cap, hh, _, _, _, _⟩ := I6.words
  have hw := (cells_at hh).1
  clear hh
  have hB := I6.below
  have hr := (cells_at I6.rb).1
  have hr0 := cells_free I6.rb
  have hz := hid (Nat.lt_trans I6.n5 (Array.getElem?_eq_some_iff.1 I6.cb).1)
  have hs9 := hid hs6
  have hJ := hid J6
  clear I6 J6 P6 P6' hs6
  generalize he : (St.takes numW (St.takes numW (St.takes numW (St.takes kindW (St.takes numW st0))))) = stf at hw
  have hE := hid he
  clear he
  have hM := fun W => cMayBe (St.gives numW st0) 2 (St.gives numW (St.takes kindW (St.takes numW st0))) (St.gives numW (St.takes numW (St.takes kindW (St.takes numW st0)))) 0 0 (St.gives numW (St.takes numW (St.takes numW (St.takes kindW (St.takes numW st0))))) W
  rcases hg : stf.2 with _ | _
  · rw [hg] at hw
    by_cases hn : stf.1 = []
    · rw [hn] at hw
      rcases hm : oneB (St.gives numW st0) 2 (St.gives numW (St.takes kindW (St.takes numW st0))) (St.gives numW (St.takes numW (St.takes kindW (St.takes numW st0)))) 0 0 (St.gives numW (St.takes numW (St.takes numW (St.takes kindW (St.takes numW st0))))) with _ | _
      · rw [hm] at hM
        go_wp2_with (go_at_call 19; refine (hM _).mono ?_; rintro e w9 ⟨rfl, hb⟩; have J9 := hJ.out.on hb; have r9 := (cells_at J9.rb).1; have r0 := cells_free J9.rb; have B9 := J9.below; have S9 : Has w9 w.heap.size := ⟨_, _, J9.rb, rfl⟩; obtain ⟨X0, X1, X2, X3, X4, X5⟩ := S9.all; clear J9 hb)
        refine bodyPost_ret (v := .tuple #[.agg (cmCells 0 0 0 0 0 0 0), .int .i64 2]) (by simp [results, Tryd.results16, go_sem, Has.self, S9, X0, X1, X2, X3, X4, X5]) rfl ?_
        refine end_no (Or.inr (Or.inr hm)) ?_
        exact ((((((B9.setCell (by simp) _).setCell (by simp) _).setCell (by simp) _).setCell (by simp) _).setCell (by simp) _).setCell (by simp) _).setCell (by simp) _
      · rw [hm] at hM
        go_wp2_with (go_at_call 19; refine (hM _).mono ?_; rintro e w9 ⟨rfl, hb⟩; have J9 := hJ.out.on hb; have r9 := (cells_at J9.rb).1; have r0 := cells_free J9.rb; have B9 := J9.below; have c9 := (cells_at J9.cb).1; have S9 : Has w9 w.heap.size := ⟨_, _, J9.rb, rfl⟩; obtain ⟨X0, X1, X2, X3, X4, X5⟩ := S9.all; clear J9 hb)
        refine bodyPost_ret (v := .tuple #[.agg (cmCells (St.gives numW st0) 2 (St.gives numW (St.takes kindW (St.takes numW st0))) (St.gives numW (St.takes numW (St.takes kindW (St.takes numW st0)))) 0 0 (St.gives numW (St.takes numW (St.takes numW (St.takes kindW (St.takes numW st0)))))), .int .i64 0]) (by simp [results, Tryd.results16, go_sem, Has.self, S9, X0, X1, X2, X3, X4, X5]) rfl ?_
        rw [← hE.out] at hg hn
        refine end_yes (c := ⟨St.gives numW st0, 2, St.gives numW (St.takes kindW (St.takes numW st0)), (St.gives numW (St.takes numW (St.takes kindW (St.takes numW st0)))), 0, 0, St.gives numW (St.takes numW (St.takes numW (St.takes kindW (St.takes numW st0))))⟩) hg hn hm ?_
        exact ((((((B9.setCell (by simp) _).setCell (by simp) _).setCell (by simp) _).setCell (by simp) _).setCell (by simp) _).setCell (by simp) _).setCell (by simp) _
    · have hn' : 0 < stf.1.length := List.length_pos_iff.2 hn
      have hN := hid hn
      clear hn
      have S9 : Has _ w.heap.size := ⟨_, _, hJ.out.rb, rfl⟩
      obtain ⟨X0, X1, X2, X3, X4, X5⟩ := S9.all
      go_wp2_with fail
      refine bodyPost_ret (v := .tuple #[.agg (cmCells 0 0 0 0 0 0 0), .int .i64 2]) (by simp [results, Tryd.results16, go_sem, Has.self, S9, X0, X1, X2, X3, X4, X5]) rfl ?_
      have hn := hN.out
      rw [← hE.out] at hn
      refine end_no (Or.inr (Or.inl hn)) ?_
      exact (((((((hJ.out.below).setCell (by simp) _).setCell (by simp) _).setCell (by simp) _).setCell (by simp) _).setCell (by simp) _).setCell (by simp) _).setCell (by simp) _
  · rw [hg] at hw
    have S9 : Has _ w.heap.size := ⟨_, _, hJ.out.rb, rfl⟩
    obtain ⟨X0, X1, X2, X3, X4, X5⟩ := S9.all
    go_wp2_with fail
    refine bodyPost_ret (v := .tuple #[.agg (cmCells 0 0 0 0 0 0 0), .int .i64 2]) (by simp [results, Tryd.results16, go_sem, Has.self, S9, X0, X1, X2, X3, X4, X5]) rfl ?_
    rw [← hE.out] at hg
    refine end_no (Or.inl hg) ?_
    exact (((((((hJ.out.below).setCell (by simp) _).setCell (by simp) _).setCell (by simp) _).setCell (by simp) _).setCell (by simp) _).setCell (by simp) _).setCell (by simp) _

theorem kind_vals (st : St) : St.gives kindW st = 0 ∨ St.gives kindW st = 1 ∨ St.gives kindW st = 2 := by
  unfold St.gives
  cases hk : kindW (hdW st.1) with
  | none => exact Or.inl rfl
  | some v => rcases kindW_some hk with ⟨rfl, _⟩ | ⟨rfl, _⟩ | ⟨rfl, _⟩ <;> simp [val]
theorem parseF_fin (l : List UInt8) : parseF l = Fin (readCm (spl 6 l, false)).2 (readCm (spl 6 l, false)).1 := rfl
theorem cParse (s : ByteArray) (hs : s.size ≤ 1000) (w : World) (ok : Okw w) :
    Calls Tryd.prog 16 #[.string s] w fun e w' => e = .returned (.tuple #[cmOf (parseF s.data.toList).1, .int .i64 (parseF s.data.toList).2]) ∧ Below w.heap.size w w' := by
  have hsh : Short (spl 6 s.data.toList, false) := fun x hx => by have := spl_short 6 _ x hx; have e : s.size = s.data.toList.length := rfl; omega
  rw [parseF_fin]
  generalize he : ((spl 6 s.data.toList, false) : St) = st0 at hsh ⊢
  rcases kind_vals (St.takes numW st0) with hk | hk | hk
  · have hr : readCm st0 = readPlace (St.gives numW st0) (St.gives numW (St.takes kindW (St.takes numW st0))) (St.takes numW (St.takes kindW (St.takes numW st0))) := by
      unfold readCm; simp only [hk]; rfl
    rw [hr]
    exact cParse0 s hs w ok st0 he.symm hk hsh
  · have hr : readCm st0 = readCancel (St.gives numW st0) (St.gives numW (St.takes kindW (St.takes numW st0))) (St.takes numW (St.takes kindW (St.takes numW st0))) := by
      unfold readCm; simp only [hk]; rfl
    rw [hr]
    exact cParse1 s hs w ok st0 he.symm hk hsh
  · have hr : readCm st0 = readAmend (St.gives numW st0) (St.gives numW (St.takes kindW (St.takes numW st0))) (St.takes numW (St.takes kindW (St.takes numW st0))) := by
      unfold readCm; simp only [hk]; rfl
    rw [hr]
    exact cParse2 s hs w ok st0 he.symm hk hsh
end Go.Proofs.YtobndmolnliejaaDoor

/- The walk of the law CmdTexts: whatever the command and the text, it returns true. -/
import Derived.Test.YtobndmolnliejaaDoorCmdAlive
namespace Go.Proofs.YtobndmolnliejaaDoor
open Go.RowKit Go.Lib

theorem text_len (c : Cm) (h : c.ok = true) : c.text.length ≤ 100 := by
  obtain ⟨⟨i0, i1⟩, ⟨s0, s1⟩, hr⟩ := ok_all h
  have li := fig_len c.i i0 i1
  have ls := fig_len c.s s0 (by omega)
  have lw : (sideWd c.d).length ≤ 4 := by unfold sideWd; split <;> decide
  rcases hr with ⟨hk, _, _, ⟨p0, p1⟩, ⟨q0, q1⟩⟩ | ⟨hk, ⟨t0, t1⟩, _⟩ | ⟨hk, ⟨t0, t1⟩, _, _, ⟨q0, q1⟩⟩
  · have lp := fig_len c.p p0 p1
    have lq := fig_len c.q q0 q1
    rw [text_place c hk]; simp; omega
  · have lt := fig_len c.t t0 t1
    rw [text_cancel c hk]; simp; omega
  · have lt := fig_len c.t t0 t1
    have lq := fig_len c.q q0 q1
    rw [text_amend c hk]; simp; omega
theorem pParse (l : List UInt8) (hl : l.length ≤ 1000) (r : Cm × Int) (hr : parseF l = r) : ∀ W (_ : Okw W), Calls Tryd.prog 16 #[str l] W fun e w' => e = .returned (.tuple #[cmOf r.1, .int .i64 r.2]) ∧ Below W.heap.size W w' := fun W o => by
  have := cParse ⟨l.toArray⟩ (by simpa [ByteArray.size] using hl) W o
  rw [show (⟨l.toArray⟩ : ByteArray).data.toList = l from rfl, hr] at this
  exact this
theorem pRParse (l : List UInt8) (hl : l.length ≤ 1000) (r : Cm × Int) (hr : parseF l = r) : ∀ W, Calls Tryd.prog 17 #[str l] W fun e w' => e = .returned (.tuple #[cmOf r.1, .int .i64 r.2]) ∧ Below W.heap.size W w' := fun W => by
  have := rParse l hl W
  rw [hr] at this
  exact this
theorem pPrint (c : Cm) (t : List UInt8) (e : Int) (h1 : c.print = t) (h2 : c.printE = e) : ∀ W (_ : Okw W), Calls Tryd.prog 13 #[cmV c.i c.k c.s c.t c.d c.p c.q] W fun e' w' => e' = .returned (.tuple #[str t, .int .i64 e]) ∧ Below W.heap.size W w' := fun W o => by
  have := cPrint c W o
  rw [h1, h2] at this
  exact this

theorem text_ne (c : Cm) : c.text ≠ [] := by
  intro h
  have : ∃ r, c.text = fig c.i ++ r := by
    unfold Cm.text Cm.words
    split
    · exact ⟨_, join_cons _ _ _⟩
    · split
      · exact ⟨_, join_cons _ _ _⟩
      · exact ⟨_, join_cons _ _ _⟩
  obtain ⟨r, hr⟩ := this
  rw [hr] at h
  exact dec_ne _ (List.append_eq_nil_iff.1 h).1
theorem carryB {W w' : World} {b : Nat} {o : Obj} (hb : Below W.heap.size W w') (h : W.heap[b]? = some o) : w'.heap[b]? = some o := (hb.block b (Array.getElem?_eq_some_iff.1 h).1).trans h
theorem carryA {W : World} {b : Nat} {o p : Obj} (h : W.heap[b]? = some o) : (W.alloc p).heap[b]? = some o := (Below.heap_alloc _ _ _ (Array.getElem?_eq_some_iff.1 h).1).trans h
theorem blt {W : World} {b : Nat} {o : Obj} (h : W.heap[b]? = some o) : b < W.heap.size := (Array.getElem?_eq_some_iff.1 h).1
set_option maxRecDepth 100000 in
theorem wTexts_long (c : Cm) (l : List UInt8) (hl : 200 < l.length) (w : World) (ok : Okw w) : Calls Tryd.prog 4 #[cmV c.i c.k c.s c.t c.d c.p c.q, str l] w fun e w' => e = .returned (.bool true) ∧ Below w.heap.size w w' := by
  have ok1 : ∀ xs T, Okw (w.alloc (.cells xs T)) := fun xs T => ok.on (boxed _ _ _)
  go_enter Tryd.func4, Tryd.ntmps4
  go_wp2_with (go_at_call 5; refine (cAlive _ (ok1 _ _)).mono ?_; rintro e w1 ⟨rfl, hb⟩)
  go_ret
  exact ⟨rfl, (boxed _ _ _).trans (hb.mono (by simp))⟩

set_option maxHeartbeats 2000000 in
set_option maxRecDepth 100000 in
theorem wTexts_yy (c x : Cm) (l : List UInt8) (hl : ¬ 200 < l.length) (hc : c.ok = true) (hx : x.ok = true) (ht : Hid (x.text = l)) (w : World) (ok : Okw w) : Calls Tryd.prog 4 #[cmV c.i c.k c.s c.t c.d c.p c.q, str l] w fun e w' => e = .returned (.bool true) ∧ Below w.heap.size w w' := by
  have hp := pParse l (by omega) (x, 0) (parse_unique l x ⟨hx, ht.out⟩)
  have hr := pRParse l (by omega) (x, 0) (parse_unique l x ⟨hx, ht.out⟩)
  have hX := pPrint x l 0 (by unfold Cm.print; rw [if_pos hx]; exact ht.out) (by unfold Cm.printE; rw [if_pos hx])
  clear hx
  have hq := pParse c.text (by have := text_len c hc; omega) (c, 0) (parse_text c hc)
  have hP := pPrint c c.text 0 (by unfold Cm.print; rw [if_pos hc]) (by unfold Cm.printE; rw [if_pos hc])
  have hO := fun W => rOne c.i c.k c.s c.t c.d c.p c.q W
  rw [show oneB c.i c.k c.s c.t c.d c.p c.q = true from hc] at hO
  have hT := fun W => rText c hc W
  clear hc
  have B0 := boxed w (cmCells c.i c.k c.s c.t c.d c.p c.q) 32
  have ok0 := ok.on B0
  have h0 : (w.alloc (.cells (cmCells c.i c.k c.s c.t c.d c.p c.q) 32)).heap[w.heap.size]? = some (.cells (cmCells c.i c.k c.s c.t c.d c.p c.q) 32 (0, 0)) := ha_new _ _ _ rfl
  go_enter Tryd.func4, Tryd.ntmps4
  go_wp2_with fail
  refine (hP _ ok0).mono ?_
  rintro e w1 ⟨rfl, b1⟩
  have h1 := carryB b1 h0
  have B1 := B0.trans (b1.mono B0.size)
  clear B0 ok0 h0 b1
  have c1 := (cells_at h1).1
  go_wp2_with fail
  clear c1
  refine (hO _).mono ?_
  rintro e w2 ⟨rfl, b2⟩
  have h2 := carryB b2 h1
  have B2 := B1.trans (b2.mono B1.size)
  clear B1 h1 b2
  have c2 := (cells_at h2).1
  go_wp2_with fail
  clear c2
  refine (hT _).mono ?_
  rintro e w3 ⟨rfl, b3⟩
  have h3 := carryB b3 h2
  have B3 := B2.trans (b3.mono B2.size)
  clear B2 h2 b3
  go_wp2_with fail
  refine (hp _ (ok.on B3)).mono ?_
  rintro e w4 ⟨rfl, b4⟩
  have h4 := carryA (p := (.cells (cmCells x.i x.k x.s x.t x.d x.p x.q) 32)) (carryB b4 h3)
  have x4 := ha_new w4 (.cells (cmCells x.i x.k x.s x.t x.d x.p x.q) 32) w4.heap.size rfl
  have B4 := (B3.trans (b4.mono B3.size)).alloc (B3.trans (b4.mono B3.size)).size (.cells (cmCells x.i x.k x.s x.t x.d x.p x.q) 32)
  clear B3 h3 b4
  go_wp2_with fail
  refine (hr _).mono ?_
  rintro e w5 ⟨rfl, b5⟩
  have h5 := carryA (p := (.cells (cmCells x.i x.k x.s x.t x.d x.p x.q) 32)) (carryB b5 h4)
  have x5 := carryA (p := (.cells (cmCells x.i x.k x.s x.t x.d x.p x.q) 32)) (carryB b5 x4)
  have y5 := ha_new w5 (.cells (cmCells x.i x.k x.s x.t x.d x.p x.q) 32) w5.heap.size rfl
  have B5 := (B4.trans (b5.mono B4.size)).alloc (B4.trans (b5.mono B4.size)).size (.cells (cmCells x.i x.k x.s x.t x.d x.p x.q) 32)
  clear B4 h4 x4 b5
  go_wp2_with fail
  refine (hq _ (ok.on B5)).mono ?_
  rintro e w6 ⟨rfl, b6⟩
  have h6 := carryB b6 h5
  have x6 := carryB b6 x5
  have y6 := carryB b6 y5
  have B6 := B5.trans (b6.mono B5.size)
  clear B5 h5 x5 y5 b6
  have ch := (cells_at h6).1
  have cx := (cells_at x6).1
  have cy := (cells_at y6).1
  have lh := blt h6
  have lx := blt x6
  have ly := blt y6
  have X6 := carryA (p := (.cells (cmCells c.i c.k c.s c.t c.d c.p c.q) 32)) x6
  have B7 := B6.alloc B6.size (.cells (cmCells c.i c.k c.s c.t c.d c.p c.q) 32)
  clear h6 y6 x6 B6
  go_wp2_with fail
  refine (hX _ (ok.on B7)).mono ?_
  rintro e w8 ⟨rfl, b8⟩
  have B8 := B7.trans (b8.mono B7.size)
  clear b8 B7
  go_wp2_with (go_at_call 5; refine (cAlive _ (ok.on B8)).mono ?_; rintro e w9 ⟨rfl, b9⟩)
  go_ret
  exact ⟨rfl, B8.trans (b9.mono B8.size)⟩

set_option maxHeartbeats 2000000 in
set_option maxRecDepth 100000 in
theorem wTexts_yn (c : Cm) (l : List UInt8) (hl : ¬ 200 < l.length) (hc : c.ok = true) (ht : Hid (∀ x : Cm, ¬ (x.ok = true ∧ x.text = l))) (w : World) (ok : Okw w) : Calls Tryd.prog 4 #[cmV c.i c.k c.s c.t c.d c.p c.q, str l] w fun e w' => e = .returned (.bool true) ∧ Below w.heap.size w w' := by
  have hp : ∀ W (_ : Okw W), Calls Tryd.prog 16 #[str l] W fun e w' => e = .returned (.tuple #[cmV 0 0 0 0 0 0 0, .int .i64 2]) ∧ Below W.heap.size W w' := pParse l (by omega) (Cm.zero, 2) (parse_none l ht.out)
  have hr : ∀ W, Calls Tryd.prog 17 #[str l] W fun e w' => e = .returned (.tuple #[cmV 0 0 0 0 0 0 0, .int .i64 2]) ∧ Below W.heap.size W w' := pRParse l (by omega) (Cm.zero, 2) (parse_none l ht.out)
  have hX : ∀ W (_ : Okw W), Calls Tryd.prog 13 #[cmV 0 0 0 0 0 0 0] W fun e' w' => e' = .returned (.tuple #[str [], .int .i64 1]) ∧ Below W.heap.size W w' := pPrint Cm.zero [] 1 (by decide) (by decide)
  have hq := pParse c.text (by have := text_len c hc; omega) (c, 0) (parse_text c hc)
  have hP := pPrint c c.text 0 (by unfold Cm.print; rw [if_pos hc]) (by unfold Cm.printE; rw [if_pos hc])
  have hO := fun W => rOne c.i c.k c.s c.t c.d c.p c.q W
  rw [show oneB c.i c.k c.s c.t c.d c.p c.q = true from hc] at hO
  have hT := fun W => rText c hc W
  clear hc
  have B0 := boxed w (cmCells c.i c.k c.s c.t c.d c.p c.q) 32
  have ok0 := ok.on B0
  have h0 : (w.alloc (.cells (cmCells c.i c.k c.s c.t c.d c.p c.q) 32)).heap[w.heap.size]? = some (.cells (cmCells c.i c.k c.s c.t c.d c.p c.q) 32 (0, 0)) := ha_new _ _ _ rfl
  go_enter Tryd.func4, Tryd.ntmps4
  go_wp2_with fail
  refine (hP _ ok0).mono ?_
  rintro e w1 ⟨rfl, b1⟩
  have h1 := carryB b1 h0
  have B1 := B0.trans (b1.mono B0.size)
  clear B0 ok0 h0 b1
  have c1 := (cells_at h1).1
  go_wp2_with fail
  clear c1
  refine (hO _).mono ?_
  rintro e w2 ⟨rfl, b2⟩
  have h2 := carryB b2 h1
  have B2 := B1.trans (b2.mono B1.size)
  clear B1 h1 b2
  have c2 := (cells_at h2).1
  go_wp2_with fail
  clear c2
  refine (hT _).mono ?_
  rintro e w3 ⟨rfl, b3⟩
  have h3 := carryB b3 h2
  have B3 := B2.trans (b3.mono B2.size)
  clear B2 h2 b3
  go_wp2_with fail
  refine (hp _ (ok.on B3)).mono ?_
  rintro e w4 ⟨rfl, b4⟩
  have h4 := carryA (p := (.cells (cmCells 0 0 0 0 0 0 0) 32)) (carryB b4 h3)
  have x4 := ha_new w4 (.cells (cmCells 0 0 0 0 0 0 0) 32) w4.heap.size rfl
  have B4 := (B3.trans (b4.mono B3.size)).alloc (B3.trans (b4.mono B3.size)).size (.cells (cmCells 0 0 0 0 0 0 0) 32)
  clear B3 h3 b4
  go_wp2_with fail
  refine (hr _).mono ?_
  rintro e w5 ⟨rfl, b5⟩
  have h5 := carryA (p := (.cells (cmCells 0 0 0 0 0 0 0) 32)) (carryB b5 h4)
  have x5 := carryA (p := (.cells (cmCells 0 0 0 0 0 0 0) 32)) (carryB b5 x4)
  have y5 := ha_new w5 (.cells (cmCells 0 0 0 0 0 0 0) 32) w5.heap.size rfl
  have B5 := (B4.trans (b5.mono B4.size)).alloc (B4.trans (b5.mono B4.size)).size (.cells (cmCells 0 0 0 0 0 0 0) 32)
  clear B4 h4 x4 b5
  go_wp2_with fail
  refine (hq _ (ok.on B5)).mono ?_
  rintro e w6 ⟨rfl, b6⟩
  have h6 := carryB b6 h5
  have x6 := carryB b6 x5
  have y6 := carryB b6 y5
  have B6 := B5.trans (b6.mono B5.size)
  clear B5 h5 x5 y5 b6
  have ch := (cells_at h6).1
  have cx := (cells_at x6).1
  have cy := (cells_at y6).1
  have lh := blt h6
  have lx := blt x6
  have ly := blt y6
  have X6 := carryA (p := (.cells (cmCells c.i c.k c.s c.t c.d c.p c.q) 32)) x6
  have B7 := B6.alloc B6.size (.cells (cmCells c.i c.k c.s c.t c.d c.p c.q) 32)
  clear h6 y6 x6 B6
  go_wp2_with fail
  refine (hX _ (ok.on B7)).mono ?_
  rintro e w8 ⟨rfl, b8⟩
  have B8 := B7.trans (b8.mono B7.size)
  clear b8 B7
  go_wp2_with (go_at_call 5; refine (cAlive _ (ok.on B8)).mono ?_; rintro e w9 ⟨rfl, b9⟩)
  go_ret
  exact ⟨rfl, B8.trans (b9.mono B8.size)⟩

set_option maxHeartbeats 2000000 in
set_option maxRecDepth 100000 in
theorem wTexts_ny (c x : Cm) (l : List UInt8) (hl : ¬ 200 < l.length) (hc : c.ok = false) (hx : x.ok = true) (ht : Hid (x.text = l)) (w : World) (ok : Okw w) : Calls Tryd.prog 4 #[cmV c.i c.k c.s c.t c.d c.p c.q, str l] w fun e w' => e = .returned (.bool true) ∧ Below w.heap.size w w' := by
  have hp := pParse l (by omega) (x, 0) (parse_unique l x ⟨hx, ht.out⟩)
  have hr := pRParse l (by omega) (x, 0) (parse_unique l x ⟨hx, ht.out⟩)
  have hX := pPrint x l 0 (by unfold Cm.print; rw [if_pos hx]; exact ht.out) (by unfold Cm.printE; rw [if_pos hx])
  clear hx
  have hq : ∀ W (_ : Okw W), Calls Tryd.prog 16 #[str []] W fun e w' => e = .returned (.tuple #[cmV 0 0 0 0 0 0 0, .int .i64 2]) ∧ Below W.heap.size W w' := pParse [] (by simp) (Cm.zero, 2) (parse_none [] (fun x hx => text_ne x hx.2))
  have hP := pPrint c [] 1 (by unfold Cm.print; rw [if_neg (by simp [hc])]) (by unfold Cm.printE; rw [if_neg (by simp [hc])])
  have hO := fun W => rOne c.i c.k c.s c.t c.d c.p c.q W
  rw [show oneB c.i c.k c.s c.t c.d c.p c.q = false from hc] at hO
  clear hc
  have B0 := boxed w (cmCells c.i c.k c.s c.t c.d c.p c.q) 32
  have ok0 := ok.on B0
  have h0 : (w.alloc (.cells (cmCells c.i c.k c.s c.t c.d c.p c.q) 32)).heap[w.heap.size]? = some (.cells (cmCells c.i c.k c.s c.t c.d c.p c.q) 32 (0, 0)) := ha_new _ _ _ rfl
  go_enter Tryd.func4, Tryd.ntmps4
  go_wp2_with fail
  refine (hP _ ok0).mono ?_
  rintro e w1 ⟨rfl, b1⟩
  have h1 := carryB b1 h0
  have B1 := B0.trans (b1.mono B0.size)
  clear B0 ok0 h0 b1
  have c1 := (cells_at h1).1
  go_wp2_with fail
  clear c1
  refine (hO _).mono ?_
  rintro e w2 ⟨rfl, b2⟩
  have h2 := carryB b2 h1
  have B2 := B1.trans (b2.mono B1.size)
  clear B1 h1 b2
  have h3 := h2
  have B3 := B2
  clear B2 h2
  go_wp2_with fail
  refine (hp _ (ok.on B3)).mono ?_
  rintro e w4 ⟨rfl, b4⟩
  have h4 := carryA (p := (.cells (cmCells x.i x.k x.s x.t x.d x.p x.q) 32)) (carryB b4 h3)
  have x4 := ha_new w4 (.cells (cmCells x.i x.k x.s x.t x.d x.p x.q) 32) w4.heap.size rfl
  have B4 := (B3.trans (b4.mono B3.size)).alloc (B3.trans (b4.mono B3.size)).size (.cells (cmCells x.i x.k x.s x.t x.d x.p x.q) 32)
  clear B3 h3 b4
  go_wp2_with fail
  refine (hr _).mono ?_
  rintro e w5 ⟨rfl, b5⟩
  have h5 := carryA (p := (.cells (cmCells x.i x.k x.s x.t x.d x.p x.q) 32)) (carryB b5 h4)
  have x5 := carryA (p := (.cells (cmCells x.i x.k x.s x.t x.d x.p x.q) 32)) (carryB b5 x4)
  have y5 := ha_new w5 (.cells (cmCells x.i x.k x.s x.t x.d x.p x.q) 32) w5.heap.size rfl
  have B5 := (B4.trans (b5.mono B4.size)).alloc (B4.trans (b5.mono B4.size)).size (.cells (cmCells x.i x.k x.s x.t x.d x.p x.q) 32)
  clear B4 h4 x4 b5
  go_wp2_with fail
  refine (hq _ (ok.on B5)).mono ?_
  rintro e w6 ⟨rfl, b6⟩
  have h6 := carryB b6 h5
  have x6 := carryB b6 x5
  have y6 := carryB b6 y5
  have B6 := B5.trans (b6.mono B5.size)
  clear B5 h5 x5 y5 b6
  have ch := (cells_at h6).1
  have cx := (cells_at x6).1
  have cy := (cells_at y6).1
  have lh := blt h6
  have lx := blt x6
  have ly := blt y6
  have X6 := carryA (p := (.cells (cmCells 0 0 0 0 0 0 0) 32)) x6
  have B7 := B6.alloc B6.size (.cells (cmCells 0 0 0 0 0 0 0) 32)
  clear h6 y6 x6 B6
  go_wp2_with fail
  refine (hX _ (ok.on B7)).mono ?_
  rintro e w8 ⟨rfl, b8⟩
  have B8 := B7.trans (b8.mono B7.size)
  clear b8 B7
  go_wp2_with (go_at_call 5; refine (cAlive _ (ok.on B8)).mono ?_; rintro e w9 ⟨rfl, b9⟩)
  go_ret
  exact ⟨rfl, B8.trans (b9.mono B8.size)⟩

set_option maxHeartbeats 2000000 in
set_option maxRecDepth 100000 in
theorem wTexts_nn (c : Cm) (l : List UInt8) (hl : ¬ 200 < l.length) (hc : c.ok = false) (ht : Hid (∀ x : Cm, ¬ (x.ok = true ∧ x.text = l))) (w : World) (ok : Okw w) : Calls Tryd.prog 4 #[cmV c.i c.k c.s c.t c.d c.p c.q, str l] w fun e w' => e = .returned (.bool true) ∧ Below w.heap.size w w' := by
  have hp : ∀ W (_ : Okw W), Calls Tryd.prog 16 #[str l] W fun e w' => e = .returned (.tuple #[cmV 0 0 0 0 0 0 0, .int .i64 2]) ∧ Below W.heap.size W w' := pParse l (by omega) (Cm.zero, 2) (parse_none l ht.out)
  have hr : ∀ W, Calls Tryd.prog 17 #[str l] W fun e w' => e = .returned (.tuple #[cmV 0 0 0 0 0 0 0, .int .i64 2]) ∧ Below W.heap.size W w' := pRParse l (by omega) (Cm.zero, 2) (parse_none l ht.out)
  have hX : ∀ W (_ : Okw W), Calls Tryd.prog 13 #[cmV 0 0 0 0 0 0 0] W fun e' w' => e' = .returned (.tuple #[str [], .int .i64 1]) ∧ Below W.heap.size W w' := pPrint Cm.zero [] 1 (by decide) (by decide)
  have hq : ∀ W (_ : Okw W), Calls Tryd.prog 16 #[str []] W fun e w' => e = .returned (.tuple #[cmV 0 0 0 0 0 0 0, .int .i64 2]) ∧ Below W.heap.size W w' := pParse [] (by simp) (Cm.zero, 2) (parse_none [] (fun x hx => text_ne x hx.2))
  have hP := pPrint c [] 1 (by unfold Cm.print; rw [if_neg (by simp [hc])]) (by unfold Cm.printE; rw [if_neg (by simp [hc])])
  have hO := fun W => rOne c.i c.k c.s c.t c.d c.p c.q W
  rw [show oneB c.i c.k c.s c.t c.d c.p c.q = false from hc] at hO
  clear hc
  have B0 := boxed w (cmCells c.i c.k c.s c.t c.d c.p c.q) 32
  have ok0 := ok.on B0
  have h0 : (w.alloc (.cells (cmCells c.i c.k c.s c.t c.d c.p c.q) 32)).heap[w.heap.size]? = some (.cells (cmCells c.i c.k c.s c.t c.d c.p c.q) 32 (0, 0)) := ha_new _ _ _ rfl
  go_enter Tryd.func4, Tryd.ntmps4
  go_wp2_with fail
  refine (hP _ ok0).mono ?_
  rintro e w1 ⟨rfl, b1⟩
  have h1 := carryB b1 h0
  have B1 := B0.trans (b1.mono B0.size)
  clear B0 ok0 h0 b1
  have c1 := (cells_at h1).1
  go_wp2_with fail
  clear c1
  refine (hO _).mono ?_
  rintro e w2 ⟨rfl, b2⟩
  have h2 := carryB b2 h1
  have B2 := B1.trans (b2.mono B1.size)
  clear B1 h1 b2
  have h3 := h2
  have B3 := B2
  clear B2 h2
  go_wp2_with fail
  refine (hp _ (ok.on B3)).mono ?_
  rintro e w4 ⟨rfl, b4⟩
  have h4 := carryA (p := (.cells (cmCells 0 0 0 0 0 0 0) 32)) (carryB b4 h3)
  have x4 := ha_new w4 (.cells (cmCells 0 0 0 0 0 0 0) 32) w4.heap.size rfl
  have B4 := (B3.trans (b4.mono B3.size)).alloc (B3.trans (b4.mono B3.size)).size (.cells (cmCells 0 0 0 0 0 0 0) 32)
  clear B3 h3 b4
  go_wp2_with fail
  refine (hr _).mono ?_
  rintro e w5 ⟨rfl, b5⟩
  have h5 := carryA (p := (.cells (cmCells 0 0 0 0 0 0 0) 32)) (carryB b5 h4)
  have x5 := carryA (p := (.cells (cmCells 0 0 0 0 0 0 0) 32)) (carryB b5 x4)
  have y5 := ha_new w5 (.cells (cmCells 0 0 0 0 0 0 0) 32) w5.heap.size rfl
  have B5 := (B4.trans (b5.mono B4.size)).alloc (B4.trans (b5.mono B4.size)).size (.cells (cmCells 0 0 0 0 0 0 0) 32)
  clear B4 h4 x4 b5
  go_wp2_with fail
  refine (hq _ (ok.on B5)).mono ?_
  rintro e w6 ⟨rfl, b6⟩
  have h6 := carryB b6 h5
  have x6 := carryB b6 x5
  have y6 := carryB b6 y5
  have B6 := B5.trans (b6.mono B5.size)
  clear B5 h5 x5 y5 b6
  have ch := (cells_at h6).1
  have cx := (cells_at x6).1
  have cy := (cells_at y6).1
  have lh := blt h6
  have lx := blt x6
  have ly := blt y6
  have X6 := carryA (p := (.cells (cmCells 0 0 0 0 0 0 0) 32)) x6
  have B7 := B6.alloc B6.size (.cells (cmCells 0 0 0 0 0 0 0) 32)
  clear h6 y6 x6 B6
  go_wp2_with fail
  refine (hX _ (ok.on B7)).mono ?_
  rintro e w8 ⟨rfl, b8⟩
  have B8 := B7.trans (b8.mono B7.size)
  clear b8 B7
  go_wp2_with (go_at_call 5; refine (cAlive _ (ok.on B8)).mono ?_; rintro e w9 ⟨rfl, b9⟩)
  go_ret
  exact ⟨rfl, B8.trans (b9.mono B8.size)⟩

/-- The law's walk, whatever its arguments. -/
theorem wTexts (c : Cm) (l : List UInt8) (w : World) (ok : Okw w) : Calls Tryd.prog 4 #[cmV c.i c.k c.s c.t c.d c.p c.q, str l] w fun e w' => e = .returned (.bool true) ∧ Below w.heap.size w w' := by
  by_cases hl : 200 < l.length
  · exact wTexts_long c l hl w ok
  by_cases hx : ∃ x : Cm, x.ok = true ∧ x.text = l
  · obtain ⟨x, h1, h2⟩ := hx
    rcases hc : c.ok with _ | _
    · exact wTexts_ny c x l hl hc h1 h2 w ok
    · exact wTexts_yy c x l hl hc h1 h2 w ok
  · have hx' : ∀ x : Cm, ¬ (x.ok = true ∧ x.text = l) := fun x h => hx ⟨x, h⟩
    rcases hc : c.ok with _ | _
    · exact wTexts_nn c l hl hc hx' w ok
    · exact wTexts_yn c l hl hc hx' w ok
end Go.Proofs.YtobndmolnliejaaDoor

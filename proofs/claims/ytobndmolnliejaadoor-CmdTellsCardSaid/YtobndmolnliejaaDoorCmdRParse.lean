/- The document's Parse: the same plain function as the program's. -/
import Derived.Test.YtobndmolnliejaaDoorCmdOne
import Derived.Test.YtobndmolnliejaaDoorCmdWords
import Derived.Test.YtobndmolnliejaaDoorCmdNumber
namespace Go.Proofs.YtobndmolnliejaaDoor
open Go.RowKit Go.Lib
attribute [local go_sem ↓] Go.wp_at_zero Go.wp_at_succ

/-! ### Plain -/
/-- What the document's Parse reads, of the words. -/
def rRead (ws : List (List UInt8)) : Cm :=
  let w := fun j => ws.getD j []
  if w 1 = wPlace then ⟨rNumI (w 0), 0, rNumI (w 2), 0, if w 3 = wSell then 1 else 0, rNumI (w 4), rNumI (w 5)⟩
  else if w 1 = wCancel then ⟨rNumI (w 0), 1, rNumI (w 2), rNumI (w 3), 0, 0, 0⟩
  else if w 1 = wAmend then ⟨rNumI (w 0), 2, rNumI (w 2), rNumI (w 3), 0, 0, rNumI (w 4)⟩
  else ⟨rNumI (w 0), 0, rNumI (w 2), 0, 0, 0, 0⟩
theorem rNum_fig (n : Int) (h0 : 0 ≤ n) (h : n ≤ 1048576) : rNumI (fig n) = n := by
  have hl := fig_len n h0 h
  have hd := dec_from n.toNat
  unfold rNumI
  have hn : noNum (fig n) = false := by
    unfold noNum
    simp
    refine ⟨⟨fun e => dec_ne _ e, by omega⟩, fun h2 e => ?_⟩
    by_cases h10 : n.toNat < 10
    · unfold fig at h2; rw [decDigits, dif_pos h10] at h2; simp at h2
    · obtain ⟨b, r, hb, hne, _⟩ := dec_head n.toNat (by omega)
      unfold fig at e
      rw [hb] at e
      exact hne (Option.some.inj e)
  rw [hn]
  unfold numF fig
  rw [hd]
  simp; omega
theorem rRead_words (c : Cm) (h : c.ok = true) : rRead c.words = c := by
  obtain ⟨⟨i0, i1⟩, ⟨s0, s1⟩, hr⟩ := ok_all h
  have ni := rNum_fig c.i i0 i1
  have ns := rNum_fig c.s s0 s1
  obtain ⟨i, k, s, t, d, p, q⟩ := c
  simp only at ni ns hr
  rcases hr with ⟨hk, ht, hd, ⟨p0, p1⟩, ⟨q0, q1⟩⟩ | ⟨hk, ⟨t0, t1⟩, hd, hp, hq⟩ | ⟨hk, ⟨t0, t1⟩, hd, hp, ⟨q0, q1⟩⟩
  · subst hk ht
    have np := rNum_fig p p0 p1
    have nq := rNum_fig q q0 q1
    rcases hd with rfl | rfl
    · have : ¬ sideWd 0 = wSell := by decide
      simp [rRead, Cm.words, ni, ns, np, nq, this]
    · have : sideWd 1 = wSell := by decide
      simp [rRead, Cm.words, ni, ns, np, nq, this]
  · subst hk hd hp hq
    have nt := rNum_fig t t0 t1
    have : ¬ wCancel = wPlace := by decide
    simp [rRead, Cm.words, ni, ns, nt, this]
  · subst hk hd hp
    have nt := rNum_fig t t0 t1
    have nq := rNum_fig q q0 q1
    have h1 : ¬ wAmend = wPlace := by decide
    have h2 : ¬ wAmend = wCancel := by decide
    simp [rRead, Cm.words, ni, ns, nt, nq, h1, h2]
/-- What the document's Parse tells is what parseF tells. -/
theorem rRead_parse (l : List UInt8) : (if (rRead (allW (accW ([], []) l))).ok = true ∧ (rRead (allW (accW ([], []) l))).text = l then (rRead (allW (accW ([], []) l)), (0 : Int)) else (Cm.zero, 2)) = parseF l := by
  split
  · rename_i h
    exact (parse_unique l _ h).symm
  · rename_i h
    refine (parse_none l (fun c hc => h ?_)).symm
    have hw : allW (accW ([], []) l) = c.words := by
      rw [← hc.2]
      have := words_join c.words [] (by unfold Cm.words; split <;> (try split) <;> simp) (words_blank c)
      simpa [Cm.text] using this
    rw [hw, rRead_words c hc.1]
    exact hc

theorem accW_short (n : Nat) : ∀ (l : List UInt8) (a : Wd), (∀ x ∈ allW a, x.length ≤ n) → ∀ x ∈ allW (accW a l), x.length ≤ n + l.length
  | [], a, h, x, hx => h x hx
  | c :: r, a, h, x, hx => by
    have := accW_short (n + 1) r (stepW a c) (fun y hy => by
      unfold stepW allW at hy
      split at hy
      · simp at hy
        rcases hy with hy | rfl | rfl
        · have := h y (by simp [allW, hy]); omega
        · have := h a.2 (by simp [allW]); omega
        · simp
      · simp at hy
        rcases hy with hy | rfl
        · have := h y (by simp [allW, hy]); omega
        · have := h a.2 (by simp [allW]); simp; omega) x hx
    simp; omega
theorem rNum (l : List UInt8) (hl : l.length ≤ 1000) (w : World) : Calls Tryd.prog 32 #[str l] w fun e w' => e = .returned (.int .i64 (rNumI l)) ∧ w = w' := by
  have := rNumber ⟨l.toArray⟩ (by simpa [ByteArray.size] using hl) w
  simpa using this
/-- What the document's Parse tells of what it has read. -/
def RFin (c : Cm) (l : List UInt8) : Cm × Int := if c.ok = true ∧ c.text = l then (c, 0) else (Cm.zero, 2)
theorem RFin_no {c : Cm} {l : List UInt8} (h : c.ok = false ∨ c.text ≠ l) : RFin c l = (Cm.zero, 2) := by
  unfold RFin; rw [if_neg]; rintro ⟨a, b⟩
  rcases h with h | h
  · rw [h] at a; cases a
  · exact h b
theorem RFin_yes {c : Cm} {l : List UInt8} (h : c.ok = true) (h2 : c.text = l) : RFin c l = (c, 0) := by
  unfold RFin; rw [if_pos ⟨h, h2⟩]

set_option maxHeartbeats 2000000 in
set_option maxRecDepth 100000 in
theorem rParseSell (l a0 a1 a2 a3 a4 a5 : List UInt8) (hl : l.length ≤ 1000) (e0 : Hid (allW (accW ([], []) l) ++ [[], [], [], [], [], []] = a0 :: a1 :: a2 :: a3 :: a4 :: a5 :: (allW (accW ([], []) l) ++ [[], [], [], [], [], []]).drop 6)) (ta1wPlace : (a1 == [112, 108, 97, 99, 101]) = true) (ta3wSell : (a3 == [115, 101, 108, 108]) = true) (w : World) :
    Calls Tryd.prog 17 #[str l] w fun e w' => e = .returned (.tuple #[cmOf (RFin ⟨rNumI a0, 0, rNumI a2, 0, 1, rNumI a4, rNumI a5⟩ l).1, .int .i64 (RFin ⟨rNumI a0, 0, rNumI a2, 0, 1, rNumI a4, rNumI a5⟩ l).2]) ∧ Below w.heap.size w w' := by
  obtain ⟨i0, hi9, hz0, hz1, hz2⟩ := info_parts infoS
  have hsh := accW_short 0 l ([], []) (by simp [allW])
  have hsA : Hid (∀ x ∈ allW (accW ([], []) l) ++ [[], [], [], [], [], []], x.length ≤ 1000) := fun x hx => by
    rcases List.mem_append.1 hx with h | h
    · have := hsh x h; omega
    · simp at h; subst h; simp
  have s0 : a0.length ≤ 1000 := hsA.out a0 (by rw [e0.out]; simp)
  have s2 : a2.length ≤ 1000 := hsA.out a2 (by rw [e0.out]; simp)
  have s3 : a3.length ≤ 1000 := hsA.out a3 (by rw [e0.out]; simp)
  have s4 : a4.length ≤ 1000 := hsA.out a4 (by rw [e0.out]; simp)
  have s5 : a5.length ≤ 1000 := hsA.out a5 (by rw [e0.out]; simp)
  have hlen := accW_len ([], []) l
  simp at hlen
  clear hsA hsh
  generalize hac : accW ([], []) l = ac at hlen e0
  have HAC := hid hac
  clear hac
  go_enter Tryd.func17, Tryd.ntmps17
  go_wp2_with fail
  refine (rWords ⟨l.toArray⟩ (by simpa [ByteArray.size] using hl) _).mono ?_
  rintro e w1 ⟨v, rfl, hrel⟩
  have hrel' : WRel (w.alloc (.cells (cmCells 0 0 0 0 0 0 0) 32)) ac v w1 := by have := hrel; rw [show accW ([], []) (⟨l.toArray⟩ : ByteArray).data.toList = ac from HAC.out] at this; exact this
  clear hrel
  obtain ⟨g, cap, rfl, hown, hB⟩ := hrel'
  have hB' := hid hB
  have hs1 := hB.size
  have hlt1 := hown.lt g rfl
  simp at hs1 hlt1
  go_wp2_with (at_builtin; refine wpList_append_lies _ rfl _ _ 46 rfl (w.heap.size + 1) 9 i0 (.string ⟨#[]⟩) 1 16 Tryd.underlying46 hi9 hz0 hz1 hz2 rfl (by omega) (.slice (some ⟨g, 0, none⟩) (ac.1.length + 1) cap) (ac.1.length + 1) ((allW ac).map str) rfl (World.ownsRow.alloc (by simpa using hown) _) ⟨w1.heap.size, 0, none⟩ 6 6 [str [], str [], str [], str [], str [], str []] rfl rfl (World.news_of_block (cs := #[str [], str [], str [], str [], str [], str []]) (t := 9) (fr := (0, 0)) (heap_alloc_new w1 _)) (by simp [Value.oneCell']) (by omega) (by unfold maxLen; omega) (by omega) (by simp; omega) (w1.heap.size + 1) (by simp) ?_; intro g1 cap1 w2 own1 grow1 at1 ltg1; refine Hid.out ?_)
  refine Lib.hid ?_
  have hB2 : Below w.heap.size w w2 := by
    refine ((((Below.refl w.heap.size w).alloc (Nat.le_refl _) _).trans (hB'.out.mono (by simp))).alloc ?_ _).grown grow1 ?_ ?_
    · omega
    · simp; omega
    · intro j hj; cases hj; show w.heap.size ≤ g; omega
  have rb : w2.heap[w.heap.size]? = some (.cells (cmCells 0 0 0 0 0 0 0) 32 (0, 0)) := by
    rw [grow1.block _ (by simp; omega) (by simp [Value.ownBlock]; omega), Below.heap_alloc _ _ _ (by omega), hB'.out.block _ (by simp)]
    exact ha_new _ _ _ rfl
  have e1 : ((allW ac).map str ++ [str [], str [], str [], str [], str [], str []]) = (a0 :: a1 :: a2 :: a3 :: a4 :: a5 :: (allW ac ++ [[], [], [], [], [], []]).drop 6).map str := by
    rw [← e0.out]; simp
  rw [e1] at own1
  have rc := (row_cells own1).1
  have d0 : w2.cell? ⟨g1, 0, none⟩ = some (str a0) := rc 0 a0 rfl
  have d1 : w2.cell? ⟨g1, 1, none⟩ = some (str a1) := rc 1 a1 rfl
  have d2 : w2.cell? ⟨g1, 2, none⟩ = some (str a2) := rc 2 a2 rfl
  have d3 : w2.cell? ⟨g1, 3, none⟩ = some (str a3) := rc 3 a3 rfl
  have d4 : w2.cell? ⟨g1, 4, none⟩ = some (str a4) := rc 4 a4 rfl
  have d5 : w2.cell? ⟨g1, 5, none⟩ = some (str a5) := rc 5 a5 rfl
  have hlt2 : w.heap.size < w2.heap.size := (Array.getElem?_eq_some_iff.1 rb).1
  clear rc own1 grow1 at1 hown hB hB' hs1 hlt1 e1
  have n0 : (0 : Int) < (ac.1.length : Int) + 1 + 6 := by omega
  have n1 : (1 : Int) < (ac.1.length : Int) + 1 + 6 := by omega
  have n2 : (2 : Int) < (ac.1.length : Int) + 1 + 6 := by omega
  have n3 : (3 : Int) < (ac.1.length : Int) + 1 + 6 := by omega
  have n4 : (4 : Int) < (ac.1.length : Int) + 1 + 6 := by omega
  have n5 : (5 : Int) < (ac.1.length : Int) + 1 + 6 := by omega
  go_wp2_with fail
  go_region_held3 (fun w' => w'.cell? ⟨g1, 0, none⟩ = some (str a0) ∧ w'.cell? ⟨g1, 2, none⟩ = some (str a2)) (first | exact ⟨d0, d2⟩ | go_keep)
    (first | (go_at_call 32; refine (rNum _ (by assumption) _).mono ?_; rintro e w' ⟨rfl, rfl⟩))
  all_goals
    rcases hm : oneB (rNumI a0) (0) (rNumI a2) (0) (1) (rNumI a4) (rNumI a5) with _ | _
    · have hO := fun W => rOne (rNumI a0) (0) (rNumI a2) (0) (1) (rNumI a4) (rNumI a5) W
      rw [hm] at hO
      go_wp2_with (first
        | (go_at_call 32; refine (rNum _ (by assumption) _).mono ?_; rintro e w' ⟨rfl, rfl⟩)
        | (go_at_call 14; refine (hO _).mono ?_; rintro e w5 ⟨rfl, hb5⟩; have r5 : w5.heap[w.heap.size]? = _ := (hb5.block _ (by simp; omega)).trans ((Below.heap_alloc _ _ _ hlt2).trans rb); have B5 : Below w.heap.size w w5 := (Below.drew (hB2.alloc hB2.size (.cells (cmCells (rNumI a0) (0) (rNumI a2) (0) (1) (rNumI a4) (rNumI a5)) 32))).trans (hb5.mono (by simp; omega)); clear hb5; have q5 := (cells_at r5).1; have u5 := cells_free r5; have S9 : Has w5 w.heap.size := ⟨_, _, r5, rfl⟩; obtain ⟨X0, X1, X2, X3, X4, X5⟩ := S9.all; clear r5))
      refine bodyPost_ret (v := .tuple #[.agg (cmCells 0 0 0 0 0 0 0), .int .i64 2]) (by simp [results, Tryd.results17, go_sem, Has.self, S9, X0, X1, X2, X3, X4, X5]) rfl ?_
      rw [RFin_no (c := ⟨rNumI a0, 0, rNumI a2, 0, 1, rNumI a4, rNumI a5⟩) (Or.inl hm)]
      exact ⟨rfl, ((((((B5.setCell (by simp) _).setCell (by simp) _).setCell (by simp) _).setCell (by simp) _).setCell (by simp) _).setCell (by simp) _).setCell (by simp) _⟩
    · have hO := fun W => rOne (rNumI a0) (0) (rNumI a2) (0) (1) (rNumI a4) (rNumI a5) W
      rw [hm] at hO
      have hT := fun W => rText ⟨rNumI a0, 0, rNumI a2, 0, 1, rNumI a4, rNumI a5⟩ hm W
      by_cases ht : Cm.text ⟨rNumI a0, 0, rNumI a2, 0, 1, rNumI a4, rNumI a5⟩ = l
      · have tb : (Cm.text ⟨rNumI a0, 0, rNumI a2, 0, 1, rNumI a4, rNumI a5⟩ == l) = true := by simpa using ht
        have tb' : (Cm.text ⟨rNumI a0, 0, rNumI a2, 0, 1, rNumI a4, rNumI a5⟩ != l) = false := by simpa using ht
        have HT := hid ht
        clear ht
        go_wp2_with (first
          | (go_at_call 32; refine (rNum _ (by assumption) _).mono ?_; rintro e w' ⟨rfl, rfl⟩)
          | (go_at_call 14; refine (hO _).mono ?_; rintro e w5 ⟨rfl, hb5⟩; have r5 : w5.heap[w.heap.size]? = _ := (hb5.block _ (by simp; omega)).trans ((Below.heap_alloc _ _ _ hlt2).trans rb); have k5 : w5.heap[w2.heap.size]? = some (.cells (cmCells (rNumI a0) (0) (rNumI a2) (0) (1) (rNumI a4) (rNumI a5)) 32 (0, 0)) := (hb5.block _ (by simp)).trans (ha_new _ _ _ rfl); have B5 : Below w.heap.size w w5 := (Below.drew (hB2.alloc hB2.size (.cells (cmCells (rNumI a0) (0) (rNumI a2) (0) (1) (rNumI a4) (rNumI a5)) 32))).trans (hb5.mono (by simp; omega)); clear hb5; have q5 := (cells_at k5).1)
          | (go_at_call 15; refine (hT _).mono ?_; rintro e w6 ⟨rfl, hb6⟩; have r6 : w6.heap[w.heap.size]? = _ := (hb6.block _ (Array.getElem?_eq_some_iff.1 r5).1).trans r5; have k6 := (hb6.block _ (Array.getElem?_eq_some_iff.1 k5).1).trans k5; have B6 : Below w.heap.size w w6 := B5.trans (hb6.mono B5.size); clear hb6 q5; have q6 := (cells_at k6).1; have p6 := (cells_at r6).1; have u6 := cells_free r6; have S9 : Has w6 w.heap.size := ⟨_, _, r6, rfl⟩; obtain ⟨X0, X1, X2, X3, X4, X5⟩ := S9.all; clear r6 k6 r5 k5))
        refine bodyPost_ret (v := .tuple #[.agg (cmCells (rNumI a0) (0) (rNumI a2) (0) (1) (rNumI a4) (rNumI a5)), .int .i64 0]) (by simp [results, Tryd.results17, go_sem, Has.self, S9, X0, X1, X2, X3, X4, X5]) rfl ?_
        rw [RFin_yes (c := ⟨rNumI a0, 0, rNumI a2, 0, 1, rNumI a4, rNumI a5⟩) hm HT.out]
        exact ⟨rfl, ((((((B6.setCell (by simp) _).setCell (by simp) _).setCell (by simp) _).setCell (by simp) _).setCell (by simp) _).setCell (by simp) _).setCell (by simp) _⟩
      · have tb : (Cm.text ⟨rNumI a0, 0, rNumI a2, 0, 1, rNumI a4, rNumI a5⟩ == l) = false := by simpa using ht
        have tb' : (Cm.text ⟨rNumI a0, 0, rNumI a2, 0, 1, rNumI a4, rNumI a5⟩ != l) = true := by simpa using ht
        have HT := hid ht
        clear ht
        go_wp2_with (first
          | (go_at_call 32; refine (rNum _ (by assumption) _).mono ?_; rintro e w' ⟨rfl, rfl⟩)
          | (go_at_call 14; refine (hO _).mono ?_; rintro e w5 ⟨rfl, hb5⟩; have r5 : w5.heap[w.heap.size]? = _ := (hb5.block _ (by simp; omega)).trans ((Below.heap_alloc _ _ _ hlt2).trans rb); have k5 : w5.heap[w2.heap.size]? = some (.cells (cmCells (rNumI a0) (0) (rNumI a2) (0) (1) (rNumI a4) (rNumI a5)) 32 (0, 0)) := (hb5.block _ (by simp)).trans (ha_new _ _ _ rfl); have B5 : Below w.heap.size w w5 := (Below.drew (hB2.alloc hB2.size (.cells (cmCells (rNumI a0) (0) (rNumI a2) (0) (1) (rNumI a4) (rNumI a5)) 32))).trans (hb5.mono (by simp; omega)); clear hb5; have q5 := (cells_at k5).1)
          | (go_at_call 15; refine (hT _).mono ?_; rintro e w6 ⟨rfl, hb6⟩; have r6 : w6.heap[w.heap.size]? = _ := (hb6.block _ (Array.getElem?_eq_some_iff.1 r5).1).trans r5; have B6 : Below w.heap.size w w6 := B5.trans (hb6.mono B5.size); clear hb6 q5; have p6 := (cells_at r6).1; have u6 := cells_free r6; have S9 : Has w6 w.heap.size := ⟨_, _, r6, rfl⟩; obtain ⟨X0, X1, X2, X3, X4, X5⟩ := S9.all; clear r6 r5 k5))
        refine bodyPost_ret (v := .tuple #[.agg (cmCells 0 0 0 0 0 0 0), .int .i64 2]) (by simp [results, Tryd.results17, go_sem, Has.self, S9, X0, X1, X2, X3, X4, X5]) rfl ?_
        rw [RFin_no (c := ⟨rNumI a0, 0, rNumI a2, 0, 1, rNumI a4, rNumI a5⟩) (Or.inr HT.out)]
        exact ⟨rfl, ((((((B6.setCell (by simp) _).setCell (by simp) _).setCell (by simp) _).setCell (by simp) _).setCell (by simp) _).setCell (by simp) _).setCell (by simp) _⟩

set_option maxHeartbeats 2000000 in
set_option maxRecDepth 100000 in
theorem rParseBuy (l a0 a1 a2 a3 a4 a5 : List UInt8) (hl : l.length ≤ 1000) (e0 : Hid (allW (accW ([], []) l) ++ [[], [], [], [], [], []] = a0 :: a1 :: a2 :: a3 :: a4 :: a5 :: (allW (accW ([], []) l) ++ [[], [], [], [], [], []]).drop 6)) (ta1wPlace : (a1 == [112, 108, 97, 99, 101]) = true) (ta3wSell : (a3 == [115, 101, 108, 108]) = false) (w : World) :
    Calls Tryd.prog 17 #[str l] w fun e w' => e = .returned (.tuple #[cmOf (RFin ⟨rNumI a0, 0, rNumI a2, 0, 0, rNumI a4, rNumI a5⟩ l).1, .int .i64 (RFin ⟨rNumI a0, 0, rNumI a2, 0, 0, rNumI a4, rNumI a5⟩ l).2]) ∧ Below w.heap.size w w' := by
  obtain ⟨i0, hi9, hz0, hz1, hz2⟩ := info_parts infoS
  have hsh := accW_short 0 l ([], []) (by simp [allW])
  have hsA : Hid (∀ x ∈ allW (accW ([], []) l) ++ [[], [], [], [], [], []], x.length ≤ 1000) := fun x hx => by
    rcases List.mem_append.1 hx with h | h
    · have := hsh x h; omega
    · simp at h; subst h; simp
  have s0 : a0.length ≤ 1000 := hsA.out a0 (by rw [e0.out]; simp)
  have s2 : a2.length ≤ 1000 := hsA.out a2 (by rw [e0.out]; simp)
  have s3 : a3.length ≤ 1000 := hsA.out a3 (by rw [e0.out]; simp)
  have s4 : a4.length ≤ 1000 := hsA.out a4 (by rw [e0.out]; simp)
  have s5 : a5.length ≤ 1000 := hsA.out a5 (by rw [e0.out]; simp)
  have hlen := accW_len ([], []) l
  simp at hlen
  clear hsA hsh
  generalize hac : accW ([], []) l = ac at hlen e0
  have HAC := hid hac
  clear hac
  go_enter Tryd.func17, Tryd.ntmps17
  go_wp2_with fail
  refine (rWords ⟨l.toArray⟩ (by simpa [ByteArray.size] using hl) _).mono ?_
  rintro e w1 ⟨v, rfl, hrel⟩
  have hrel' : WRel (w.alloc (.cells (cmCells 0 0 0 0 0 0 0) 32)) ac v w1 := by have := hrel; rw [show accW ([], []) (⟨l.toArray⟩ : ByteArray).data.toList = ac from HAC.out] at this; exact this
  clear hrel
  obtain ⟨g, cap, rfl, hown, hB⟩ := hrel'
  have hB' := hid hB
  have hs1 := hB.size
  have hlt1 := hown.lt g rfl
  simp at hs1 hlt1
  go_wp2_with (at_builtin; refine wpList_append_lies _ rfl _ _ 46 rfl (w.heap.size + 1) 9 i0 (.string ⟨#[]⟩) 1 16 Tryd.underlying46 hi9 hz0 hz1 hz2 rfl (by omega) (.slice (some ⟨g, 0, none⟩) (ac.1.length + 1) cap) (ac.1.length + 1) ((allW ac).map str) rfl (World.ownsRow.alloc (by simpa using hown) _) ⟨w1.heap.size, 0, none⟩ 6 6 [str [], str [], str [], str [], str [], str []] rfl rfl (World.news_of_block (cs := #[str [], str [], str [], str [], str [], str []]) (t := 9) (fr := (0, 0)) (heap_alloc_new w1 _)) (by simp [Value.oneCell']) (by omega) (by unfold maxLen; omega) (by omega) (by simp; omega) (w1.heap.size + 1) (by simp) ?_; intro g1 cap1 w2 own1 grow1 at1 ltg1; refine Hid.out ?_)
  refine Lib.hid ?_
  have hB2 : Below w.heap.size w w2 := by
    refine ((((Below.refl w.heap.size w).alloc (Nat.le_refl _) _).trans (hB'.out.mono (by simp))).alloc ?_ _).grown grow1 ?_ ?_
    · omega
    · simp; omega
    · intro j hj; cases hj; show w.heap.size ≤ g; omega
  have rb : w2.heap[w.heap.size]? = some (.cells (cmCells 0 0 0 0 0 0 0) 32 (0, 0)) := by
    rw [grow1.block _ (by simp; omega) (by simp [Value.ownBlock]; omega), Below.heap_alloc _ _ _ (by omega), hB'.out.block _ (by simp)]
    exact ha_new _ _ _ rfl
  have e1 : ((allW ac).map str ++ [str [], str [], str [], str [], str [], str []]) = (a0 :: a1 :: a2 :: a3 :: a4 :: a5 :: (allW ac ++ [[], [], [], [], [], []]).drop 6).map str := by
    rw [← e0.out]; simp
  rw [e1] at own1
  have rc := (row_cells own1).1
  have d0 : w2.cell? ⟨g1, 0, none⟩ = some (str a0) := rc 0 a0 rfl
  have d1 : w2.cell? ⟨g1, 1, none⟩ = some (str a1) := rc 1 a1 rfl
  have d2 : w2.cell? ⟨g1, 2, none⟩ = some (str a2) := rc 2 a2 rfl
  have d3 : w2.cell? ⟨g1, 3, none⟩ = some (str a3) := rc 3 a3 rfl
  have d4 : w2.cell? ⟨g1, 4, none⟩ = some (str a4) := rc 4 a4 rfl
  have d5 : w2.cell? ⟨g1, 5, none⟩ = some (str a5) := rc 5 a5 rfl
  have hlt2 : w.heap.size < w2.heap.size := (Array.getElem?_eq_some_iff.1 rb).1
  clear rc own1 grow1 at1 hown hB hB' hs1 hlt1 e1
  have n0 : (0 : Int) < (ac.1.length : Int) + 1 + 6 := by omega
  have n1 : (1 : Int) < (ac.1.length : Int) + 1 + 6 := by omega
  have n2 : (2 : Int) < (ac.1.length : Int) + 1 + 6 := by omega
  have n3 : (3 : Int) < (ac.1.length : Int) + 1 + 6 := by omega
  have n4 : (4 : Int) < (ac.1.length : Int) + 1 + 6 := by omega
  have n5 : (5 : Int) < (ac.1.length : Int) + 1 + 6 := by omega
  go_wp2_with fail
  go_region_held3 (fun w' => w'.cell? ⟨g1, 0, none⟩ = some (str a0) ∧ w'.cell? ⟨g1, 2, none⟩ = some (str a2)) (first | exact ⟨d0, d2⟩ | go_keep)
    (first | (go_at_call 32; refine (rNum _ (by assumption) _).mono ?_; rintro e w' ⟨rfl, rfl⟩))
  all_goals
    rcases hm : oneB (rNumI a0) (0) (rNumI a2) (0) (0) (rNumI a4) (rNumI a5) with _ | _
    · have hO := fun W => rOne (rNumI a0) (0) (rNumI a2) (0) (0) (rNumI a4) (rNumI a5) W
      rw [hm] at hO
      go_wp2_with (first
        | (go_at_call 32; refine (rNum _ (by assumption) _).mono ?_; rintro e w' ⟨rfl, rfl⟩)
        | (go_at_call 14; refine (hO _).mono ?_; rintro e w5 ⟨rfl, hb5⟩; have r5 : w5.heap[w.heap.size]? = _ := (hb5.block _ (by simp; omega)).trans ((Below.heap_alloc _ _ _ hlt2).trans rb); have B5 : Below w.heap.size w w5 := (Below.drew (hB2.alloc hB2.size (.cells (cmCells (rNumI a0) (0) (rNumI a2) (0) (0) (rNumI a4) (rNumI a5)) 32))).trans (hb5.mono (by simp; omega)); clear hb5; have q5 := (cells_at r5).1; have u5 := cells_free r5; have S9 : Has w5 w.heap.size := ⟨_, _, r5, rfl⟩; obtain ⟨X0, X1, X2, X3, X4, X5⟩ := S9.all; clear r5))
      refine bodyPost_ret (v := .tuple #[.agg (cmCells 0 0 0 0 0 0 0), .int .i64 2]) (by simp [results, Tryd.results17, go_sem, Has.self, S9, X0, X1, X2, X3, X4, X5]) rfl ?_
      rw [RFin_no (c := ⟨rNumI a0, 0, rNumI a2, 0, 0, rNumI a4, rNumI a5⟩) (Or.inl hm)]
      exact ⟨rfl, ((((((B5.setCell (by simp) _).setCell (by simp) _).setCell (by simp) _).setCell (by simp) _).setCell (by simp) _).setCell (by simp) _).setCell (by simp) _⟩
    · have hO := fun W => rOne (rNumI a0) (0) (rNumI a2) (0) (0) (rNumI a4) (rNumI a5) W
      rw [hm] at hO
      have hT := fun W => rText ⟨rNumI a0, 0, rNumI a2, 0, 0, rNumI a4, rNumI a5⟩ hm W
      by_cases ht : Cm.text ⟨rNumI a0, 0, rNumI a2, 0, 0, rNumI a4, rNumI a5⟩ = l
      · have tb : (Cm.text ⟨rNumI a0, 0, rNumI a2, 0, 0, rNumI a4, rNumI a5⟩ == l) = true := by simpa using ht
        have tb' : (Cm.text ⟨rNumI a0, 0, rNumI a2, 0, 0, rNumI a4, rNumI a5⟩ != l) = false := by simpa using ht
        have HT := hid ht
        clear ht
        go_wp2_with (first
          | (go_at_call 32; refine (rNum _ (by assumption) _).mono ?_; rintro e w' ⟨rfl, rfl⟩)
          | (go_at_call 14; refine (hO _).mono ?_; rintro e w5 ⟨rfl, hb5⟩; have r5 : w5.heap[w.heap.size]? = _ := (hb5.block _ (by simp; omega)).trans ((Below.heap_alloc _ _ _ hlt2).trans rb); have k5 : w5.heap[w2.heap.size]? = some (.cells (cmCells (rNumI a0) (0) (rNumI a2) (0) (0) (rNumI a4) (rNumI a5)) 32 (0, 0)) := (hb5.block _ (by simp)).trans (ha_new _ _ _ rfl); have B5 : Below w.heap.size w w5 := (Below.drew (hB2.alloc hB2.size (.cells (cmCells (rNumI a0) (0) (rNumI a2) (0) (0) (rNumI a4) (rNumI a5)) 32))).trans (hb5.mono (by simp; omega)); clear hb5; have q5 := (cells_at k5).1)
          | (go_at_call 15; refine (hT _).mono ?_; rintro e w6 ⟨rfl, hb6⟩; have r6 : w6.heap[w.heap.size]? = _ := (hb6.block _ (Array.getElem?_eq_some_iff.1 r5).1).trans r5; have k6 := (hb6.block _ (Array.getElem?_eq_some_iff.1 k5).1).trans k5; have B6 : Below w.heap.size w w6 := B5.trans (hb6.mono B5.size); clear hb6 q5; have q6 := (cells_at k6).1; have p6 := (cells_at r6).1; have u6 := cells_free r6; have S9 : Has w6 w.heap.size := ⟨_, _, r6, rfl⟩; obtain ⟨X0, X1, X2, X3, X4, X5⟩ := S9.all; clear r6 k6 r5 k5))
        refine bodyPost_ret (v := .tuple #[.agg (cmCells (rNumI a0) (0) (rNumI a2) (0) (0) (rNumI a4) (rNumI a5)), .int .i64 0]) (by simp [results, Tryd.results17, go_sem, Has.self, S9, X0, X1, X2, X3, X4, X5]) rfl ?_
        rw [RFin_yes (c := ⟨rNumI a0, 0, rNumI a2, 0, 0, rNumI a4, rNumI a5⟩) hm HT.out]
        exact ⟨rfl, ((((((B6.setCell (by simp) _).setCell (by simp) _).setCell (by simp) _).setCell (by simp) _).setCell (by simp) _).setCell (by simp) _).setCell (by simp) _⟩
      · have tb : (Cm.text ⟨rNumI a0, 0, rNumI a2, 0, 0, rNumI a4, rNumI a5⟩ == l) = false := by simpa using ht
        have tb' : (Cm.text ⟨rNumI a0, 0, rNumI a2, 0, 0, rNumI a4, rNumI a5⟩ != l) = true := by simpa using ht
        have HT := hid ht
        clear ht
        go_wp2_with (first
          | (go_at_call 32; refine (rNum _ (by assumption) _).mono ?_; rintro e w' ⟨rfl, rfl⟩)
          | (go_at_call 14; refine (hO _).mono ?_; rintro e w5 ⟨rfl, hb5⟩; have r5 : w5.heap[w.heap.size]? = _ := (hb5.block _ (by simp; omega)).trans ((Below.heap_alloc _ _ _ hlt2).trans rb); have k5 : w5.heap[w2.heap.size]? = some (.cells (cmCells (rNumI a0) (0) (rNumI a2) (0) (0) (rNumI a4) (rNumI a5)) 32 (0, 0)) := (hb5.block _ (by simp)).trans (ha_new _ _ _ rfl); have B5 : Below w.heap.size w w5 := (Below.drew (hB2.alloc hB2.size (.cells (cmCells (rNumI a0) (0) (rNumI a2) (0) (0) (rNumI a4) (rNumI a5)) 32))).trans (hb5.mono (by simp; omega)); clear hb5; have q5 := (cells_at k5).1)
          | (go_at_call 15; refine (hT _).mono ?_; rintro e w6 ⟨rfl, hb6⟩; have r6 : w6.heap[w.heap.size]? = _ := (hb6.block _ (Array.getElem?_eq_some_iff.1 r5).1).trans r5; have B6 : Below w.heap.size w w6 := B5.trans (hb6.mono B5.size); clear hb6 q5; have p6 := (cells_at r6).1; have u6 := cells_free r6; have S9 : Has w6 w.heap.size := ⟨_, _, r6, rfl⟩; obtain ⟨X0, X1, X2, X3, X4, X5⟩ := S9.all; clear r6 r5 k5))
        refine bodyPost_ret (v := .tuple #[.agg (cmCells 0 0 0 0 0 0 0), .int .i64 2]) (by simp [results, Tryd.results17, go_sem, Has.self, S9, X0, X1, X2, X3, X4, X5]) rfl ?_
        rw [RFin_no (c := ⟨rNumI a0, 0, rNumI a2, 0, 0, rNumI a4, rNumI a5⟩) (Or.inr HT.out)]
        exact ⟨rfl, ((((((B6.setCell (by simp) _).setCell (by simp) _).setCell (by simp) _).setCell (by simp) _).setCell (by simp) _).setCell (by simp) _).setCell (by simp) _⟩

set_option maxHeartbeats 2000000 in
set_option maxRecDepth 100000 in
theorem rParseCancel (l a0 a1 a2 a3 a4 a5 : List UInt8) (hl : l.length ≤ 1000) (e0 : Hid (allW (accW ([], []) l) ++ [[], [], [], [], [], []] = a0 :: a1 :: a2 :: a3 :: a4 :: a5 :: (allW (accW ([], []) l) ++ [[], [], [], [], [], []]).drop 6)) (ta1wPlace : (a1 == [112, 108, 97, 99, 101]) = false) (ta1wCancel : (a1 == [99, 97, 110, 99, 101, 108]) = true) (w : World) :
    Calls Tryd.prog 17 #[str l] w fun e w' => e = .returned (.tuple #[cmOf (RFin ⟨rNumI a0, 1, rNumI a2, rNumI a3, 0, 0, 0⟩ l).1, .int .i64 (RFin ⟨rNumI a0, 1, rNumI a2, rNumI a3, 0, 0, 0⟩ l).2]) ∧ Below w.heap.size w w' := by
  obtain ⟨i0, hi9, hz0, hz1, hz2⟩ := info_parts infoS
  have hsh := accW_short 0 l ([], []) (by simp [allW])
  have hsA : Hid (∀ x ∈ allW (accW ([], []) l) ++ [[], [], [], [], [], []], x.length ≤ 1000) := fun x hx => by
    rcases List.mem_append.1 hx with h | h
    · have := hsh x h; omega
    · simp at h; subst h; simp
  have s0 : a0.length ≤ 1000 := hsA.out a0 (by rw [e0.out]; simp)
  have s2 : a2.length ≤ 1000 := hsA.out a2 (by rw [e0.out]; simp)
  have s3 : a3.length ≤ 1000 := hsA.out a3 (by rw [e0.out]; simp)
  have s4 : a4.length ≤ 1000 := hsA.out a4 (by rw [e0.out]; simp)
  have s5 : a5.length ≤ 1000 := hsA.out a5 (by rw [e0.out]; simp)
  have hlen := accW_len ([], []) l
  simp at hlen
  clear hsA hsh
  generalize hac : accW ([], []) l = ac at hlen e0
  have HAC := hid hac
  clear hac
  go_enter Tryd.func17, Tryd.ntmps17
  go_wp2_with fail
  refine (rWords ⟨l.toArray⟩ (by simpa [ByteArray.size] using hl) _).mono ?_
  rintro e w1 ⟨v, rfl, hrel⟩
  have hrel' : WRel (w.alloc (.cells (cmCells 0 0 0 0 0 0 0) 32)) ac v w1 := by have := hrel; rw [show accW ([], []) (⟨l.toArray⟩ : ByteArray).data.toList = ac from HAC.out] at this; exact this
  clear hrel
  obtain ⟨g, cap, rfl, hown, hB⟩ := hrel'
  have hB' := hid hB
  have hs1 := hB.size
  have hlt1 := hown.lt g rfl
  simp at hs1 hlt1
  go_wp2_with (at_builtin; refine wpList_append_lies _ rfl _ _ 46 rfl (w.heap.size + 1) 9 i0 (.string ⟨#[]⟩) 1 16 Tryd.underlying46 hi9 hz0 hz1 hz2 rfl (by omega) (.slice (some ⟨g, 0, none⟩) (ac.1.length + 1) cap) (ac.1.length + 1) ((allW ac).map str) rfl (World.ownsRow.alloc (by simpa using hown) _) ⟨w1.heap.size, 0, none⟩ 6 6 [str [], str [], str [], str [], str [], str []] rfl rfl (World.news_of_block (cs := #[str [], str [], str [], str [], str [], str []]) (t := 9) (fr := (0, 0)) (heap_alloc_new w1 _)) (by simp [Value.oneCell']) (by omega) (by unfold maxLen; omega) (by omega) (by simp; omega) (w1.heap.size + 1) (by simp) ?_; intro g1 cap1 w2 own1 grow1 at1 ltg1; refine Hid.out ?_)
  refine Lib.hid ?_
  have hB2 : Below w.heap.size w w2 := by
    refine ((((Below.refl w.heap.size w).alloc (Nat.le_refl _) _).trans (hB'.out.mono (by simp))).alloc ?_ _).grown grow1 ?_ ?_
    · omega
    · simp; omega
    · intro j hj; cases hj; show w.heap.size ≤ g; omega
  have rb : w2.heap[w.heap.size]? = some (.cells (cmCells 0 0 0 0 0 0 0) 32 (0, 0)) := by
    rw [grow1.block _ (by simp; omega) (by simp [Value.ownBlock]; omega), Below.heap_alloc _ _ _ (by omega), hB'.out.block _ (by simp)]
    exact ha_new _ _ _ rfl
  have e1 : ((allW ac).map str ++ [str [], str [], str [], str [], str [], str []]) = (a0 :: a1 :: a2 :: a3 :: a4 :: a5 :: (allW ac ++ [[], [], [], [], [], []]).drop 6).map str := by
    rw [← e0.out]; simp
  rw [e1] at own1
  have rc := (row_cells own1).1
  have d0 : w2.cell? ⟨g1, 0, none⟩ = some (str a0) := rc 0 a0 rfl
  have d1 : w2.cell? ⟨g1, 1, none⟩ = some (str a1) := rc 1 a1 rfl
  have d2 : w2.cell? ⟨g1, 2, none⟩ = some (str a2) := rc 2 a2 rfl
  have d3 : w2.cell? ⟨g1, 3, none⟩ = some (str a3) := rc 3 a3 rfl
  have d4 : w2.cell? ⟨g1, 4, none⟩ = some (str a4) := rc 4 a4 rfl
  have d5 : w2.cell? ⟨g1, 5, none⟩ = some (str a5) := rc 5 a5 rfl
  have hlt2 : w.heap.size < w2.heap.size := (Array.getElem?_eq_some_iff.1 rb).1
  clear rc own1 grow1 at1 hown hB hB' hs1 hlt1 e1
  have n0 : (0 : Int) < (ac.1.length : Int) + 1 + 6 := by omega
  have n1 : (1 : Int) < (ac.1.length : Int) + 1 + 6 := by omega
  have n2 : (2 : Int) < (ac.1.length : Int) + 1 + 6 := by omega
  have n3 : (3 : Int) < (ac.1.length : Int) + 1 + 6 := by omega
  have n4 : (4 : Int) < (ac.1.length : Int) + 1 + 6 := by omega
  have n5 : (5 : Int) < (ac.1.length : Int) + 1 + 6 := by omega
  go_wp2_with fail
  go_region_held3 (fun w' => w'.cell? ⟨g1, 0, none⟩ = some (str a0) ∧ w'.cell? ⟨g1, 2, none⟩ = some (str a2)) (first | exact ⟨d0, d2⟩ | go_keep)
    (first | (go_at_call 32; refine (rNum _ (by assumption) _).mono ?_; rintro e w' ⟨rfl, rfl⟩))
  all_goals
    rcases hm : oneB (rNumI a0) (1) (rNumI a2) (rNumI a3) (0) (0) (0) with _ | _
    · have hO := fun W => rOne (rNumI a0) (1) (rNumI a2) (rNumI a3) (0) (0) (0) W
      rw [hm] at hO
      go_wp2_with (first
        | (go_at_call 32; refine (rNum _ (by assumption) _).mono ?_; rintro e w' ⟨rfl, rfl⟩)
        | (go_at_call 14; refine (hO _).mono ?_; rintro e w5 ⟨rfl, hb5⟩; have r5 : w5.heap[w.heap.size]? = _ := (hb5.block _ (by simp; omega)).trans ((Below.heap_alloc _ _ _ hlt2).trans rb); have B5 : Below w.heap.size w w5 := (Below.drew (hB2.alloc hB2.size (.cells (cmCells (rNumI a0) (1) (rNumI a2) (rNumI a3) (0) (0) (0)) 32))).trans (hb5.mono (by simp; omega)); clear hb5; have q5 := (cells_at r5).1; have u5 := cells_free r5; have S9 : Has w5 w.heap.size := ⟨_, _, r5, rfl⟩; obtain ⟨X0, X1, X2, X3, X4, X5⟩ := S9.all; clear r5))
      refine bodyPost_ret (v := .tuple #[.agg (cmCells 0 0 0 0 0 0 0), .int .i64 2]) (by simp [results, Tryd.results17, go_sem, Has.self, S9, X0, X1, X2, X3, X4, X5]) rfl ?_
      rw [RFin_no (c := ⟨rNumI a0, 1, rNumI a2, rNumI a3, 0, 0, 0⟩) (Or.inl hm)]
      exact ⟨rfl, ((((((B5.setCell (by simp) _).setCell (by simp) _).setCell (by simp) _).setCell (by simp) _).setCell (by simp) _).setCell (by simp) _).setCell (by simp) _⟩
    · have hO := fun W => rOne (rNumI a0) (1) (rNumI a2) (rNumI a3) (0) (0) (0) W
      rw [hm] at hO
      have hT := fun W => rText ⟨rNumI a0, 1, rNumI a2, rNumI a3, 0, 0, 0⟩ hm W
      by_cases ht : Cm.text ⟨rNumI a0, 1, rNumI a2, rNumI a3, 0, 0, 0⟩ = l
      · have tb : (Cm.text ⟨rNumI a0, 1, rNumI a2, rNumI a3, 0, 0, 0⟩ == l) = true := by simpa using ht
        have tb' : (Cm.text ⟨rNumI a0, 1, rNumI a2, rNumI a3, 0, 0, 0⟩ != l) = false := by simpa using ht
        have HT := hid ht
        clear ht
        go_wp2_with (first
          | (go_at_call 32; refine (rNum _ (by assumption) _).mono ?_; rintro e w' ⟨rfl, rfl⟩)
          | (go_at_call 14; refine (hO _).mono ?_; rintro e w5 ⟨rfl, hb5⟩; have r5 : w5.heap[w.heap.size]? = _ := (hb5.block _ (by simp; omega)).trans ((Below.heap_alloc _ _ _ hlt2).trans rb); have k5 : w5.heap[w2.heap.size]? = some (.cells (cmCells (rNumI a0) (1) (rNumI a2) (rNumI a3) (0) (0) (0)) 32 (0, 0)) := (hb5.block _ (by simp)).trans (ha_new _ _ _ rfl); have B5 : Below w.heap.size w w5 := (Below.drew (hB2.alloc hB2.size (.cells (cmCells (rNumI a0) (1) (rNumI a2) (rNumI a3) (0) (0) (0)) 32))).trans (hb5.mono (by simp; omega)); clear hb5; have q5 := (cells_at k5).1)
          | (go_at_call 15; refine (hT _).mono ?_; rintro e w6 ⟨rfl, hb6⟩; have r6 : w6.heap[w.heap.size]? = _ := (hb6.block _ (Array.getElem?_eq_some_iff.1 r5).1).trans r5; have k6 := (hb6.block _ (Array.getElem?_eq_some_iff.1 k5).1).trans k5; have B6 : Below w.heap.size w w6 := B5.trans (hb6.mono B5.size); clear hb6 q5; have q6 := (cells_at k6).1; have p6 := (cells_at r6).1; have u6 := cells_free r6; have S9 : Has w6 w.heap.size := ⟨_, _, r6, rfl⟩; obtain ⟨X0, X1, X2, X3, X4, X5⟩ := S9.all; clear r6 k6 r5 k5))
        refine bodyPost_ret (v := .tuple #[.agg (cmCells (rNumI a0) (1) (rNumI a2) (rNumI a3) (0) (0) (0)), .int .i64 0]) (by simp [results, Tryd.results17, go_sem, Has.self, S9, X0, X1, X2, X3, X4, X5]) rfl ?_
        rw [RFin_yes (c := ⟨rNumI a0, 1, rNumI a2, rNumI a3, 0, 0, 0⟩) hm HT.out]
        exact ⟨rfl, ((((((B6.setCell (by simp) _).setCell (by simp) _).setCell (by simp) _).setCell (by simp) _).setCell (by simp) _).setCell (by simp) _).setCell (by simp) _⟩
      · have tb : (Cm.text ⟨rNumI a0, 1, rNumI a2, rNumI a3, 0, 0, 0⟩ == l) = false := by simpa using ht
        have tb' : (Cm.text ⟨rNumI a0, 1, rNumI a2, rNumI a3, 0, 0, 0⟩ != l) = true := by simpa using ht
        have HT := hid ht
        clear ht
        go_wp2_with (first
          | (go_at_call 32; refine (rNum _ (by assumption) _).mono ?_; rintro e w' ⟨rfl, rfl⟩)
          | (go_at_call 14; refine (hO _).mono ?_; rintro e w5 ⟨rfl, hb5⟩; have r5 : w5.heap[w.heap.size]? = _ := (hb5.block _ (by simp; omega)).trans ((Below.heap_alloc _ _ _ hlt2).trans rb); have k5 : w5.heap[w2.heap.size]? = some (.cells (cmCells (rNumI a0) (1) (rNumI a2) (rNumI a3) (0) (0) (0)) 32 (0, 0)) := (hb5.block _ (by simp)).trans (ha_new _ _ _ rfl); have B5 : Below w.heap.size w w5 := (Below.drew (hB2.alloc hB2.size (.cells (cmCells (rNumI a0) (1) (rNumI a2) (rNumI a3) (0) (0) (0)) 32))).trans (hb5.mono (by simp; omega)); clear hb5; have q5 := (cells_at k5).1)
          | (go_at_call 15; refine (hT _).mono ?_; rintro e w6 ⟨rfl, hb6⟩; have r6 : w6.heap[w.heap.size]? = _ := (hb6.block _ (Array.getElem?_eq_some_iff.1 r5).1).trans r5; have B6 : Below w.heap.size w w6 := B5.trans (hb6.mono B5.size); clear hb6 q5; have p6 := (cells_at r6).1; have u6 := cells_free r6; have S9 : Has w6 w.heap.size := ⟨_, _, r6, rfl⟩; obtain ⟨X0, X1, X2, X3, X4, X5⟩ := S9.all; clear r6 r5 k5))
        refine bodyPost_ret (v := .tuple #[.agg (cmCells 0 0 0 0 0 0 0), .int .i64 2]) (by simp [results, Tryd.results17, go_sem, Has.self, S9, X0, X1, X2, X3, X4, X5]) rfl ?_
        rw [RFin_no (c := ⟨rNumI a0, 1, rNumI a2, rNumI a3, 0, 0, 0⟩) (Or.inr HT.out)]
        exact ⟨rfl, ((((((B6.setCell (by simp) _).setCell (by simp) _).setCell (by simp) _).setCell (by simp) _).setCell (by simp) _).setCell (by simp) _).setCell (by simp) _⟩

set_option maxHeartbeats 2000000 in
set_option maxRecDepth 100000 in
theorem rParseAmend (l a0 a1 a2 a3 a4 a5 : List UInt8) (hl : l.length ≤ 1000) (e0 : Hid (allW (accW ([], []) l) ++ [[], [], [], [], [], []] = a0 :: a1 :: a2 :: a3 :: a4 :: a5 :: (allW (accW ([], []) l) ++ [[], [], [], [], [], []]).drop 6)) (ta1wPlace : (a1 == [112, 108, 97, 99, 101]) = false) (ta1wCancel : (a1 == [99, 97, 110, 99, 101, 108]) = false) (ta1wAmend : (a1 == [97, 109, 101, 110, 100]) = true) (w : World) :
    Calls Tryd.prog 17 #[str l] w fun e w' => e = .returned (.tuple #[cmOf (RFin ⟨rNumI a0, 2, rNumI a2, rNumI a3, 0, 0, rNumI a4⟩ l).1, .int .i64 (RFin ⟨rNumI a0, 2, rNumI a2, rNumI a3, 0, 0, rNumI a4⟩ l).2]) ∧ Below w.heap.size w w' := by
  obtain ⟨i0, hi9, hz0, hz1, hz2⟩ := info_parts infoS
  have hsh := accW_short 0 l ([], []) (by simp [allW])
  have hsA : Hid (∀ x ∈ allW (accW ([], []) l) ++ [[], [], [], [], [], []], x.length ≤ 1000) := fun x hx => by
    rcases List.mem_append.1 hx with h | h
    · have := hsh x h; omega
    · simp at h; subst h; simp
  have s0 : a0.length ≤ 1000 := hsA.out a0 (by rw [e0.out]; simp)
  have s2 : a2.length ≤ 1000 := hsA.out a2 (by rw [e0.out]; simp)
  have s3 : a3.length ≤ 1000 := hsA.out a3 (by rw [e0.out]; simp)
  have s4 : a4.length ≤ 1000 := hsA.out a4 (by rw [e0.out]; simp)
  have s5 : a5.length ≤ 1000 := hsA.out a5 (by rw [e0.out]; simp)
  have hlen := accW_len ([], []) l
  simp at hlen
  clear hsA hsh
  generalize hac : accW ([], []) l = ac at hlen e0
  have HAC := hid hac
  clear hac
  go_enter Tryd.func17, Tryd.ntmps17
  go_wp2_with fail
  refine (rWords ⟨l.toArray⟩ (by simpa [ByteArray.size] using hl) _).mono ?_
  rintro e w1 ⟨v, rfl, hrel⟩
  have hrel' : WRel (w.alloc (.cells (cmCells 0 0 0 0 0 0 0) 32)) ac v w1 := by have := hrel; rw [show accW ([], []) (⟨l.toArray⟩ : ByteArray).data.toList = ac from HAC.out] at this; exact this
  clear hrel
  obtain ⟨g, cap, rfl, hown, hB⟩ := hrel'
  have hB' := hid hB
  have hs1 := hB.size
  have hlt1 := hown.lt g rfl
  simp at hs1 hlt1
  go_wp2_with (at_builtin; refine wpList_append_lies _ rfl _ _ 46 rfl (w.heap.size + 1) 9 i0 (.string ⟨#[]⟩) 1 16 Tryd.underlying46 hi9 hz0 hz1 hz2 rfl (by omega) (.slice (some ⟨g, 0, none⟩) (ac.1.length + 1) cap) (ac.1.length + 1) ((allW ac).map str) rfl (World.ownsRow.alloc (by simpa using hown) _) ⟨w1.heap.size, 0, none⟩ 6 6 [str [], str [], str [], str [], str [], str []] rfl rfl (World.news_of_block (cs := #[str [], str [], str [], str [], str [], str []]) (t := 9) (fr := (0, 0)) (heap_alloc_new w1 _)) (by simp [Value.oneCell']) (by omega) (by unfold maxLen; omega) (by omega) (by simp; omega) (w1.heap.size + 1) (by simp) ?_; intro g1 cap1 w2 own1 grow1 at1 ltg1; refine Hid.out ?_)
  refine Lib.hid ?_
  have hB2 : Below w.heap.size w w2 := by
    refine ((((Below.refl w.heap.size w).alloc (Nat.le_refl _) _).trans (hB'.out.mono (by simp))).alloc ?_ _).grown grow1 ?_ ?_
    · omega
    · simp; omega
    · intro j hj; cases hj; show w.heap.size ≤ g; omega
  have rb : w2.heap[w.heap.size]? = some (.cells (cmCells 0 0 0 0 0 0 0) 32 (0, 0)) := by
    rw [grow1.block _ (by simp; omega) (by simp [Value.ownBlock]; omega), Below.heap_alloc _ _ _ (by omega), hB'.out.block _ (by simp)]
    exact ha_new _ _ _ rfl
  have e1 : ((allW ac).map str ++ [str [], str [], str [], str [], str [], str []]) = (a0 :: a1 :: a2 :: a3 :: a4 :: a5 :: (allW ac ++ [[], [], [], [], [], []]).drop 6).map str := by
    rw [← e0.out]; simp
  rw [e1] at own1
  have rc := (row_cells own1).1
  have d0 : w2.cell? ⟨g1, 0, none⟩ = some (str a0) := rc 0 a0 rfl
  have d1 : w2.cell? ⟨g1, 1, none⟩ = some (str a1) := rc 1 a1 rfl
  have d2 : w2.cell? ⟨g1, 2, none⟩ = some (str a2) := rc 2 a2 rfl
  have d3 : w2.cell? ⟨g1, 3, none⟩ = some (str a3) := rc 3 a3 rfl
  have d4 : w2.cell? ⟨g1, 4, none⟩ = some (str a4) := rc 4 a4 rfl
  have d5 : w2.cell? ⟨g1, 5, none⟩ = some (str a5) := rc 5 a5 rfl
  have hlt2 : w.heap.size < w2.heap.size := (Array.getElem?_eq_some_iff.1 rb).1
  clear rc own1 grow1 at1 hown hB hB' hs1 hlt1 e1
  have n0 : (0 : Int) < (ac.1.length : Int) + 1 + 6 := by omega
  have n1 : (1 : Int) < (ac.1.length : Int) + 1 + 6 := by omega
  have n2 : (2 : Int) < (ac.1.length : Int) + 1 + 6 := by omega
  have n3 : (3 : Int) < (ac.1.length : Int) + 1 + 6 := by omega
  have n4 : (4 : Int) < (ac.1.length : Int) + 1 + 6 := by omega
  have n5 : (5 : Int) < (ac.1.length : Int) + 1 + 6 := by omega
  go_wp2_with fail
  go_region_held3 (fun w' => w'.cell? ⟨g1, 0, none⟩ = some (str a0) ∧ w'.cell? ⟨g1, 2, none⟩ = some (str a2)) (first | exact ⟨d0, d2⟩ | go_keep)
    (first | (go_at_call 32; refine (rNum _ (by assumption) _).mono ?_; rintro e w' ⟨rfl, rfl⟩))
  all_goals
    rcases hm : oneB (rNumI a0) (2) (rNumI a2) (rNumI a3) (0) (0) (rNumI a4) with _ | _
    · have hO := fun W => rOne (rNumI a0) (2) (rNumI a2) (rNumI a3) (0) (0) (rNumI a4) W
      rw [hm] at hO
      go_wp2_with (first
        | (go_at_call 32; refine (rNum _ (by assumption) _).mono ?_; rintro e w' ⟨rfl, rfl⟩)
        | (go_at_call 14; refine (hO _).mono ?_; rintro e w5 ⟨rfl, hb5⟩; have r5 : w5.heap[w.heap.size]? = _ := (hb5.block _ (by simp; omega)).trans ((Below.heap_alloc _ _ _ hlt2).trans rb); have B5 : Below w.heap.size w w5 := (Below.drew (hB2.alloc hB2.size (.cells (cmCells (rNumI a0) (2) (rNumI a2) (rNumI a3) (0) (0) (rNumI a4)) 32))).trans (hb5.mono (by simp; omega)); clear hb5; have q5 := (cells_at r5).1; have u5 := cells_free r5; have S9 : Has w5 w.heap.size := ⟨_, _, r5, rfl⟩; obtain ⟨X0, X1, X2, X3, X4, X5⟩ := S9.all; clear r5))
      refine bodyPost_ret (v := .tuple #[.agg (cmCells 0 0 0 0 0 0 0), .int .i64 2]) (by simp [results, Tryd.results17, go_sem, Has.self, S9, X0, X1, X2, X3, X4, X5]) rfl ?_
      rw [RFin_no (c := ⟨rNumI a0, 2, rNumI a2, rNumI a3, 0, 0, rNumI a4⟩) (Or.inl hm)]
      exact ⟨rfl, ((((((B5.setCell (by simp) _).setCell (by simp) _).setCell (by simp) _).setCell (by simp) _).setCell (by simp) _).setCell (by simp) _).setCell (by simp) _⟩
    · have hO := fun W => rOne (rNumI a0) (2) (rNumI a2) (rNumI a3) (0) (0) (rNumI a4) W
      rw [hm] at hO
      have hT := fun W => rText ⟨rNumI a0, 2, rNumI a2, rNumI a3, 0, 0, rNumI a4⟩ hm W
      by_cases ht : Cm.text ⟨rNumI a0, 2, rNumI a2, rNumI a3, 0, 0, rNumI a4⟩ = l
      · have tb : (Cm.text ⟨rNumI a0, 2, rNumI a2, rNumI a3, 0, 0, rNumI a4⟩ == l) = true := by simpa using ht
        have tb' : (Cm.text ⟨rNumI a0, 2, rNumI a2, rNumI a3, 0, 0, rNumI a4⟩ != l) = false := by simpa using ht
        have HT := hid ht
        clear ht
        go_wp2_with (first
          | (go_at_call 32; refine (rNum _ (by assumption) _).mono ?_; rintro e w' ⟨rfl, rfl⟩)
          | (go_at_call 14; refine (hO _).mono ?_; rintro e w5 ⟨rfl, hb5⟩; have r5 : w5.heap[w.heap.size]? = _ := (hb5.block _ (by simp; omega)).trans ((Below.heap_alloc _ _ _ hlt2).trans rb); have k5 : w5.heap[w2.heap.size]? = some (.cells (cmCells (rNumI a0) (2) (rNumI a2) (rNumI a3) (0) (0) (rNumI a4)) 32 (0, 0)) := (hb5.block _ (by simp)).trans (ha_new _ _ _ rfl); have B5 : Below w.heap.size w w5 := (Below.drew (hB2.alloc hB2.size (.cells (cmCells (rNumI a0) (2) (rNumI a2) (rNumI a3) (0) (0) (rNumI a4)) 32))).trans (hb5.mono (by simp; omega)); clear hb5; have q5 := (cells_at k5).1)
          | (go_at_call 15; refine (hT _).mono ?_; rintro e w6 ⟨rfl, hb6⟩; have r6 : w6.heap[w.heap.size]? = _ := (hb6.block _ (Array.getElem?_eq_some_iff.1 r5).1).trans r5; have k6 := (hb6.block _ (Array.getElem?_eq_some_iff.1 k5).1).trans k5; have B6 : Below w.heap.size w w6 := B5.trans (hb6.mono B5.size); clear hb6 q5; have q6 := (cells_at k6).1; have p6 := (cells_at r6).1; have u6 := cells_free r6; have S9 : Has w6 w.heap.size := ⟨_, _, r6, rfl⟩; obtain ⟨X0, X1, X2, X3, X4, X5⟩ := S9.all; clear r6 k6 r5 k5))
        refine bodyPost_ret (v := .tuple #[.agg (cmCells (rNumI a0) (2) (rNumI a2) (rNumI a3) (0) (0) (rNumI a4)), .int .i64 0]) (by simp [results, Tryd.results17, go_sem, Has.self, S9, X0, X1, X2, X3, X4, X5]) rfl ?_
        rw [RFin_yes (c := ⟨rNumI a0, 2, rNumI a2, rNumI a3, 0, 0, rNumI a4⟩) hm HT.out]
        exact ⟨rfl, ((((((B6.setCell (by simp) _).setCell (by simp) _).setCell (by simp) _).setCell (by simp) _).setCell (by simp) _).setCell (by simp) _).setCell (by simp) _⟩
      · have tb : (Cm.text ⟨rNumI a0, 2, rNumI a2, rNumI a3, 0, 0, rNumI a4⟩ == l) = false := by simpa using ht
        have tb' : (Cm.text ⟨rNumI a0, 2, rNumI a2, rNumI a3, 0, 0, rNumI a4⟩ != l) = true := by simpa using ht
        have HT := hid ht
        clear ht
        go_wp2_with (first
          | (go_at_call 32; refine (rNum _ (by assumption) _).mono ?_; rintro e w' ⟨rfl, rfl⟩)
          | (go_at_call 14; refine (hO _).mono ?_; rintro e w5 ⟨rfl, hb5⟩; have r5 : w5.heap[w.heap.size]? = _ := (hb5.block _ (by simp; omega)).trans ((Below.heap_alloc _ _ _ hlt2).trans rb); have k5 : w5.heap[w2.heap.size]? = some (.cells (cmCells (rNumI a0) (2) (rNumI a2) (rNumI a3) (0) (0) (rNumI a4)) 32 (0, 0)) := (hb5.block _ (by simp)).trans (ha_new _ _ _ rfl); have B5 : Below w.heap.size w w5 := (Below.drew (hB2.alloc hB2.size (.cells (cmCells (rNumI a0) (2) (rNumI a2) (rNumI a3) (0) (0) (rNumI a4)) 32))).trans (hb5.mono (by simp; omega)); clear hb5; have q5 := (cells_at k5).1)
          | (go_at_call 15; refine (hT _).mono ?_; rintro e w6 ⟨rfl, hb6⟩; have r6 : w6.heap[w.heap.size]? = _ := (hb6.block _ (Array.getElem?_eq_some_iff.1 r5).1).trans r5; have B6 : Below w.heap.size w w6 := B5.trans (hb6.mono B5.size); clear hb6 q5; have p6 := (cells_at r6).1; have u6 := cells_free r6; have S9 : Has w6 w.heap.size := ⟨_, _, r6, rfl⟩; obtain ⟨X0, X1, X2, X3, X4, X5⟩ := S9.all; clear r6 r5 k5))
        refine bodyPost_ret (v := .tuple #[.agg (cmCells 0 0 0 0 0 0 0), .int .i64 2]) (by simp [results, Tryd.results17, go_sem, Has.self, S9, X0, X1, X2, X3, X4, X5]) rfl ?_
        rw [RFin_no (c := ⟨rNumI a0, 2, rNumI a2, rNumI a3, 0, 0, rNumI a4⟩) (Or.inr HT.out)]
        exact ⟨rfl, ((((((B6.setCell (by simp) _).setCell (by simp) _).setCell (by simp) _).setCell (by simp) _).setCell (by simp) _).setCell (by simp) _).setCell (by simp) _⟩

set_option maxHeartbeats 2000000 in
set_option maxRecDepth 100000 in
theorem rParseNone (l a0 a1 a2 a3 a4 a5 : List UInt8) (hl : l.length ≤ 1000) (e0 : Hid (allW (accW ([], []) l) ++ [[], [], [], [], [], []] = a0 :: a1 :: a2 :: a3 :: a4 :: a5 :: (allW (accW ([], []) l) ++ [[], [], [], [], [], []]).drop 6)) (ta1wPlace : (a1 == [112, 108, 97, 99, 101]) = false) (ta1wCancel : (a1 == [99, 97, 110, 99, 101, 108]) = false) (ta1wAmend : (a1 == [97, 109, 101, 110, 100]) = false) (w : World) :
    Calls Tryd.prog 17 #[str l] w fun e w' => e = .returned (.tuple #[cmOf (RFin ⟨rNumI a0, 0, rNumI a2, 0, 0, 0, 0⟩ l).1, .int .i64 (RFin ⟨rNumI a0, 0, rNumI a2, 0, 0, 0, 0⟩ l).2]) ∧ Below w.heap.size w w' := by
  obtain ⟨i0, hi9, hz0, hz1, hz2⟩ := info_parts infoS
  have hsh := accW_short 0 l ([], []) (by simp [allW])
  have hsA : Hid (∀ x ∈ allW (accW ([], []) l) ++ [[], [], [], [], [], []], x.length ≤ 1000) := fun x hx => by
    rcases List.mem_append.1 hx with h | h
    · have := hsh x h; omega
    · simp at h; subst h; simp
  have s0 : a0.length ≤ 1000 := hsA.out a0 (by rw [e0.out]; simp)
  have s2 : a2.length ≤ 1000 := hsA.out a2 (by rw [e0.out]; simp)
  have s3 : a3.length ≤ 1000 := hsA.out a3 (by rw [e0.out]; simp)
  have s4 : a4.length ≤ 1000 := hsA.out a4 (by rw [e0.out]; simp)
  have s5 : a5.length ≤ 1000 := hsA.out a5 (by rw [e0.out]; simp)
  have hlen := accW_len ([], []) l
  simp at hlen
  clear hsA hsh
  generalize hac : accW ([], []) l = ac at hlen e0
  have HAC := hid hac
  clear hac
  go_enter Tryd.func17, Tryd.ntmps17
  go_wp2_with fail
  refine (rWords ⟨l.toArray⟩ (by simpa [ByteArray.size] using hl) _).mono ?_
  rintro e w1 ⟨v, rfl, hrel⟩
  have hrel' : WRel (w.alloc (.cells (cmCells 0 0 0 0 0 0 0) 32)) ac v w1 := by have := hrel; rw [show accW ([], []) (⟨l.toArray⟩ : ByteArray).data.toList = ac from HAC.out] at this; exact this
  clear hrel
  obtain ⟨g, cap, rfl, hown, hB⟩ := hrel'
  have hB' := hid hB
  have hs1 := hB.size
  have hlt1 := hown.lt g rfl
  simp at hs1 hlt1
  go_wp2_with (at_builtin; refine wpList_append_lies _ rfl _ _ 46 rfl (w.heap.size + 1) 9 i0 (.string ⟨#[]⟩) 1 16 Tryd.underlying46 hi9 hz0 hz1 hz2 rfl (by omega) (.slice (some ⟨g, 0, none⟩) (ac.1.length + 1) cap) (ac.1.length + 1) ((allW ac).map str) rfl (World.ownsRow.alloc (by simpa using hown) _) ⟨w1.heap.size, 0, none⟩ 6 6 [str [], str [], str [], str [], str [], str []] rfl rfl (World.news_of_block (cs := #[str [], str [], str [], str [], str [], str []]) (t := 9) (fr := (0, 0)) (heap_alloc_new w1 _)) (by simp [Value.oneCell']) (by omega) (by unfold maxLen; omega) (by omega) (by simp; omega) (w1.heap.size + 1) (by simp) ?_; intro g1 cap1 w2 own1 grow1 at1 ltg1; refine Hid.out ?_)
  refine Lib.hid ?_
  have hB2 : Below w.heap.size w w2 := by
    refine ((((Below.refl w.heap.size w).alloc (Nat.le_refl _) _).trans (hB'.out.mono (by simp))).alloc ?_ _).grown grow1 ?_ ?_
    · omega
    · simp; omega
    · intro j hj; cases hj; show w.heap.size ≤ g; omega
  have rb : w2.heap[w.heap.size]? = some (.cells (cmCells 0 0 0 0 0 0 0) 32 (0, 0)) := by
    rw [grow1.block _ (by simp; omega) (by simp [Value.ownBlock]; omega), Below.heap_alloc _ _ _ (by omega), hB'.out.block _ (by simp)]
    exact ha_new _ _ _ rfl
  have e1 : ((allW ac).map str ++ [str [], str [], str [], str [], str [], str []]) = (a0 :: a1 :: a2 :: a3 :: a4 :: a5 :: (allW ac ++ [[], [], [], [], [], []]).drop 6).map str := by
    rw [← e0.out]; simp
  rw [e1] at own1
  have rc := (row_cells own1).1
  have d0 : w2.cell? ⟨g1, 0, none⟩ = some (str a0) := rc 0 a0 rfl
  have d1 : w2.cell? ⟨g1, 1, none⟩ = some (str a1) := rc 1 a1 rfl
  have d2 : w2.cell? ⟨g1, 2, none⟩ = some (str a2) := rc 2 a2 rfl
  have d3 : w2.cell? ⟨g1, 3, none⟩ = some (str a3) := rc 3 a3 rfl
  have d4 : w2.cell? ⟨g1, 4, none⟩ = some (str a4) := rc 4 a4 rfl
  have d5 : w2.cell? ⟨g1, 5, none⟩ = some (str a5) := rc 5 a5 rfl
  have hlt2 : w.heap.size < w2.heap.size := (Array.getElem?_eq_some_iff.1 rb).1
  clear rc own1 grow1 at1 hown hB hB' hs1 hlt1 e1
  have n0 : (0 : Int) < (ac.1.length : Int) + 1 + 6 := by omega
  have n1 : (1 : Int) < (ac.1.length : Int) + 1 + 6 := by omega
  have n2 : (2 : Int) < (ac.1.length : Int) + 1 + 6 := by omega
  have n3 : (3 : Int) < (ac.1.length : Int) + 1 + 6 := by omega
  have n4 : (4 : Int) < (ac.1.length : Int) + 1 + 6 := by omega
  have n5 : (5 : Int) < (ac.1.length : Int) + 1 + 6 := by omega
  go_wp2_with fail
  go_region_held3 (fun w' => w'.cell? ⟨g1, 0, none⟩ = some (str a0) ∧ w'.cell? ⟨g1, 2, none⟩ = some (str a2)) (first | exact ⟨d0, d2⟩ | go_keep)
    (first | (go_at_call 32; refine (rNum _ (by assumption) _).mono ?_; rintro e w' ⟨rfl, rfl⟩))
  all_goals
    rcases hm : oneB (rNumI a0) (0) (rNumI a2) (0) (0) (0) (0) with _ | _
    · have hO := fun W => rOne (rNumI a0) (0) (rNumI a2) (0) (0) (0) (0) W
      rw [hm] at hO
      go_wp2_with (first
        | (go_at_call 32; refine (rNum _ (by assumption) _).mono ?_; rintro e w' ⟨rfl, rfl⟩)
        | (go_at_call 14; refine (hO _).mono ?_; rintro e w5 ⟨rfl, hb5⟩; have r5 : w5.heap[w.heap.size]? = _ := (hb5.block _ (by simp; omega)).trans ((Below.heap_alloc _ _ _ hlt2).trans rb); have B5 : Below w.heap.size w w5 := (Below.drew (hB2.alloc hB2.size (.cells (cmCells (rNumI a0) (0) (rNumI a2) (0) (0) (0) (0)) 32))).trans (hb5.mono (by simp; omega)); clear hb5; have q5 := (cells_at r5).1; have u5 := cells_free r5; have S9 : Has w5 w.heap.size := ⟨_, _, r5, rfl⟩; obtain ⟨X0, X1, X2, X3, X4, X5⟩ := S9.all; clear r5))
      refine bodyPost_ret (v := .tuple #[.agg (cmCells 0 0 0 0 0 0 0), .int .i64 2]) (by simp [results, Tryd.results17, go_sem, Has.self, S9, X0, X1, X2, X3, X4, X5]) rfl ?_
      rw [RFin_no (c := ⟨rNumI a0, 0, rNumI a2, 0, 0, 0, 0⟩) (Or.inl hm)]
      exact ⟨rfl, ((((((B5.setCell (by simp) _).setCell (by simp) _).setCell (by simp) _).setCell (by simp) _).setCell (by simp) _).setCell (by simp) _).setCell (by simp) _⟩
    · have hO := fun W => rOne (rNumI a0) (0) (rNumI a2) (0) (0) (0) (0) W
      rw [hm] at hO
      have hT := fun W => rText ⟨rNumI a0, 0, rNumI a2, 0, 0, 0, 0⟩ hm W
      by_cases ht : Cm.text ⟨rNumI a0, 0, rNumI a2, 0, 0, 0, 0⟩ = l
      · have tb : (Cm.text ⟨rNumI a0, 0, rNumI a2, 0, 0, 0, 0⟩ == l) = true := by simpa using ht
        have tb' : (Cm.text ⟨rNumI a0, 0, rNumI a2, 0, 0, 0, 0⟩ != l) = false := by simpa using ht
        have HT := hid ht
        clear ht
        go_wp2_with (first
          | (go_at_call 32; refine (rNum _ (by assumption) _).mono ?_; rintro e w' ⟨rfl, rfl⟩)
          | (go_at_call 14; refine (hO _).mono ?_; rintro e w5 ⟨rfl, hb5⟩; have r5 : w5.heap[w.heap.size]? = _ := (hb5.block _ (by simp; omega)).trans ((Below.heap_alloc _ _ _ hlt2).trans rb); have k5 : w5.heap[w2.heap.size]? = some (.cells (cmCells (rNumI a0) (0) (rNumI a2) (0) (0) (0) (0)) 32 (0, 0)) := (hb5.block _ (by simp)).trans (ha_new _ _ _ rfl); have B5 : Below w.heap.size w w5 := (Below.drew (hB2.alloc hB2.size (.cells (cmCells (rNumI a0) (0) (rNumI a2) (0) (0) (0) (0)) 32))).trans (hb5.mono (by simp; omega)); clear hb5; have q5 := (cells_at k5).1)
          | (go_at_call 15; refine (hT _).mono ?_; rintro e w6 ⟨rfl, hb6⟩; have r6 : w6.heap[w.heap.size]? = _ := (hb6.block _ (Array.getElem?_eq_some_iff.1 r5).1).trans r5; have k6 := (hb6.block _ (Array.getElem?_eq_some_iff.1 k5).1).trans k5; have B6 : Below w.heap.size w w6 := B5.trans (hb6.mono B5.size); clear hb6 q5; have q6 := (cells_at k6).1; have p6 := (cells_at r6).1; have u6 := cells_free r6; have S9 : Has w6 w.heap.size := ⟨_, _, r6, rfl⟩; obtain ⟨X0, X1, X2, X3, X4, X5⟩ := S9.all; clear r6 k6 r5 k5))
        refine bodyPost_ret (v := .tuple #[.agg (cmCells (rNumI a0) (0) (rNumI a2) (0) (0) (0) (0)), .int .i64 0]) (by simp [results, Tryd.results17, go_sem, Has.self, S9, X0, X1, X2, X3, X4, X5]) rfl ?_
        rw [RFin_yes (c := ⟨rNumI a0, 0, rNumI a2, 0, 0, 0, 0⟩) hm HT.out]
        exact ⟨rfl, ((((((B6.setCell (by simp) _).setCell (by simp) _).setCell (by simp) _).setCell (by simp) _).setCell (by simp) _).setCell (by simp) _).setCell (by simp) _⟩
      · have tb : (Cm.text ⟨rNumI a0, 0, rNumI a2, 0, 0, 0, 0⟩ == l) = false := by simpa using ht
        have tb' : (Cm.text ⟨rNumI a0, 0, rNumI a2, 0, 0, 0, 0⟩ != l) = true := by simpa using ht
        have HT := hid ht
        clear ht
        go_wp2_with (first
          | (go_at_call 32; refine (rNum _ (by assumption) _).mono ?_; rintro e w' ⟨rfl, rfl⟩)
          | (go_at_call 14; refine (hO _).mono ?_; rintro e w5 ⟨rfl, hb5⟩; have r5 : w5.heap[w.heap.size]? = _ := (hb5.block _ (by simp; omega)).trans ((Below.heap_alloc _ _ _ hlt2).trans rb); have k5 : w5.heap[w2.heap.size]? = some (.cells (cmCells (rNumI a0) (0) (rNumI a2) (0) (0) (0) (0)) 32 (0, 0)) := (hb5.block _ (by simp)).trans (ha_new _ _ _ rfl); have B5 : Below w.heap.size w w5 := (Below.drew (hB2.alloc hB2.size (.cells (cmCells (rNumI a0) (0) (rNumI a2) (0) (0) (0) (0)) 32))).trans (hb5.mono (by simp; omega)); clear hb5; have q5 := (cells_at k5).1)
          | (go_at_call 15; refine (hT _).mono ?_; rintro e w6 ⟨rfl, hb6⟩; have r6 : w6.heap[w.heap.size]? = _ := (hb6.block _ (Array.getElem?_eq_some_iff.1 r5).1).trans r5; have B6 : Below w.heap.size w w6 := B5.trans (hb6.mono B5.size); clear hb6 q5; have p6 := (cells_at r6).1; have u6 := cells_free r6; have S9 : Has w6 w.heap.size := ⟨_, _, r6, rfl⟩; obtain ⟨X0, X1, X2, X3, X4, X5⟩ := S9.all; clear r6 r5 k5))
        refine bodyPost_ret (v := .tuple #[.agg (cmCells 0 0 0 0 0 0 0), .int .i64 2]) (by simp [results, Tryd.results17, go_sem, Has.self, S9, X0, X1, X2, X3, X4, X5]) rfl ?_
        rw [RFin_no (c := ⟨rNumI a0, 0, rNumI a2, 0, 0, 0, 0⟩) (Or.inr HT.out)]
        exact ⟨rfl, ((((((B6.setCell (by simp) _).setCell (by simp) _).setCell (by simp) _).setCell (by simp) _).setCell (by simp) _).setCell (by simp) _).setCell (by simp) _⟩

end Go.Proofs.YtobndmolnliejaaDoor

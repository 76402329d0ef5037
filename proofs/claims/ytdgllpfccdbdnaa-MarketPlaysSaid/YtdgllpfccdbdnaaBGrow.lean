/- slices.Insert at orders, where there is no room; and all its ways. -/
import Derived.Test.YtdgllpfccdbdnaaBIns
namespace Go.Proofs.Ytdgllpfccdbdnaa
set_option linter.unusedVariables false
open Go.RowKit
open Go.Lib (hid)

set_option maxHeartbeats 4000000 in
set_option maxRecDepth 100000 in
theorem cInsGrow {w : World} {B : Nat} {l : List Od} {g cap : Nat} (h : OwnO w B (.slice (some ⟨g, 0, none⟩) l.length cap) l) (hB : B ≤ w.heap.size) (hnc : l.length ≤ cap)
    (hl : l.length ≤ 1000000) (i : Nat) (hi : i < l.length) (hroom : ¬ l.length + 1 ≤ cap) (x : Od) (vb : Nat) (hv : w.heap[vb]? = some (.cells #[.int .i64 x.i, .int .i64 x.s, .int .i64 x.p, .int .i64 x.n] 52 (0, 0))) :
    Calls Try.prog 65 #[.slice (some ⟨g, 0, none⟩) l.length cap, .int .i64 i, .slice (some ⟨vb, 0, none⟩) 1 1] w fun e w' => ∃ v', e = .returned v' ∧ RowTo w w' B (.slice (some ⟨g, 0, none⟩) l.length cap) v' (insG l i x) := by
  obtain ⟨i0, hi0, hz0, hz1, hz2⟩ := info_parts Try.infoO
  have hcell := h.cells (g := g) rfl
  have hgb : g < w.heap.size := (h.lt g rfl).2
  have hvl : vb < w.heap.size := (Array.getElem?_eq_some_iff.1 hv).1
  obtain ⟨n, hnl⟩ : ∃ n, n = l.length := ⟨_, rfl⟩
  rw [← hnl] at hl hi hroom hnc ⊢
  obtain ⟨olds, holds⟩ : ∃ olds, olds = flatG Od.cells (l.take i) := ⟨_, rfl⟩
  have hol : olds.length = i * 4 := by rw [holds, flatG_len kO, List.length_take]; omega
  have hold : (Builtin.firstCells i0.size i (.slice (some ⟨g, 0, none⟩) i cap)).run Try.prog w.drew = .ok olds.toArray w.drew := by
    rw [hz1]
    exact run_firstCells_some w.drew 4 i ⟨g, 0, none⟩ i cap olds hol (fun j v hj => by
      have h2 : (flatG Od.cells l)[j]? = some v := by
        rw [holds, ← flat_take, List.getElem?_take] at hj
        split at hj
        · exact hj
        · cases hj
      exact hcell j v h2)
  have hik : i + (n + 1 - i) = n + 1 := by omega
  have hkk : (n : Int) + 1 - (i : Int) = ((n + 1 - i : Nat) : Int) := by omega
  obtain ⟨G, hG⟩ : ∃ G, G = grownCap w (n + 1) cap 52 := ⟨_, rfl⟩
  obtain ⟨zc, hzc⟩ : ∃ zc : Array Value, zc = (Value.agg #[.int .i64 0, .int .i64 0, .int .i64 0, .int .i64 0]).cells := ⟨_, rfl⟩
  have hzs : zc.size = 4 := by rw [hzc]; rfl
  obtain ⟨ROW, hROW⟩ : ∃ ROW : Array Value, ROW = olds.toArray ++ Builtin.zeroCells zc (n + 1 - i) ++ Builtin.zeroCells zc (G - (n + 1)) := ⟨_, rfl⟩
  obtain ⟨W1, hW1⟩ : ∃ W1, W1 = w.drew.alloc (.cells ROW 52) := ⟨_, rfl⟩
  obtain ⟨N, hN⟩ : ∃ N, N = w.heap.size := ⟨_, rfl⟩
  have hrz : ∀ ty, (Builtin.append_ #[48, 3] ty #[.slice (some ⟨g, 0, none⟩) i cap, .int .i64 ((n : Int) + 1 - (i : Int))]).run Try.prog w = .ok (.slice (some ⟨N, 0, none⟩) (n + 1) G) W1 := fun ty => by
    have h := Lib.run_append_grow_zeros w 48 3 ty 52 i0 _ .i64 .i64 Try.underlying48 Try.underlying3 hi0 hz0 (some ⟨g, 0, none⟩) i cap olds hold (n + 1 - i) (by omega) (by omega) (by omega) (by omega) (by rw [hz2]; omega) (by rw [hz2, hik]; exact growslice_fits (by omega) (by omega))
    rw [hik] at h
    rw [hkk, hN, hW1, hROW, hG, hzc]
    exact h
  have hGn : n + 1 ≤ G := by rw [hG]; exact grownCap_ge w _ _ _
  have hGm : G ≤ maxLen := by rw [hG]; exact grownCap_le_maxLen w _ _ _ (by unfold maxLen; omega)
  have hRs : ROW.size = G * 4 := by
    rw [hROW]
    simp only [Array.size_append, List.size_toArray, size_zeroCells, hzs, hol]
    omega
  have hRt : ROW.toList.take (i * 4) = olds := by
    rw [hROW]
    simp only [Array.toList_append, List.append_assoc]
    rw [← hol]
    exact List.take_left
  have B1 : Below N w W1 := by rw [hW1, hN]; exact (Below.refl _ w).drew.alloc (Nat.le_refl _) _
  have hg1 : W1.heap[N]? = some (.cells ROW 52 (0, 0)) := by rw [hW1, hN]; exact heap_alloc_new w.drew _
  -- the order is laid
  have hx : ∀ (j : Nat) u, x.cells[j]? = some u → W1.cell? ((⟨vb, 0, none⟩ : Addr).add j) = some u := fun j u hj => by
    rw [addr_add, B1.cell (p := ⟨vb, j, none⟩) (by rw [hN]; exact hvl), cellAt' hv]; simpa using hj
  have hcpA := fun ty dc => run_copyK (P := Try.prog) W1 48 48 ty 52 N (i * 4) (n + 1 - i) dc ⟨vb, 0, none⟩ 1 1 4 ROW 52 x.cells i0 Try.underlying48 hi0 hz1 hg1 (by rw [kO]; simp only [Nat.min_def]; split <;> omega) hx (by rw [kO, hRs]; omega) (oneO x)
  obtain ⟨L2, hL2⟩ : ∃ L2, L2 = splice ROW.toList (i * 4) x.cells := ⟨_, rfl⟩
  have hl2 : L2.length = G * 4 := by rw [hL2, splice_len (by rw [kO]; simp [hRs]; omega)]; simp [hRs]
  have ht2 : L2.take ((i + 1) * 4) = olds ++ x.cells := by rw [hL2, splice_mid (by simp [hRs]; omega) (by rw [kO]; omega), hRt]
  obtain ⟨W2, hW2⟩ : ∃ W2, W2 = W1.setRow N L2.toArray := ⟨_, rfl⟩
  rw [← hL2] at hcpA
  rw [← hW2] at hcpA
  have hg2 : W2.heap[N]? = some (.cells L2.toArray 52 (0, 0)) := by rw [hW2]; exact setRow_heap _ _ _ _ _ _ hg1
  have B2 : Below N w W2 := by rw [hW2]; exact below_setRow B1 (Nat.le_refl _) _
  -- the others are laid
  obtain ⟨cs, hcs⟩ : ∃ cs, cs = flatG Od.cells (l.drop i) := ⟨_, rfl⟩
  have hcl : cs.length = (n - i) * 4 := by rw [hcs, flatG_len kO, List.length_drop, hnl]
  have hsrc : ∀ (j : Nat) u, cs[j]? = some u → W2.drew.cell? ((⟨g, i * 4, none⟩ : Addr).add j) = some u := fun j u hu => by
    rw [addr_add']
    have h3 := B2.cell (p := ⟨g, i * 4 + j, none⟩) (by rw [hN]; exact hgb)
    have h4 := hcell (i * 4 + j) u (by rw [← List.getElem?_drop, flat_drop, ← hcs]; exact hu)
    rw [addr_add] at h4
    exact h3.trans h4
  have hg2d : W2.drew.heap[N]? = some (.cells L2.toArray 52 (0, 0)) := hg2
  have hcpB := fun ty dc sc => run_copyK (P := Try.prog) W2.drew 48 48 ty 52 N ((i + 1) * 4) (n - i) dc ⟨g, i * 4, none⟩ (n - i) sc 4 L2.toArray 52 cs i0 Try.underlying48 hi0 hz1 hg2d (by rw [hcl]; simp only [Nat.min_def]; split <;> omega) hsrc (by rw [hcl]; simp [hl2]; omega) (by rw [hcs]; exact flatG_all oneO _)
  obtain ⟨L3, hL3⟩ : ∃ L3, L3 = splice L2.toArray.toList ((i + 1) * 4) cs := ⟨_, rfl⟩
  have hl3 : L3.length = G * 4 := by rw [hL3, splice_len (by rw [hcl]; simp [hl2]; omega)]; simp [hl2]
  have ht3 : L3.take ((n + 1) * 4) = flatG Od.cells (insG l i x) := by
    rw [hL3, splice_mid (by simp [hl2]; omega) (by rw [hcl]; omega), flat_ins, ← hcs, ← holds]
    show L2.take ((i + 1) * 4) ++ cs = _
    rw [ht2, List.append_assoc]
  obtain ⟨W3, hW3⟩ : ∃ W3, W3 = W2.drew.setRow N L3.toArray := ⟨_, rfl⟩
  rw [← hL3] at hcpB
  rw [← hW3] at hcpB
  have hg3 : W3.heap[N]? = some (.cells L3.toArray 52 (0, 0)) := by rw [hW3]; exact setRow_heap _ _ _ _ _ _ hg2d
  have B3 : Below N w W3 := by rw [hW3]; exact below_setRow B2.drew (Nat.le_refl _) _
  have HF : Hid (RowTo w W3 B (.slice (some ⟨g, 0, none⟩) n cap) (.slice (some ⟨N, 0, none⟩) (n + 1) G) (insG l i x)) := hid ⟨OwnO.mk (by rw [hN]; exact hB) hg3 (by rw [insG_len (by omega), hnl]) hGn hGm (by simp [hl3]) ht3, Tch.ofBelow (hN ▸ B3), fun k hk => by cases hk; exact .inr (by rw [hN]; exact Nat.le_refl _)⟩
  have hmin2 : Nat.min 1 (n + 1 - i) = 1 := by simp only [Nat.min_def]; split <;> omega
  have hmin3 : Nat.min (n - i) (n - i) = n - i := by simp only [Nat.min_def]; split <;> omega
  rw [hmin3] at hcpB
  rw [hmin2] at hcpA
  have hG63 : G ≤ 9223372036854775807 := by unfold maxLen at hGm; omega
  have hz2' : ¬ ((i : Int) = (n : Int)) := by omega
  have hz3 : (cap : Int) < (n : Int) + 1 := by omega
  have hw1 : IntKind.i64.wrap ((i : Int) + 1) = (i : Int) + 1 := by rw [IntKind.wrap_i64]; omega
  have hb1 : (0 : Int) ≤ (i : Int) + 1 := by omega
  have hin : i ≤ n := by omega
  have htn : ((i : Int) + 1).toNat = i + 1 := by omega
  have hb3 : (i : Int) ≤ (n : Int) := by omega
  have hb6 : (i : Int) + 1 ≤ (n : Int) + 1 := by omega
  have hb7 : (i : Int) ≤ (n : Int) + 1 := by omega
  have hGi : ¬ (G = i) := by omega
  have hGim : ¬ (G = i + 1) := by omega
  have hci : ¬ (cap = i) := by omega
  have hnn : n + 1 - (i + 1) = n - i := by omega
  clear hkk hik hold hol holds hG hROW hW1 hcell hgb hvl hnl hzc hzs hRs hRt B1 hg1 hx hL2 hl2 ht2 hW2 hg2 B2 hcs hcl hsrc hg2d hL3 hl3 ht3 hW3 hg3 B3 hmin2 hmin3 hv hroom h hGm hN
  go_enter Try.func65, Try.ntmps65
  go_wp2_with (first
    | (at_builtin; refine Lib.wpList_append_run _ rfl _ _ _ _ rfl _ _ rfl rfl _ _ (hrz _) ?_)
    | (at_builtin; refine wpList_copy_runB _ rfl _ _ 48 48 rfl _ _ rfl rfl (hcpA _ _) ?_))
  go_region_law (refine step_copy_runB rfl _ _ 48 48 rfl _ _ (by simp [Act.eval, Act.put]) (by simp [Act.eval, Act.put]) (hcpB _ _ _) ?_)
  go_wp2
  go_ret
  exact ⟨_, rfl, HF.out⟩

/-- slices.Insert of one order. -/
theorem cInsert {w : World} {B : Nat} {v : Value} {l : List Od} (h : OwnO w B v l) (hl : l.length ≤ 1000000) (hB : B ≤ w.heap.size) (i : Nat) (hi : i ≤ l.length) (x : Od) (vb : Nat) (hv : w.heap[vb]? = some (.cells #[.int .i64 x.i, .int .i64 x.s, .int .i64 x.p, .int .i64 x.n] 52 (0, 0))) (hne : v.ownBlock ≠ some vb) :
    Calls Try.prog 65 #[v, .int .i64 i, .slice (some ⟨vb, 0, none⟩) 1 1] w fun e w' => ∃ v', e = .returned v' ∧ RowTo w w' B v v' (insG l i x) := by
  rcases Nat.lt_or_ge i l.length with hlt | hge
  · obtain ⟨g, cap, cur, rfl, hBg, hg, hn, hm, hs, ht⟩ := h.block (by intro e; subst e; simp at hlt)
    by_cases hroom : l.length + 1 ≤ cap
    · exact cInsShift hBg hg hm hs ht hl i hlt hroom x vb hv (fun e => hne (by rw [e]; rfl))
    · exact cInsGrow h hB hn hl i hlt hroom x vb hv
  · obtain rfl : i = l.length := by omega
    have : insG l l.length x = l ++ [x] := by unfold insG; simp
    rw [this]
    exact cInsEnd h hl hB x vb hv
end Go.Proofs.Ytdgllpfccdbdnaa

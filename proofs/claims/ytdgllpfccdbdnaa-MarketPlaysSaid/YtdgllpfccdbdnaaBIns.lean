/- slices.Insert at orders: one order, at any place. -/
import Derived.Test.YtdgllpfccdbdnaaBDel
import Derived.Lib.Overlaps
import Derived.Laws.Externs
namespace Go.Proofs.Ytdgllpfccdbdnaa
set_option linter.unusedVariables false
open Go.RowKit
open Go.Lib (hid)

/-- A list with one more at a place. -/
def insG (l : List Od) (i : Nat) (x : Od) : List Od := l.take i ++ x :: l.drop i
theorem insG_len {l : List Od} {i : Nat} {x : Od} (h : i ≤ l.length) : (insG l i x).length = l.length + 1 := by unfold insG; simp; omega
theorem flat_ins (l : List Od) (i : Nat) (x : Od) : flatG Od.cells (insG l i x) = flatG Od.cells (l.take i) ++ (x.cells ++ flatG Od.cells (l.drop i)) := by
  unfold insG; rw [flatG_append, flatG_cons]
/-- What an act leaves of a row. -/
def RowTo (w w' : World) (B : Nat) (v v' : Value) (l : List Od) : Prop := OwnO w' B v' l ∧ Tch (fun k => v.ownBlock = some k) w w' ∧ Fr w.heap.size v v'

theorem sizeO (w : World) : (Go.sizeOf 52).run Try.prog w = .ok 4 w := by
  obtain ⟨i0, hi, hz0, hz1, hz2⟩ := info_parts Try.infoO
  simp [sizeOf, typeInfo, hi, hz1]

set_option maxHeartbeats 4000000 in
set_option maxRecDepth 100000 in
theorem cInsEnd {w : World} {B : Nat} {v : Value} {l : List Od} (h : OwnO w B v l) (hl : l.length ≤ 1000000) (hB : B ≤ w.heap.size) (x : Od) (vb : Nat) (hv : w.heap[vb]? = some (.cells #[.int .i64 x.i, .int .i64 x.s, .int .i64 x.p, .int .i64 x.n] 52 (0, 0))) :
    Calls Try.prog 65 #[v, .int .i64 (l.length : Nat), .slice (some ⟨vb, 0, none⟩) 1 1] w fun e w' => ∃ v', e = .returned v' ∧ RowTo w w' B v v' (l ++ [x]) := by
  obtain ⟨i0, hi, hz0, hz1, hz2⟩ := info_parts Try.infoO
  have hx : ∀ (j : Nat) u, x.cells[j]? = some u → w.cell? ((⟨vb, 0, none⟩ : Addr).add j) = some u := fun j u hj => by rw [addr_add, cellAt' hv]; simpa using hj
  have HX := hid hx
  have hsh : ∃ a n cap, v = .slice a n cap ∧ n = l.length ∧ n ≤ cap ∧ (a = none → cap = 0) ∧ ∀ g, a = some g → ∃ b, g = ⟨b, 0, none⟩ := by
    rcases h.shape with ⟨rfl, rfl⟩ | ⟨g, cap, rfl, hn, _⟩
    · exact ⟨none, 0, 0, rfl, rfl, Nat.le_refl _, fun _ => rfl, fun g hg => by cases hg⟩
    · exact ⟨_, _, cap, rfl, rfl, hn, (fun e => by cases e), fun g' hg => ⟨g, by cases hg; rfl⟩⟩
  obtain ⟨a, n, cap, rfl, hn, hc, _, _⟩ := hsh
  rw [← hn] at hl ⊢
  have HN := hid hn
  have h2 : w.ownsRow B 52 4 (.slice a n cap) l.length (flatG Od.cells l) := h
  rw [← hn] at h2
  have HO := hid h2
  clear hx h h2 hn hv
  by_cases hcn : n = cap
  · subst hcn
    go_enter Try.func65, Try.ntmps65
    go_wp2_with (at_builtin; (refine wpList_append_own_at _ rfl _ _ 48 rfl B 52 i0 _ 4 32 Try.underlying48 hi hz0 hz1 hz2 rfl (by decide) (.slice a n n) n (flatG Od.cells l) rfl HO.out ⟨vb, 0, none⟩ 1 1 x.cells rfl rfl HX.out (oneO x) (by unfold maxLen; omega) (by omega) hB ?_); intro v' w1 hown' hgrow _ hat; have HOO := hid hown'; have HG := hid hgrow; have HAT := hid hat; clear hown' hgrow hat)
    go_ret
    refine ⟨v', rfl, ?_, Tch.ofGrown HG.out fun k hk => hk, fun k hk => ?_⟩
    · have h2 := HOO.out
      rw [HN.out] at h2
      show World.ownsRow _ _ _ _ _ _ _
      rw [flatG_append, flatG_one, List.length_append, List.length_singleton]
      exact h2
    · rcases HAT.out with e | e
      · exact .inl (e ▸ hk)
      · rw [e] at hk; cases hk; exact .inr (Nat.le_refl _)
  · have hcn' : ¬ cap = n := fun e => hcn e.symm
    go_enter Try.func65, Try.ntmps65
    go_wp2_with (at_builtin; (refine wpList_append_own_at _ rfl _ _ 48 rfl B 52 i0 _ 4 32 Try.underlying48 hi hz0 hz1 hz2 rfl (by decide) (.slice a n cap) n (flatG Od.cells l) rfl HO.out ⟨vb, 0, none⟩ 1 1 x.cells rfl rfl HX.out (oneO x) (by unfold maxLen; omega) (by omega) hB ?_); intro v' w1 hown' hgrow _ hat; have HOO := hid hown'; have HG := hid hgrow; have HAT := hid hat; clear hown' hgrow hat)
    go_ret
    refine ⟨v', rfl, ?_, Tch.ofGrown HG.out fun k hk => hk, fun k hk => ?_⟩
    · have h2 := HOO.out
      rw [HN.out] at h2
      show World.ownsRow _ _ _ _ _ _ _
      rw [flatG_append, flatG_one, List.length_append, List.length_singleton]
      exact h2
    · rcases HAT.out with e | e
      · exact .inl (e ▸ hk)
      · rw [e] at hk; cases hk; exact .inr (Nat.le_refl _)

theorem overlaps_no (w : World) (g vb : Nat) (hne : vb ≠ g) (cur cv : Array Value) (hg : w.heap[g]? = some (.cells cur 52 (0, 0))) (hv : w.heap[vb]? = some (.cells cv 52 (0, 0))) (h0 : cur.size ≠ 0) (o la ca lb cb : Nat) :
    (callFunc 68 #[.slice (some ⟨vb, 0, none⟩) la ca, .slice (some ⟨g, o, none⟩) lb cb]).run Try.prog w = .ok (.value (.bool false)) w := by
  rw [run_callFunc_extern Try.func68 (by kernel_rfl) (by kernel_rfl) (by kernel_rfl) (e := Extern.SlicesOverlaps.overlaps #[48, 48] #[4]) (by kernel_rfl),
    Lib.run_overlaps_apart w 48 4 52 Try.underlying48 4 sizeO ⟨vb, 0, none⟩ ⟨g, o, none⟩ la ca lb cb hne 52 52 cv.size cur.size (by simp [World.shape?, hv]) (by simp [World.shape?, hg]) h0 (by simp [World.frozen?, hv]) (by simp [World.frozen?, hv])]
  rfl

set_option maxHeartbeats 4000000 in
set_option maxRecDepth 100000 in
theorem cInsShift {w : World} {B : Nat} {l : List Od} {g cap : Nat} {cur : Array Value} (hBg : B ≤ g) (hg : w.heap[g]? = some (.cells cur 52 (0, 0))) (hm : cap ≤ maxLen) (hs : cur.size = cap * 4) (ht : cur.toList.take (l.length * 4) = flatG Od.cells l)
    (hl : l.length ≤ 1000000) (i : Nat) (hi : i < l.length) (hroom : l.length + 1 ≤ cap) (x : Od) (vb : Nat) (hv : w.heap[vb]? = some (.cells #[.int .i64 x.i, .int .i64 x.s, .int .i64 x.p, .int .i64 x.n] 52 (0, 0))) (hne : vb ≠ g) :
    Calls Try.prog 65 #[.slice (some ⟨g, 0, none⟩) l.length cap, .int .i64 i, .slice (some ⟨vb, 0, none⟩) 1 1] w fun e w' => ∃ v', e = .returned v' ∧ RowTo w w' B (.slice (some ⟨g, 0, none⟩) l.length cap) v' (insG l i x) := by
  obtain ⟨i0, hi0, hz0, hz1, hz2⟩ := info_parts Try.infoO
  obtain ⟨n, hnl⟩ : ∃ n, n = l.length := ⟨_, rfl⟩
  rw [← hnl] at hl hi hroom ht ⊢
  have hm2 : cap ≤ 9223372036854775807 := by unfold maxLen at hm; omega
  -- what moves, where it stands
  obtain ⟨cs, hcs⟩ : ∃ cs, cs = flatG Od.cells (l.drop i) := ⟨_, rfl⟩
  have hcl : cs.length = (n - i) * 4 := by rw [hcs, flatG_len kO, List.length_drop, hnl]
  have hsrc : ∀ (j : Nat) u, cs[j]? = some u → w.drew.cell? ((⟨g, i * 4, none⟩ : Addr).add j) = some u := fun j u hu => by
    rw [addr_add']
    show w.cell? _ = _
    rw [cellAt' hg]
    rw [hcs, ← flat_drop, ← ht, List.getElem?_drop, List.getElem?_take] at hu
    split at hu
    · simpa using hu
    · cases hu
  have hgd : w.drew.heap[g]? = some (.cells cur 52 (0, 0)) := hg
  have hmin : Nat.min (n - i) (n + 1 - (i + 1)) = n - i := by simp only [Nat.min_def]; split <;> omega
  have hcp1 := fun ty dc sc => run_copyK (P := Try.prog) w.drew 48 48 ty 52 g ((i + 1) * 4) (n - i) dc ⟨g, i * 4, none⟩ (n + 1 - i) sc 4 cur 52 cs i0 Try.underlying48 hi0 hz1 hgd (by rw [hcl]; simp only [Nat.min_def]; split <;> omega) hsrc (by rw [hcl, hs]; omega) (by rw [hcs]; exact flatG_all oneO _)
  obtain ⟨L1, hL1⟩ : ∃ L1, L1 = splice cur.toList ((i + 1) * 4) cs := ⟨_, rfl⟩
  have hl1 : L1.length = cap * 4 := by rw [hL1, splice_len (by rw [hcl]; simp [hs]; omega)]; simp [hs]
  obtain ⟨W1, hW1⟩ : ∃ W1, W1 = w.drew.setRow g L1.toArray := ⟨_, rfl⟩
  rw [← hL1] at hcp1
  rw [← hW1] at hcp1
  have hg1 : W1.heap[g]? = some (.cells L1.toArray 52 (0, 0)) := by rw [hW1]; exact setRow_heap _ _ _ _ _ _ hgd
  have T1 : Tch (fun k => k = g) w W1 := (Tch.refl _ _).drew.trans (by rw [hW1]; exact tch_setRow _ _ _)
  have hv1 : W1.heap[vb]? = some (.cells #[.int .i64 x.i, .int .i64 x.s, .int .i64 x.p, .int .i64 x.n] 52 (0, 0)) := T1.ob hv hne
  have hx : ∀ (j : Nat) u, x.cells[j]? = some u → W1.cell? ((⟨vb, 0, none⟩ : Addr).add j) = some u := fun j u hj => by rw [addr_add, cellAt' hv1]; simpa using hj
  have hcp2 := fun ty dc => run_copyK (P := Try.prog) W1 48 48 ty 52 g (i * 4) (n + 1 - i) dc ⟨vb, 0, none⟩ 1 1 4 L1.toArray 52 x.cells i0 Try.underlying48 hi0 hz1 hg1 (by rw [kO]; simp only [Nat.min_def]; split <;> omega) hx (by rw [kO]; simp [hl1]; omega) (oneO x)
  obtain ⟨L2, hL2⟩ : ∃ L2, L2 = splice L1.toArray.toList (i * 4) x.cells := ⟨_, rfl⟩
  have hl2 : L2.length = cap * 4 := by rw [hL2, splice_len (by rw [kO]; simp [hl1]; omega)]; simp [hl1]
  obtain ⟨W2, hW2⟩ : ∃ W2, W2 = W1.setRow g L2.toArray := ⟨_, rfl⟩
  rw [← hL2] at hcp2
  rw [← hW2] at hcp2
  have hg2 : W2.heap[g]? = some (.cells L2.toArray 52 (0, 0)) := by rw [hW2]; exact setRow_heap _ _ _ _ _ _ hg1
  have T2 : Tch (fun k => k = g) w W2 := T1.trans (by rw [hW2]; exact tch_setRow _ _ _)
  have hov := fun la ca lb cb => overlaps_no w g vb hne cur _ hg hv (by rw [hs]; omega) ((i + 1) * 4) la ca lb cb
  have hrow : L2.take ((n + 1) * 4) = flatG Od.cells (insG l i x) := by
    have e1 : L1.take ((n + 1) * 4) = cur.toList.take ((i + 1) * 4) ++ cs := by rw [hL1]; exact splice_mid (by simp [hs]; omega) (by rw [hcl]; omega)
    have e2 : L2 = L1.take (i * 4) ++ (x.cells ++ L1.drop (i * 4 + 4)) := by rw [hL2]; unfold splice; rw [kO]
    have e3 : (cur.toList.take (i * 4)) = flatG Od.cells (l.take i) := flat_split (by rw [← hnl]; exact ht) (by omega)
    have e4 : L1.take (i * 4) = cur.toList.take (i * 4) := by rw [hL1]; exact splice_low (by simp [hs]; omega) (by omega)
    have e5 : (L1.drop (i * 4 + 4)).take ((n - i) * 4) = cs := by
      rw [List.take_drop, show i * 4 + 4 + (n - i) * 4 = (n + 1) * 4 by omega, e1, List.drop_append, List.drop_eq_nil_of_le (by simp; omega), List.length_take, List.nil_append]
      rw [show i * 4 + 4 - min ((i + 1) * 4) cur.toList.length = 0 by simp [hs]; omega]
      rfl
    have la : (L1.take (i * 4)).length = i * 4 := by simp [hl1]; omega
    have e6 : L2.take ((n + 1) * 4) = L1.take (i * 4) ++ (x.cells ++ (L1.drop (i * 4 + 4)).take ((n - i) * 4)) := by
      rw [e2, show (n + 1) * 4 = (L1.take (i * 4)).length + (x.cells.length + (n - i) * 4) by rw [la, kO]; omega, List.take_length_add_append, List.take_length_add_append]
    rw [flat_ins, ← e3, ← hcs, ← e4, e6, e5]
  have HF : Hid (RowTo w W2 B (.slice (some ⟨g, 0, none⟩) n cap) (.slice (some ⟨g, 0, none⟩) (n + 1) cap) (insG l i x)) := hid ⟨OwnO.mk hBg hg2 (by rw [insG_len (by omega), hnl]) hroom hm (by simp [hl2]) hrow, T2.mono fun k hk => by rw [hk]; rfl, fun k hk => .inl hk⟩
  have hmin2 : Nat.min 1 (n + 1 - i) = 1 := by simp only [Nat.min_def]; split <;> omega
  have hmin3 : Nat.min (n + 1 - i) (n - i) = n - i := by simp only [Nat.min_def]; split <;> omega
  rw [hmin3] at hcp1
  rw [hmin2] at hcp2
  have hz2 : ¬ ((i : Int) = (n : Int)) := by omega
  have hw1 : IntKind.i64.wrap ((i : Int) + 1) = (i : Int) + 1 := by rw [IntKind.wrap_i64]; omega
  have hb1 : (0 : Int) ≤ (i : Int) + 1 := by omega
  have hin : i ≤ n := by omega
  have hin2 : i < n := by omega
  have htn : ((i : Int) + 1).toNat = i + 1 := by omega
  have hb2 : ¬ (cap = i + 1) := by omega
  have hb3 : (i : Int) ≤ (n : Int) + 1 := by omega
  have hb4 : ¬ (cap = i) := by omega
  have hb5 : (i : Int) + 1 ≤ (n : Int) + 1 := by omega
  have hnn : n + 1 - (i + 1) = n - i := by omega
  clear hcs hcl hsrc hgd hmin hL1 hl1 hW1 hg1 T1 hv1 hx hL2 hl2 hW2 hg2 T2 hrow hv hg hs ht hnl hm hmin2 hmin3 hBg
  go_enter Try.func65, Try.ntmps65
  go_wp2_with (simp only [hov])
  go_region_law (refine step_copy_runB rfl _ _ 48 48 rfl _ _ (by simp [Act.eval, Act.put]) (by simp [Act.eval, Act.put]) (hcp1 _ _ _) ?_)
  go_wp2_with (at_builtin; refine wpList_copy_runB _ rfl _ _ 48 48 rfl _ _ rfl rfl (hcp2 _ _) ?_)
  go_ret
  exact ⟨_, rfl, HF.out⟩
end Go.Proofs.Ytdgllpfccdbdnaa

/- slices.Delete, slices.Clone at orders. -/
import Derived.Test.YtdgllpfccdbdnaaBRun
namespace Go.Proofs.Ytdgllpfccdbdnaa
set_option linter.unusedVariables false
open Go.RowKit
open Go.Lib (hid)

theorem tch_setRow (w : World) (g : Nat) (cs : Array Value) : Tch (fun k => k = g) w (w.setRow g cs) := ⟨rfl, rfl, rfl, by simp [World.setRow], fun k _ hk => setRow_other w g k cs hk⟩
theorem flat_split {L : List Value} {l : List Od} (ht : L.take (l.length * 4) = flatG Od.cells l) {k : Nat} (hk : k ≤ l.length) : L.take (k * 4) = flatG Od.cells (l.take k) := by
  rw [← flat_take, ← ht, List.take_take, Nat.min_eq_left (by omega)]

set_option maxHeartbeats 4000000 in
set_option maxRecDepth 100000 in
theorem cDelete {w : World} {B : Nat} {v : Value} {l : List Od} (h : OwnO w B v l) (hl : l.length ≤ 1000000) (i : Nat) (hi : i < l.length) :
    Calls Try.prog 61 #[v, .int .i64 i, .int .i64 ((i : Int) + 1)] w fun e w' => ∃ v', e = .returned v' ∧ OwnO w' B v' (l.take i ++ l.drop (i + 1)) ∧ Tch (fun k => v.ownBlock = some k) w w' ∧ v'.ownBlock = v.ownBlock := by
  obtain ⟨g, cap, cur, rfl, hB, hg, hn, hm, hs, ht⟩ := h.block (by intro e; subst e; simp at hi)
  obtain ⟨i0, hi0, hz0, hz1, hz2⟩ := info_parts Try.infoO
  obtain ⟨n, hnl⟩ : ∃ n, n = l.length := ⟨_, rfl⟩
  have hcl := h.cells (g := g) rfl
  have hfz : ∀ j, w.drew.frozen? ⟨g, j, none⟩ = false := fun j => by
    show w.frozen? _ = false
    simp [World.frozen?, hg]
  rw [← hnl] at hl hi hn ht ⊢
  have hlt : g < w.heap.size := (Array.getElem?_eq_some_iff.1 hg).1
  obtain ⟨news, hnews⟩ : ∃ news, news = flatG Od.cells (l.drop (i + 1)) := ⟨_, rfl⟩
  have hlen : news.length = (n - (i + 1)) * 4 := by rw [hnews, flatG_len kO, List.length_drop, hnl]
  obtain ⟨A, hA, hsrc⟩ : ∃ A : Addr, (if cap = i + 1 then some (⟨g, 0, none⟩ : Addr) else some ⟨g, (i + 1) * 4, none⟩) = some A ∧ Hid (∀ (t : Nat) u, news[t]? = some u → w.drew.cell? (A.add t) = some u) := by
    by_cases hc : cap = i + 1
    · refine ⟨⟨g, 0, none⟩, by simp [hc], fun t u hu => ?_⟩
      have h0 : news.length = 0 := by rw [hlen]; omega
      rw [List.length_eq_zero_iff.1 h0] at hu
      simp at hu
    · refine ⟨⟨g, (i + 1) * 4, none⟩, by simp [hc], fun t u hu => ?_⟩
      have := hcl ((i + 1) * 4 + t) u (by rw [← List.getElem?_drop, flat_drop, ← hnews]; exact hu)
      rw [addr_add] at this
      rw [addr_add']; exact this
  have s2 : Hid (∀ u ∈ news, u.oneCell' = true) := by rw [hnews]; exact flatG_all oneO _
  have s3 : Hid (∀ t, t < news.length → (w.drew.cell? ⟨g, 0 + i * 4 + t, none⟩).isSome = true ∧ w.drew.frozen? ⟨g, 0 + i * 4 + t, none⟩ = false) := fun t ht' => by
    refine ⟨?_, hfz _⟩
    rw [hlen] at ht'
    show (w.cell? _).isSome = true
    rw [cellAt' hg]
    simp; omega
  have hgd : w.drew.heap[g]? = some (.cells cur 52 (0, 0)) := hg
  obtain ⟨W1, hW1⟩ : ∃ W1, W1 = w.drew.setCells g (0 + i * 4) news := ⟨_, rfl⟩
  have hW1' := setCells_row hgd news (0 + i * 4) (by rw [hlen, hs]; omega) s2.out
  rw [← hW1] at hW1'
  obtain ⟨L1, hL1⟩ : ∃ L1, L1 = splice cur.toList (0 + i * 4) news := ⟨_, rfl⟩
  rw [← hL1] at hW1'
  have hl1 : L1.length = cap * 4 := by rw [hL1, splice_len (by rw [hlen]; simp [hs]; omega)]; simp [hs]
  have hg1 : W1.heap[g]? = some (.cells L1.toArray 52 (0, 0)) := by rw [hW1']; exact setRow_heap _ _ _ _ _ _ hgd
  have ht1 : L1.take ((n - 1) * 4) = flatG Od.cells (l.take i ++ l.drop (i + 1)) := by
    rw [hL1, splice_mid (by simp [hs]; omega) (by rw [hlen]; omega), Nat.zero_add, flatG_append, ← hnews, flat_split (by rw [← hnl]; exact ht) (by omega)]
  have T1 : Tch (fun k => k = g) w W1 := (Tch.refl _ _).drew.trans (by rw [hW1']; exact tch_setRow _ _ _)
  have hcl2 := fun ty c => run_clear1 W1 ty g ((n - 1) * 4) c L1.toArray 52 hg1 (by simp [hl1]; omega)
  obtain ⟨W2, hW2⟩ : ∃ W2, W2 = W1.setRow g (splice L1.toArray.toList ((n - 1) * 4) zO4).toArray := ⟨_, rfl⟩
  rw [← hW2] at hcl2
  have hg2 : W2.heap[g]? = some (.cells (splice L1 ((n - 1) * 4) zO4).toArray 52 (0, 0)) := by rw [hW2]; exact setRow_heap _ _ _ _ _ _ hg1
  have T2 : Tch (fun k => k = g) w W2 := T1.trans (by rw [hW2]; exact tch_setRow _ _ _)
  have hlen2 : (l.take i ++ l.drop (i + 1)).length = n - 1 := by simp; omega
  have HF : Hid (OwnO W2 B (.slice (some ⟨g, 0, none⟩) (n - 1) cap) (l.take i ++ l.drop (i + 1)) ∧ Tch (fun k => k = g) w W2) := hid ⟨OwnO.mk hB hg2 hlen2.symm (by omega) hm (by simp; rw [splice_len (by simp [hl1]; omega), hl1]) (by
    show (splice L1 ((n - 1) * 4) zO4).take _ = _
    rw [splice_low (by rw [hl1]; omega) (Nat.le_refl _)]; exact ht1), T2⟩
  have hW : Hid (W1 = w.drew.setCells g (0 + i * 4) news) := hW1
  have HLN := hid hlen
  have hic : i ≤ cap := by omega
  have hjc : i + 1 ≤ cap := by omega
  have hin : i + 1 ≤ n := by omega
  have hin1 : (0 : Int) ≤ (i : Int) + 1 := by omega
  have hin2 : (i : Int) + 1 ≤ (n : Int) := by omega
  have hne : ¬ (i : Int) = (i : Int) + 1 := by omega
  have hn1 : i + (n - (i + 1)) = n - 1 := by omega
  have hcn : ¬ cap = n - 1 := by omega
  have hnn : n - (n - 1) = 1 := by omega
  clear hW1 hW1' hL1 hg1 ht1 hl1 T1 T2 hg2 hW2 hlen2 hnews hlen hcl h hg hgd hfz hs ht hnl hB hlt
  go_enter Try.func61, Try.ntmps61
  go_wp2_with fail
  go_region_law (refine step_append_room rfl (.tmp 22) (.tmp 25) 48 rfl 52 i0 4 Try.underlying48 hi0 hz1 g 0 i cap (by simp [Act.eval, Act.put]) A (n - (i + 1)) (cap - (i + 1)) news (by simp [Act.eval, Act.put]) HLN.out hsrc.out s2.out (by omega) s3.out ?_; rw [← hW.out])
  go_wp2
  go_ret
  exact ⟨_, rfl, HF.out.1, HF.out.2.mono fun k hk => by rw [hk]; rfl, rfl⟩

theorem OwnG.src {α : Type} {cl : α → List Value} {K : Nat} {T : TypeId} {w : World} {B : Nat} {v : Value} {l : List α} (h : OwnG cl K T w B v l) :
    (v = .slice none 0 0 ∧ l = []) ∨ ∃ ad cap, v = .slice (some ad) l.length cap ∧ (∀ (j : Nat) u, (flatG cl l)[j]? = some u → w.cell? (ad.add j) = some u) ∧ ad.block < w.heap.size := by
  have hl := h.lt
  have hcl := fun g (hg : v.ownBlock = some g) => World.ownsRow.cells h hg
  rcases h.2 with ⟨rfl, h0⟩ | ⟨g, cap, cur, rfl, hb, hg, hn, hm, hs, ht⟩
  · exact .inl ⟨rfl, List.length_eq_zero_iff.1 h0⟩
  · exact .inr ⟨_, cap, rfl, hcl g rfl, (hl g rfl).2⟩

set_option maxHeartbeats 1600000 in
set_option maxRecDepth 100000 in
theorem cCloneO {w : World} {B : Nat} {v : Value} {l : List Od} (h : OwnO w B v l) (hl : l.length ≤ 1000000) : Calls Try.prog 44 #[v] w fun e w' => ∃ r, e = .returned r ∧ OwnO w' w.heap.size r l ∧ Below w.heap.size w w' := by
  obtain ⟨i0, hi, hz0, hz1, hz2⟩ := info_parts Try.infoO
  have hq : ∀ (w : World) (a : Option Addr) (n c n' c' : Nat), (binOp .eql 48 (.slice a n c) (.slice none n' c')).run Try.prog w = .ok (.bool a.isNone) w := fun w a n c n' c' => Lib.run_eql_slice_nil w _ _ a n c n' c' Try.underlying48
  rcases h.src with ⟨rfl, rfl⟩ | ⟨ad, cap, rfl, hc, hb⟩
  · clear h
    go_enter Try.func44, Try.ntmps44
    go_wp2
    go_ret
    exact ⟨_, rfl, World.ownsRow_nil _ _ _ _, Below.refl _ _⟩
  · have hown : OwnO (w.alloc (.cells #[] 52)) w.heap.size (.slice (some ⟨w.heap.size, 0, none⟩) 0 0) [] := World.ownsRow_made w #[] 0 (Nat.le_refl _) (by unfold maxLen; omega) rfl
    have hnew : ∀ (j : Nat) u, (flatG Od.cells l)[j]? = Option.some u → (w.alloc (.cells #[] 52)).cell? (ad.add j) = Option.some u := fun j u hu => Lib.cell?_alloc_some _ (hc j u hu)
    have HN := hid hnew
    have hfl := flatG_len kO l
    have hf1 := hid (flatG_all oneO l)
    obtain ⟨L, hL⟩ : ∃ L, L = flatG Od.cells l := ⟨_, rfl⟩
    rw [← hL] at HN hfl hf1
    have HL := hid hL
    have HFL := hid hfl
    obtain ⟨n, hn⟩ : ∃ n, n = l.length := ⟨_, rfl⟩
    rw [← hn] at hl HFL ⊢
    have HNN := hid hn
    clear hnew hc hL hfl hn h
    go_enter Try.func44, Try.ntmps44
    go_wp2_with (at_builtin; refine wpList_append_own _ rfl _ _ 48 rfl w.heap.size 52 i0 _ 4 32 Try.underlying48 hi hz0 hz1 hz2 rfl (by decide) _ _ _ rfl hown ad n cap L rfl ?c0 ?c1 ?c2 ?c3 ?c4 ?c5 ?_)
    case c0 => exact HFL.out
    case c1 => exact HN.out
    case c2 => exact hf1.out
    case c3 => unfold maxLen; simp only [List.length_nil]; omega
    case c4 => simp only [List.length_nil]; omega
    case c5 => simp
    intro v' w1 hown' hgrow _
    have hown2 : OwnO w1 w.heap.size v' l := by
      show w1.ownsRow w.heap.size 52 4 v' l.length (flatG Od.cells l)
      rw [← HNN.out, ← HL.out]
      simpa [flatG] using hown'
    have HO := hid hown2
    have HB : Hid (Below w.heap.size w w1) := hid (((Below.refl _ w).alloc (Nat.le_refl _) _).grown hgrow (by simp) (fun k hk => by cases hk; exact Nat.le_refl _))
    clear hown' hgrow hown hown2
    go_wp2
    go_ret
    exact ⟨_, rfl, HO.out, HB.out⟩
end Go.Proofs.Ytdgllpfccdbdnaa

/- The program's book: what fills an order. -/
import Derived.Test.YtdgllpfccdbdnaaBAmend
namespace Go.Proofs.Ytdgllpfccdbdnaa
set_option linter.unusedVariables false
open Go.RowKit
open Go.Lib (hid)

theorem fill_stop {s p left : Int} {l : List Od} (h : left = 0 ∨ ∀ x, l[0]? = some x → meetsB s p x.p = false) : fillG s p left l = ([], left) := by
  cases l with
  | nil => rfl
  | cons x xs => unfold fillG; rw [if_pos (h.imp id fun h => h x rfl)]
theorem fill_go {s p left : Int} {l : List Od} {k : Nat} {x : Od} (hx : l[k]? = some x) (h0 : left ≠ 0) (hm : meetsB s p x.p = true) :
    fillG s p left (l.drop k) = (⟨x.i, x.p, min left x.n⟩ :: (fillG s p (left - min left x.n) (l.drop (k + 1))).1, (fillG s p (left - min left x.n) (l.drop (k + 1))).2) := by
  obtain ⟨hlt, rfl⟩ := List.getElem?_eq_some_iff.1 hx
  rw [List.drop_eq_getElem_cons hlt, fillG, if_neg (by intro h; rcases h with h | h; exact h0 h; rw [hm] at h; cases h)]
def FillTo (w w' : World) (e : Ending) (fs : List Fl) (left : Int) : Prop := ∃ f, e = .returned (.tuple #[f, .int .i64 left]) ∧ OwnF w' w.heap.size f fs ∧ Below w.heap.size w w'

set_option maxHeartbeats 6400000 in
set_option maxRecDepth 100000 in
theorem cFill {w : World} {B : Nat} {va : Value} {l : List Od} (h : OwnO w B va l) (hl : l.length ≤ 1000) (o : Od) (hn0 : 0 ≤ o.n) (hn1 : o.n ≤ 1048576) (hx : ∀ x ∈ l, 1 ≤ x.n ∧ x.n ≤ 1048576) :
    Calls Try.prog 52 #[o.v, va] w fun e w' => FillTo w w' e (fillG o.s o.p o.n l).1 (fillG o.s o.p o.n l).2 := by
  obtain ⟨i0, hi0, hz0, hz1, hz2⟩ := info_parts Try.infoF
  obtain ⟨fr, hfr⟩ : ∃ fr, fr = fillG o.s o.p o.n l := ⟨_, rfl⟩
  rw [← hfr]
  have HFR := hid hfr
  have HX := hid hx
  have HO := hid h
  obtain ⟨a, cap, n, e1, hn⟩ := h.asSlice
  have hsh : ∀ k x, l[k]? = some x → ∃ g, a = some ⟨g, 0, none⟩ ∧ g < w.heap.size ∧ w.cell? ⟨g, k * 4, none⟩ = some (.int .i64 x.i) ∧ w.cell? ⟨g, k * 4 + 1, none⟩ = some (.int .i64 x.s) ∧ w.cell? ⟨g, k * 4 + 2, none⟩ = some (.int .i64 x.p) ∧ w.cell? ⟨g, k * 4 + 3, none⟩ = some (.int .i64 x.n) := fun k x hk => by
    rcases h.shape with ⟨_, rfl⟩ | ⟨g, cap', e, _, _, _, hg, hc, _⟩
    · simp at hk
    · rw [e1] at e
      injection e with e2 e3 e4
      exact ⟨g, e2, hg, hc k x hk⟩
  have HS := hid hsh
  have HN := hid hn
  subst e1
  have hln : n ≤ 1000 := by omega
  clear h hx hsh hfr hn hl
  go_enter Try.func52, Try.ntmps52
  go_wp2_with fail
  go_loopg [6, 7, 9, 10, 15] n (fun gg s6 s7 s9 s10 s15 wr => ∃ (k : Nat) (left : Int) (fs : List Fl), k ≤ n ∧ n - k ≤ gg ∧ s15 = .int .i64 k ∧ s7 = .int .i64 left ∧ 0 ≤ left ∧ left ≤ 1048576 ∧ fs.length ≤ k ∧ Hid (OwnF wr (w.heap.size + 1) s6 fs ∧ Below (w.heap.size + 1) (w.alloc (.cells #[.int .i64 o.i, .int .i64 o.s, .int .i64 o.p, .int .i64 o.n] 52)) wr ∧ fr.1 = fs ++ (fillG o.s o.p left (l.drop k)).1 ∧ fr.2 = (fillG o.s o.p left (l.drop k)).2))
  case atStart => exact ⟨0, o.n, [], Nat.zero_le _, by omega, rfl, rfl, hn0, hn1, Nat.le_refl _, hid ⟨World.ownsRow_nil _ _ _ _, Below.refl _ _, by rw [HFR.out, List.drop_zero, List.nil_append], by rw [HFR.out, List.drop_zero]⟩⟩
  case round =>
    obtain ⟨k, left, fs, hk, hgg, rfl, rfl, hl0, hl1, hfk, HI⟩ := hrel
    obtain ⟨a6, c6, n6, e6, hn6⟩ := HI.out.1.asSlice
    subst e6
    have HC6 := hid hn6
    have hc6 : n6 ≤ 1000 := by omega
    clear hn6
    by_cases hlt : k < n
    · have hltz : (k : Int) < (n : Int) := by omega
      obtain ⟨x, hx⟩ : ∃ x, l[k]? = some x := ⟨l[k]'(by rw [← HN.out]; exact hlt), List.getElem?_eq_getElem (by rw [← HN.out]; exact hlt)⟩
      obtain ⟨g, ea, hg, k0, k1, k2, k3⟩ := HS.out k x hx
      subst ea
      have hB := below_box HI.out.2.1
      have d0 := (hB.cell (p := ⟨g, k * 4, none⟩) hg).trans k0
      have d1 := (hB.cell (p := ⟨g, k * 4 + 1, none⟩) hg).trans k1
      have d2 := (hB.cell (p := ⟨g, k * 4 + 2, none⟩) hg).trans k2
      have d3 := (hB.cell (p := ⟨g, k * 4 + 3, none⟩) hg).trans k3
      have hq := obOn (heap_alloc_new w (.cells #[.int .i64 o.i, .int .i64 o.s, .int .i64 o.p, .int .i64 o.n] 52)) HI.out.2.1 (by omega)
      have m0 := cellAt' hq 0; have m1 := cellAt' hq 1; have m2 := cellAt' hq 2; have m3 := cellAt' hq 3
      simp at m0 m1 m2 m3
      have hz := (Array.getElem?_eq_some_iff.1 hq).1
      have hgw : g < wr.heap.size := Nat.lt_of_lt_of_le hg hB.size
      have hxb := HX.out x (List.mem_of_getElem? hx)
      have HXX := hid hx
      have HB : Hid (Below (w.heap.size + 1) (w.alloc (.cells #[.int .i64 o.i, .int .i64 o.s, .int .i64 o.p, .int .i64 o.n] 52)) (wr.alloc (.cells #[.int .i64 x.i, .int .i64 x.s, .int .i64 x.p, .int .i64 x.n] 52))) := hid (HI.out.2.1.alloc (by omega) _)
      have HM := hid (cMeets o x)
      clear hx k0 k1 k2 k3 hB hq
      by_cases h0 : left = 0
      · subst h0
        have HST : Hid (fillG o.s o.p 0 (l.drop k) = ([], 0)) := hid (fillG_zero _ _ _)
        go_wp2_with fail
        go_ret2
        have E1 : fr.1 = fs := by rw [HI.out.2.2.1, HST.out, List.append_nil]
        refine ⟨.slice a6 n6 c6, ?_, ?_, below_box HB.out⟩
        · exact congrArg (fun z => Ending.returned (.tuple #[.slice a6 n6 c6, .int .i64 z])) (show _ = fr.2 from by rw [HI.out.2.2.2, HST.out])
        · rw [E1]; exact own_monoB (HI.out.1.on ((Below.refl _ wr).alloc (Nat.le_refl _) _)) (Nat.le_succ _)
      · rcases hm : meetsB o.s o.p x.p with _ | _
        · have HST : Hid (fillG o.s o.p left (l.drop k) = ([], left)) := hid (fill_stop (.inr fun y hy => by rw [List.getElem?_drop, Nat.add_zero, HXX.out] at hy; cases hy; exact hm))
          rw [hm] at HM
          clear hm
          go_wp2_with (go_at_call 60; refine (HM.out _).mono ?_; rintro e w1 ⟨rfl, hB1⟩; have HB1 := hid hB1; clear hB1)
          go_ret2
          have E1 : fr.1 = fs := by rw [HI.out.2.2.1, HST.out, List.append_nil]
          refine ⟨.slice a6 n6 c6, ?_, ?_, (below_box HB.out).trans (HB1.out.mono (by have := (below_box HB.out).size; exact this))⟩
          · exact congrArg (fun z => Ending.returned (.tuple #[.slice a6 n6 c6, .int .i64 z])) (show _ = fr.2 from by rw [HI.out.2.2.2, HST.out])
          · rw [E1]; exact own_monoB (HI.out.1.on (((Below.refl _ wr).alloc (Nat.le_refl _) _).trans (HB1.out.mono (by simp)))) (Nat.le_succ _)
        · have HGO := hid (fill_go HXX.out h0 hm)
          rw [hm] at HM
          clear hm
          rcases Int.lt_trichotomy left x.n with hc | hc | hc
          · have hmin : min left x.n = left := by omega
            rw [hmin] at HGO
            clear hmin
            have HRW : Hid (∀ W, Below wr.heap.size wr W → OwnF (W.alloc (.cells #[.int .i64 x.i, .int .i64 x.p, .int .i64 left] 55)) (w.heap.size + 1) (.slice a6 n6 c6) fs) := hid fun W hW => HI.out.1.on (hW.trans ((Below.refl _ W).alloc (Nat.le_refl _) _ |>.mono hW.size))
            have HLT := hid HI.out.1.lt
            have HFK := hid hfk
            clear hfk
            go_wp2_with (first
              | (go_at_call 60; refine (HM.out _).mono ?_; rintro e w1 ⟨rfl, hB1⟩; have hb := HB.out.trans (hB1.mono (by simp; omega)); have hq5 := obOn (heap_alloc_new wr (.cells #[.int .i64 x.i, .int .i64 x.s, .int .i64 x.p, .int .i64 x.n] 52)) (hB1.mono (B' := wr.heap.size + 1) (by simp)) (by omega); have b0 := cellAt' hq5 0; have b2 := cellAt' hq5 2; have b3 := cellAt' hq5 3; simp at b0 b2 b3; have hz5 := (Array.getElem?_eq_some_iff.1 hq5).1; have HBW := hid hb; have HW1 : Hid (Below wr.heap.size wr w1) := hid (below_box (hB1.mono (B' := wr.heap.size + 1) (by simp))); clear hB1 hb hq5)
              | (at_builtin; refine wpList_append_own _ rfl _ _ 35 rfl (w.heap.size + 1) 55 i0 _ 3 24 Try.underlying35 hi0 hz0 hz1 hz2 rfl (by decide) (.slice a6 n6 c6) fs.length (flatG Fl.cells fs) rfl (HRW.out _ HW1.out) ⟨w1.heap.size, 0, none⟩ 1 1 (Fl.cells ⟨x.i, x.p, left⟩) rfl rfl (fun j u hj => by rw [addr_add, cellAt' (heap_alloc_new w1 _)]; simpa using hj) (oneF _) (by have := HFK.out; unfold maxLen; omega) (by have := HFK.out; omega) (by have := HW1.out.size; simp; omega) ?_; intro v' w5 hown' hgrow _; have HOW := hid hown'; have HB5 : Hid (Below (w.heap.size + 1) (w.alloc (.cells #[.int .i64 o.i, .int .i64 o.s, .int .i64 o.p, .int .i64 o.n] 52)) w5) := hid ((HBW.out.alloc (by have := HW1.out.size; omega) _).grown hgrow (by have := HW1.out.size; simp; omega) (fun j hj => (HLT.out j hj).1)); clear hown' hgrow))
            go_roundg (n - (k + 1))
            case measure => omega
            case rel =>
              refine ⟨k + 1, left - left, fs ++ [⟨x.i, x.p, left⟩], by omega, by omega, by go_num, by go_num, by omega, by omega, by have := HFK.out; simp; omega, hid ⟨?_, HB5.out, ?_, ?_⟩⟩
              · show World.ownsRow _ _ _ _ _ _ _
                rw [flatG_append, flatG_one, List.length_append, List.length_singleton]
                exact HOW.out
              · rw [HI.out.2.2.1, HGO.out, List.append_assoc]; rfl
              · rw [HI.out.2.2.2, HGO.out]
          · subst hc
            have hmin : min x.n x.n = x.n := by omega
            rw [hmin] at HGO
            clear hmin
            have HRW : Hid (∀ W, Below wr.heap.size wr W → OwnF (W.alloc (.cells #[.int .i64 x.i, .int .i64 x.p, .int .i64 x.n] 55)) (w.heap.size + 1) (.slice a6 n6 c6) fs) := hid fun W hW => HI.out.1.on (hW.trans ((Below.refl _ W).alloc (Nat.le_refl _) _ |>.mono hW.size))
            have HLT := hid HI.out.1.lt
            have HFK := hid hfk
            clear hfk
            go_wp2_with (first
              | (go_at_call 60; refine (HM.out _).mono ?_; rintro e w1 ⟨rfl, hB1⟩; have hb := HB.out.trans (hB1.mono (by simp; omega)); have hq5 := obOn (heap_alloc_new wr (.cells #[.int .i64 x.i, .int .i64 x.s, .int .i64 x.p, .int .i64 x.n] 52)) (hB1.mono (B' := wr.heap.size + 1) (by simp)) (by omega); have b0 := cellAt' hq5 0; have b2 := cellAt' hq5 2; have b3 := cellAt' hq5 3; simp at b0 b2 b3; have hz5 := (Array.getElem?_eq_some_iff.1 hq5).1; have HBW := hid hb; have HW1 : Hid (Below wr.heap.size wr w1) := hid (below_box (hB1.mono (B' := wr.heap.size + 1) (by simp))); clear hB1 hb hq5)
              | (at_builtin; refine wpList_append_own _ rfl _ _ 35 rfl (w.heap.size + 1) 55 i0 _ 3 24 Try.underlying35 hi0 hz0 hz1 hz2 rfl (by decide) (.slice a6 n6 c6) fs.length (flatG Fl.cells fs) rfl (HRW.out _ HW1.out) ⟨w1.heap.size, 0, none⟩ 1 1 (Fl.cells ⟨x.i, x.p, x.n⟩) rfl rfl (fun j u hj => by rw [addr_add, cellAt' (heap_alloc_new w1 _)]; simpa using hj) (oneF _) (by have := HFK.out; unfold maxLen; omega) (by have := HFK.out; omega) (by have := HW1.out.size; simp; omega) ?_; intro v' w5 hown' hgrow _; have HOW := hid hown'; have HB5 : Hid (Below (w.heap.size + 1) (w.alloc (.cells #[.int .i64 o.i, .int .i64 o.s, .int .i64 o.p, .int .i64 o.n] 52)) w5) := hid ((HBW.out.alloc (by have := HW1.out.size; omega) _).grown hgrow (by have := HW1.out.size; simp; omega) (fun j hj => (HLT.out j hj).1)); clear hown' hgrow))
            go_roundg (n - (k + 1))
            case measure => omega
            case rel =>
              refine ⟨k + 1, x.n - x.n, fs ++ [⟨x.i, x.p, x.n⟩], by omega, by omega, by go_num, by go_num, by omega, by omega, by have := HFK.out; simp; omega, hid ⟨?_, HB5.out, ?_, ?_⟩⟩
              · show World.ownsRow _ _ _ _ _ _ _
                rw [flatG_append, flatG_one, List.length_append, List.length_singleton]
                exact HOW.out
              · rw [HI.out.2.2.1, HGO.out, List.append_assoc]; rfl
              · rw [HI.out.2.2.2, HGO.out]
          · have hmin : min left x.n = x.n := by omega
            rw [hmin] at HGO
            clear hmin
            have HRW : Hid (∀ W, Below wr.heap.size wr W → OwnF (W.alloc (.cells #[.int .i64 x.i, .int .i64 x.p, .int .i64 x.n] 55)) (w.heap.size + 1) (.slice a6 n6 c6) fs) := hid fun W hW => HI.out.1.on (hW.trans ((Below.refl _ W).alloc (Nat.le_refl _) _ |>.mono hW.size))
            have HLT := hid HI.out.1.lt
            have HFK := hid hfk
            clear hfk
            go_wp2_with (first
              | (go_at_call 60; refine (HM.out _).mono ?_; rintro e w1 ⟨rfl, hB1⟩; have hb := HB.out.trans (hB1.mono (by simp; omega)); have hq5 := obOn (heap_alloc_new wr (.cells #[.int .i64 x.i, .int .i64 x.s, .int .i64 x.p, .int .i64 x.n] 52)) (hB1.mono (B' := wr.heap.size + 1) (by simp)) (by omega); have b0 := cellAt' hq5 0; have b2 := cellAt' hq5 2; have b3 := cellAt' hq5 3; simp at b0 b2 b3; have hz5 := (Array.getElem?_eq_some_iff.1 hq5).1; have HBW := hid hb; have HW1 : Hid (Below wr.heap.size wr w1) := hid (below_box (hB1.mono (B' := wr.heap.size + 1) (by simp))); clear hB1 hb hq5)
              | (at_builtin; refine wpList_append_own _ rfl _ _ 35 rfl (w.heap.size + 1) 55 i0 _ 3 24 Try.underlying35 hi0 hz0 hz1 hz2 rfl (by decide) (.slice a6 n6 c6) fs.length (flatG Fl.cells fs) rfl (HRW.out _ HW1.out) ⟨w1.heap.size, 0, none⟩ 1 1 (Fl.cells ⟨x.i, x.p, x.n⟩) rfl rfl (fun j u hj => by rw [addr_add, cellAt' (heap_alloc_new w1 _)]; simpa using hj) (oneF _) (by have := HFK.out; unfold maxLen; omega) (by have := HFK.out; omega) (by have := HW1.out.size; simp; omega) ?_; intro v' w5 hown' hgrow _; have HOW := hid hown'; have HB5 : Hid (Below (w.heap.size + 1) (w.alloc (.cells #[.int .i64 o.i, .int .i64 o.s, .int .i64 o.p, .int .i64 o.n] 52)) w5) := hid ((HBW.out.alloc (by have := HW1.out.size; omega) _).grown hgrow (by have := HW1.out.size; simp; omega) (fun j hj => (HLT.out j hj).1)); clear hown' hgrow))
            go_roundg (n - (k + 1))
            case measure => omega
            case rel =>
              refine ⟨k + 1, left - x.n, fs ++ [⟨x.i, x.p, x.n⟩], by omega, by omega, by go_num, by go_num, by omega, by omega, by have := HFK.out; simp; omega, hid ⟨?_, HB5.out, ?_, ?_⟩⟩
              · show World.ownsRow _ _ _ _ _ _ _
                rw [flatG_append, flatG_one, List.length_append, List.length_singleton]
                exact HOW.out
              · rw [HI.out.2.2.1, HGO.out, List.append_assoc]; rfl
              · rw [HI.out.2.2.2, HGO.out]
    · have hltz : ¬ (k : Int) < (n : Int) := by omega
      have HST : Hid (fillG o.s o.p left (l.drop k) = ([], left)) := hid (by rw [List.drop_eq_nil_of_le (by have := HN.out; omega)]; rfl)
      go_wp2_with fail
      go_ret2
      have E1 : fr.1 = fs := by rw [HI.out.2.2.1, HST.out, List.append_nil]
      refine ⟨.slice a6 n6 c6, ?_, ?_, below_box HI.out.2.1⟩
      · exact congrArg (fun z => Ending.returned (.tuple #[.slice a6 n6 c6, .int .i64 z])) (show _ = fr.2 from by rw [HI.out.2.2.2, HST.out])
      · rw [E1]; exact own_monoB HI.out.1 (Nat.le_succ _)
end Go.Proofs.Ytdgllpfccdbdnaa

/- The document's Words: a text's words. -/
import Derived.Test.YtobndmolnliejaaDoorCmdPrint
import Derived.RegionTactic
import Derived.BigRegion
import Derived.IntWalk
namespace Go.Proofs.YtobndmolnliejaaDoor
open Go.RowKit Go.Lib

/-! ### Plain -/
abbrev Wd := List (List UInt8) × List UInt8
def stepW (a : Wd) (c : UInt8) : Wd := if c = 32 then (a.1 ++ [a.2], []) else (a.1, a.2 ++ [c])
def accW (a : Wd) (l : List UInt8) : Wd := l.foldl stepW a
def allW (a : Wd) : List (List UInt8) := a.1 ++ [a.2]
theorem accW_snoc (a : Wd) (l : List UInt8) (c : UInt8) : accW a (l ++ [c]) = stepW (accW a l) c := by simp [accW]
theorem accW_len (a : Wd) (l : List UInt8) : (accW a l).1.length ≤ a.1.length + l.length ∧ (accW a l).2.length ≤ a.2.length + l.length := by
  induction l generalizing a with
  | nil => simp [accW]
  | cons c r ih =>
    have := ih (stepW a c)
    have e : accW a (c :: r) = accW (stepW a c) r := rfl
    have e1 : (stepW a c).1.length ≤ a.1.length + 1 ∧ (stepW a c).2.length ≤ a.2.length + 1 := by
      unfold stepW; split <;> simp
    rw [e, List.length_cons]
    omega
theorem accW_word (a : Wd) (w l : List UInt8) (h : (32 : UInt8) ∉ w) : accW a (w ++ l) = accW (a.1, a.2 ++ w) l := by
  induction w generalizing a with
  | nil => simp
  | cons c r ih =>
    have hc : c ≠ 32 := fun e => h (by simp [e])
    have := ih (a.1, a.2 ++ [c]) (fun e => h (by simp [e]))
    simp only [List.cons_append] at this ⊢
    unfold accW at this ⊢
    rw [List.foldl_cons, show stepW a c = (a.1, a.2 ++ [c]) from by unfold stepW; rw [if_neg hc], this]
    simp
theorem accW_blank (a : Wd) (l : List UInt8) : accW a (32 :: l) = accW (a.1 ++ [a.2], []) l := by
  unfold accW; rw [List.foldl_cons]; rfl
/-- The words of words with one blank between. -/
theorem words_join : ∀ (ws : List (List UInt8)) (pre : List (List UInt8)), ws ≠ [] → (∀ w ∈ ws, (32 : UInt8) ∉ w) → allW (accW (pre, []) (join ws [32])) = pre ++ ws
  | [], _, h, _ => absurd rfl h
  | [x], pre, _, h => by
    have := accW_word (pre, []) x [] (h x (by simp))
    rw [join_one]
    rw [List.append_nil] at this
    rw [this]
    simp [allW, accW]
  | x :: y :: r, pre, _, h => by
    rw [join_cons2, accW_word _ _ _ (h x (by simp)), accW_blank]
    have := words_join (y :: r) (pre ++ [x]) (by simp) (fun w hw => h w (by simp [hw]))
    simp at this ⊢
    exact this

theorem ownsRow_set {w : World} {B g n cap j : Nat} {e : TypeId} {xs : List Value} (u : Value) (h : w.ownsRow B e 1 (.slice (some ⟨g, 0, none⟩) n cap) n xs) (_hj : j < n) : (w.setCell ⟨g, j, none⟩ u).ownsRow B e 1 (.slice (some ⟨g, 0, none⟩) n cap) n (xs.set j u) := by
  obtain ⟨h1, h2⟩ := h
  rcases h2 with ⟨h2, _⟩ | ⟨g', cap', cur, hv, hb, hh, hn, hm, hc, ht⟩
  · cases h2
  · cases hv
    refine ⟨by simpa using h1, Or.inr ⟨g, cap, cur.setIfInBounds j u, rfl, hb, heap_setCell_same hh u, hn, hm, by simpa using hc, ?_⟩⟩
    rw [← ht, Array.toList_setIfInBounds, List.take_set]
theorem row_free {w : World} {B g n cap : Nat} {e : TypeId} {xs : List Value} (h : w.ownsRow B e 1 (.slice (some ⟨g, 0, none⟩) n cap) n xs) : ∀ o, w.frozen? ⟨g, o, none⟩ = false := by
  obtain ⟨h1, h2⟩ := h
  rcases h2 with ⟨h2, _⟩ | ⟨g', cap', cur, hv, hb, hh, hn, hm, hc, ht⟩
  · cases h2
  · cases hv
    exact cells_free hh

theorem ext_one (s : ByteArray) (k : Nat) (h : k < s.size) (l : List UInt8) : Value.string ((⟨l.toArray⟩ : ByteArray) ++ s.extract k (k + 1)) = str (l ++ [s[k]]) := by
  have e : s.extract k (k + 1) = ⟨[s[k]].toArray⟩ := by
    apply ByteArray.ext
    apply Array.ext'
    rw [extract_data]
    have hk : k < s.data.toList.length := by simpa using h
    rw [show k + 1 - k = 1 from by omega, List.drop_eq_getElem_cons hk]
    rfl
  rw [e, str_add]
def WRel (w : World) (a : Wd) (v : Value) (wr : World) : Prop := ∃ g cap, v = .slice (some ⟨g, 0, none⟩) (a.1.length + 1) cap ∧ wr.ownsRow w.heap.size 9 1 v (a.1.length + 1) ((allW a).map str) ∧ Below w.heap.size w wr

set_option maxHeartbeats 1000000 in
set_option maxRecDepth 100000 in
theorem rWords (s : ByteArray) (hs : s.size ≤ 1000) (w : World) : Calls Tryd.prog 31 #[.string s] w fun e w' => ∃ v, e = .returned v ∧ WRel w (accW ([], []) s.data.toList) v w' := by
  obtain ⟨i0, hi9, hz0, hz1, hz2⟩ := info_parts infoS
  go_enter Tryd.func31, Tryd.ntmps31
  go_wp2
  go_loopw [3, 4] (fun v i wr => ∃ k : Nat, k ≤ s.size ∧ i = .int .i64 k ∧ WRel w (accW ([], []) (s.data.toList.take k)) v wr) (fun _ i _ => s.size - (RowKit.intOf i).toNat)
  case atStart =>
    refine ⟨0, Nat.zero_le _, rfl, w.heap.size, 1, rfl, ?_, (Below.refl _ _).alloc (Nat.le_refl _) _⟩
    exact ⟨by simp [allW, accW], Or.inr ⟨w.heap.size, 1, _, rfl, Nat.le_refl _, ha_new _ _ _ rfl, by simp [accW], by unfold maxLen; omega, by simp, by simp [allW, accW]⟩⟩
  case round =>
    obtain ⟨k, hk, rfl, hr⟩ := hrel
    by_cases hlt : k < s.size
    · have hts : s.data.toList.take (k + 1) = s.data.toList.take k ++ [s[k]] := by
        rw [List.take_succ_eq_append_getElem (by simpa using hlt)]; rfl
      have HN : Hid (accW ([], []) (s.data.toList.take (k + 1)) = stepW (accW ([], []) (s.data.toList.take k)) s[k]) := by
        show accW _ _ = _
        rw [hts, accW_snoc]
      clear hts
      have HL := accW_len ([], []) (s.data.toList.take k)
      have hl := List.length_take_le k s.data.toList
      generalize accW ([], []) (s.data.toList.take k) = a at hr HN HL
      obtain ⟨pre, last⟩ := a
      simp at HL
      obtain ⟨g, cap, rfl, hown, hB⟩ := hr
      have hown' : wr.ownsRow w.heap.size 9 1 (.slice (some ⟨g, 0, none⟩) (pre.length + 1) cap) (pre.length + 1) ((pre ++ [last]).map str) := hown
      clear hown
      have hlt0 := hown'.lt g rfl
      by_cases hsp : s[k] = 32
      · have hb : ((s[k].toNat : Int) == 32) = true := by rw [hsp]; rfl
        have HS := hid hsp
        clear hsp
        go_wp2_with (at_builtin; refine wpList_append_lies _ rfl _ _ 46 rfl w.heap.size 9 i0 (.string ⟨#[]⟩) 1 16 Tryd.underlying46 hi9 hz0 hz1 hz2 rfl (by omega) (.slice (some ⟨g, 0, none⟩) (pre.length + 1) cap) (pre.length + 1) ((pre ++ [last]).map str) rfl (hown'.alloc _) ⟨wr.heap.size, 0, none⟩ 1 1 [str []] rfl rfl (Go.cell_one_new _ _ _) (by simp [Value.oneCell']) (by omega) (by unfold maxLen; omega) (by omega) (by simp; omega) (wr.heap.size + 1) (by simp) ?_; intro g1 cap1 y1 own1 grow1 at1 ltg1)
        go_roundw
        case rel =>
          refine ⟨k + 1, by omega, by go_num, ?_⟩
          rw [HN.out, HS.out]
          refine ⟨g1, cap1, by simp [stepW], ?_, (hB.alloc hB.size _).grown grow1 (by simp; omega) (fun j hj => by cases hj; show w.heap.size ≤ g; omega)⟩
          simpa [stepW, allW] using own1
        case measure => simp [RowKit.intOf]; omega
      · have hb : ((s[k].toNat : Int) == 32) = false := by
          rw [beq_eq_false_iff_ne]
          intro e
          exact hsp (UInt8.toNat_inj.1 (by simp only [UInt8.reduceToNat]; omega))
        have HS := hid hsp
        clear hsp
        have c1 : wr.cell? ⟨g, pre.length, none⟩ = some (str last) := by
          have := (row_cells hown').1 pre.length last (by simp)
          simpa using this
        have f1 := row_free hown' pre.length
        have b1 : (0 : Int) ≤ (k : Int) := by omega
        have b2 : (k : Int) ≤ (k : Int) + 1 := by omega
        have b3 : (k : Int) + 1 ≤ (s.size : Int) := by omega
        have w1 : IntKind.i64.wrap ((pre.length : Int) + 1 - 1) = pre.length := by rw [IntWalk.i64_in _ (by omega)]; omega
        go_wp2_with fail
        go_region
        go_wp2
        go_roundw
        case rel =>
          refine ⟨k + 1, by omega, by go_num, ?_⟩
          rw [HN.out]
          have e0 : stepW (pre, last) s[k] = (pre, last ++ [s[k]]) := by unfold stepW; rw [if_neg HS.out]
          rw [e0]
          refine ⟨g, cap, rfl, ?_, (Below.drew hB).setCell (by show w.heap.size ≤ g; omega) _⟩
          have hset := ownsRow_set (str (last ++ [s[k]])) hown' (Nat.lt_succ_self pre.length)
          have e1 : (((pre ++ [last]).map str).set pre.length (str (last ++ [s[k]]))) = (allW (pre, last ++ [s[k]])).map str := by
            simp [allW]
          rw [e1] at hset
          rw [ext_one s k hlt]
          exact hset
        case measure => simp [RowKit.intOf]; omega
    · obtain ⟨g, cap, rfl, hown, hB⟩ := hr
      have hz9 := hid (show k = s.size by omega)
      have hO := hid hown
      clear hown
      go_wp2_with fail
      go_ret
      have e : s.data.toList.take k = s.data.toList := List.take_of_length_le (by have := hz9.out; show s.data.toList.length ≤ k; have e2 : s.size = s.data.toList.length := rfl; omega)
      have hO' := hO.out
      rw [e] at hO'
      exact ⟨.slice (some ⟨g, 0, none⟩) ((accW ([], []) s.data.toList).1.length + 1) cap, by rw [e]; rfl, g, cap, rfl, hO', hB⟩
end Go.Proofs.YtobndmolnliejaaDoor

/- The document's book: find, without, the first one of a side. -/
import Derived.Test.YtdgllpfccdbdnaaKRow
import Derived.Deep.LoopGhost
namespace Go.Proofs.Ytdgllpfccdbdnaa
set_option linter.unusedVariables false
set_option linter.unusedSimpArgs false
open Go.RowKit
open Go.Lib (hid)

theorem take_snoc {α : Type} {l : List α} {k : Nat} {x : α} (h : l[k]? = some x) : l.take (k + 1) = l.take k ++ [x] := by rw [List.take_add_one, h]; rfl
theorem less_step {l : List Od} {i j : Nat} {x : Od} (h : l[j]? = some x) (hj : j ≠ i) : less (l.take (j + 1)) i = less (l.take j) i ++ [x] := by
  have hl := (List.getElem?_eq_some_iff.1 h).1
  have hlen : (l.take j).length = j := by rw [List.length_take]; omega
  rw [take_snoc h]
  obtain ⟨m, hm⟩ : ∃ m, m = l.take j := ⟨_, rfl⟩
  rw [← hm] at hlen ⊢
  unfold less
  by_cases c : j < i
  · rw [List.take_of_length_le (show (m ++ [x]).length ≤ i by rw [List.length_append, hlen, List.length_singleton]; omega), List.drop_eq_nil_of_le (show (m ++ [x]).length ≤ i + 1 by rw [List.length_append, hlen, List.length_singleton]; omega), List.take_of_length_le (show m.length ≤ i by omega), List.drop_eq_nil_of_le (show m.length ≤ i + 1 by omega)]
    simp
  · rw [List.take_append_of_le_length (by omega), List.drop_append_of_le_length (by omega), List.append_assoc]
theorem less_skip {l : List Od} {i : Nat} {x : Od} (h : l[i]? = some x) : less (l.take (i + 1)) i = less (l.take i) i := by
  have hl := (List.getElem?_eq_some_iff.1 h).1
  have hlen : (l.take i).length = i := by rw [List.length_take]; omega
  rw [take_snoc h]
  unfold less
  rw [List.take_append_of_le_length (by omega), List.drop_eq_nil_of_le (by rw [List.length_append, hlen, List.length_singleton]; omega), List.drop_eq_nil_of_le (by omega)]

theorem quietQ {P : Program} {f : FuncId} {args : Array Value} {w : World} {q n : Nat} {v : Value} (h : Calls P f args (w.drewN (q + n)) fun e w' => e = .returned v ∧ w.drewN (q + n) = w') : Calls P f args (w.drewN (q + n)) fun e w'' => e = .returned v ∧ ∃ m, w'' = w.drewN (q + m) := h.mono fun e w' ⟨he, hw⟩ => ⟨he, n, hw.symm⟩
/-- A book of the document's. -/
def RB (w : World) (b : Nat) (v : Value) : Prop := w.heap[b]? = some (.cells #[v] 29 (0, 0))
theorem RB.cells {w : World} {b : Nat} {v : Value} (h : RB w b v) : b < w.heap.size ∧ w.cell? ⟨b, 0, none⟩ = some v ∧ w.frozen? ⟨b, 0, none⟩ = false := by
  unfold RB at h
  exact ⟨(Array.getElem?_eq_some_iff.1 h).1, by rw [cellAt' h]; rfl, by simp [World.frozen?, h]⟩
theorem RB.on {w w' : World} {b : Nat} {v : Value} (h : RB w b v) (hb : Below w.heap.size w w') : RB w' b v := obOn h hb h.cells.1

set_option maxHeartbeats 1600000 in
set_option maxRecDepth 100000 in
theorem rFind {w : World} {b B : Nat} {v : Value} {L : List Od} (hb : RB w b v) (h : OwnR w B v L) (hl : L.length ≤ 1000) (id : Int) : Calls Try.prog 42 #[ptr b, .int .i64 id] w fun e w' => e = .returned (.int .i64 (idxO (isI id) L)) ∧ w = w' := by
  obtain ⟨hlt, c0, _⟩ := hb.cells
  obtain ⟨a, n, c, rfl, hn, hx⟩ := h.at
  have HX := hid hx
  have HN := hid hn
  have hn1 : n ≤ 1000 := by omega
  clear h hb hx hl hn
  go_enter Try.func42, Try.ntmps42
  go_wp2_with fail
  go_loopg [5] n (fun gg s5 wr => ∃ k : Nat, k ≤ n ∧ n - k ≤ gg ∧ s5 = .int .i64 k ∧ wr = w ∧ Hid (∀ j, j < k → ∀ x, L[j]? = some x → isI id x = false))
  case atStart => exact ⟨0, Nat.zero_le _, by omega, rfl, rfl, hid fun j hj => absurd hj (Nat.not_lt_zero _)⟩
  case round =>
    obtain ⟨k, hk, hg, rfl, rfl, A⟩ := hrel
    by_cases hlt2 : k < n
    · have hltz : (k : Int) < (n : Int) := by omega
      obtain ⟨x, hx⟩ : ∃ x, L[k]? = some x := ⟨L[k]'(by rw [← HN.out]; exact hlt2), List.getElem?_eq_getElem (by rw [← HN.out]; exact hlt2)⟩
      obtain ⟨g, rfl, hg2, k0, _, _, _⟩ := HX.out k x hx
      have HXX := hid hx
      clear hx
      by_cases hq : x.i = id
      · go_wp2_with fail
        go_ret
        exact ⟨ret_int (idxO_hit HXX.out (by simp [isI, hq]) A.out).symm, rfl⟩
      · go_wp2_with fail
        go_roundg (n - (k + 1))
        case measure => omega
        case rel => exact ⟨k + 1, by omega, by omega, by go_num, rfl, hid (idxO_next A.out HXX.out (by simp [isI, hq]))⟩
    · have hltz : ¬ (k : Int) < (n : Int) := by omega
      go_wp2_with fail
      go_ret
      exact ⟨ret_int (idxO_miss fun j hj => A.out j (by have := HN.out; omega)).symm, rfl⟩

set_option maxHeartbeats 3200000 in
set_option maxRecDepth 100000 in
theorem rWithout {w : World} {B : Nat} {v : Value} {L : List Od} (h : OwnR w B v L) (hl : L.length ≤ 1000) (i : Nat) : Calls Try.prog 41 #[v, .int .i64 i] w fun e w' => ∃ r, e = .returned r ∧ OwnR w' w.heap.size r (less L i) ∧ Below w.heap.size w w' := by
  obtain ⟨a, n, c, rfl, hn, hx⟩ := h.at
  have HX := hid hx
  have HN := hid hn
  have hn1 : n ≤ 1000 := by omega
  clear h hx hl hn
  go_enter Try.func41, Try.ntmps41
  go_wp2_with fail
  go_loopg [5, 6] n (fun gg s5 s6 wr => ∃ (k : Nat) (oa : Option Addr) (on oc : Nat), k ≤ n ∧ n - k ≤ gg ∧ s6 = .int .i64 k ∧ s5 = .slice oa on oc ∧ Hid (OwnR wr w.heap.size (.slice oa on oc) (less (L.take k) i) ∧ Below w.heap.size w wr))
  case atStart => exact ⟨0, none, 0, 0, Nat.zero_le _, by omega, rfl, rfl, hid ⟨by unfold less; rw [List.take_zero, List.take_nil, List.drop_nil]; exact World.ownsRow_nil _ _ _ _, Below.refl _ _⟩⟩
  case round =>
    obtain ⟨k, oa, on, oc, hk, hg, rfl, rfl, HV⟩ := hrel
    by_cases hlt2 : k < n
    · have hltz : (k : Int) < (n : Int) := by omega
      obtain ⟨x, hx⟩ : ∃ x, L[k]? = some x := ⟨L[k]'(by rw [← HN.out]; exact hlt2), List.getElem?_eq_getElem (by rw [← HN.out]; exact hlt2)⟩
      have HXX := hid hx
      by_cases hki : k = i
      · subst hki
        have HV2 : Hid (OwnR wr w.heap.size (.slice oa on oc) (less (L.take (k + 1)) k) ∧ Below w.heap.size w wr) := hid ⟨by rw [less_skip HXX.out]; exact HV.out.1, HV.out.2⟩
        clear hx
        go_wp2_with fail
        go_roundg (n - (k + 1))
        case measure => omega
        case rel => exact ⟨k + 1, oa, on, oc, by omega, by omega, by go_num, rfl, HV2⟩
      · have hki2 : ¬ (k : Int) = (i : Int) := by omega
        obtain ⟨g, rfl, hg2, k0, k1, k2, k3⟩ := HX.out k x hx
        have d0 := (HV.out.2.cell (p := ⟨g, k * 4, none⟩) hg2).trans k0
        have d1 := (HV.out.2.cell (p := ⟨g, k * 4 + 1, none⟩) hg2).trans k1
        have d2 := (HV.out.2.cell (p := ⟨g, k * 4 + 2, none⟩) hg2).trans k2
        have d3 := (HV.out.2.cell (p := ⟨g, k * 4 + 3, none⟩) hg2).trans k3
        have HS := hid (sl_one_or wr x)
        have HB2 : Hid (Below wr.heap.size wr (wr.alloc (.cells #[.int .i64 x.i, .int .i64 x.s, .int .i64 x.p, .int .i64 x.n] 71))) := hid ((Below.refl _ wr).alloc (Nat.le_refl _) _)
        have HL : Hid ((less (L.take k) i).length ≤ 1000) := hid (by unfold less; rw [List.length_append, List.length_take, List.length_drop, List.length_take]; have := HN.out; omega)
        clear hx k0 k1 k2 k3
        go_wp2_with (at_builtin; refine wpList_append_or rfl _ _ rfl w.heap.size _ (less (L.take k) i) rfl (HV.out.1.on HB2.out) _ _ rfl HS.out (fun h => by cases h) (by have := HL.out; simp; omega) (by have := HV.out.2.size; simp; omega) ?_; (
          intro v2 w2 hR2 hg2
          have hb3 : Below w.heap.size w w2 := (HV.out.2.trans (HB2.out.mono HV.out.2.size)).grown hg2 (by have := HV.out.2.size; simp; omega) (fun k hk => (HV.out.1.lt k hk).1)
          have HV2 : Hid (OwnR w2 w.heap.size v2 (less (L.take (k + 1)) i) ∧ Below w.heap.size w w2) := hid ⟨by rw [less_step HXX.out hki]; exact hR2, hb3⟩
          obtain ⟨a2, c2, n2, rfl, hn2⟩ := hR2.asSlice
          clear hR2 hg2 hb3 hn2))
        go_roundg (n - (k + 1))
        case measure => omega
        case rel => exact ⟨k + 1, a2, n2, c2, by omega, by omega, by go_num, rfl, HV2⟩
    · have hltz : ¬ (k : Int) < (n : Int) := by omega
      have HL : Hid (OwnR wr w.heap.size (.slice oa on oc) (less L i)) := hid (by have h1 := HV.out.1; rw [List.take_of_length_le (by have := HN.out; omega)] at h1; exact h1)
      go_wp2_with fail
      go_ret
      exact ⟨_, rfl, HL.out, HV.out.2⟩

set_option maxRecDepth 100000 in
theorem rBetter0 (a b : Int) (w : World) : Calls Try.prog 58 #[.int .i64 0, .int .i64 a, .int .i64 b] w fun e w' => e = .returned (.bool (betterB 0 a b)) ∧ w = w' := by
  have h : betterB 0 a b = decide (b < a) := rfl
  rw [h]
  by_cases hb : b < a
  · have hd : decide (b < a) = true := decide_eq_true hb
    rw [hd]
    go_enter Try.func58, Try.ntmps58
    go_wp2
    go_ret
    exact ⟨ret_bool (by first | rfl | simp [hb]), rfl⟩
  · have hd : decide (b < a) = false := decide_eq_false hb
    rw [hd]
    go_enter Try.func58, Try.ntmps58
    go_wp2
    go_ret
    exact ⟨ret_bool (by first | rfl | simp [hb]), rfl⟩
set_option maxRecDepth 100000 in
theorem rBetter1 (a b : Int) (w : World) : Calls Try.prog 58 #[.int .i64 1, .int .i64 a, .int .i64 b] w fun e w' => e = .returned (.bool (betterB 1 a b)) ∧ w = w' := by
  have h : betterB 1 a b = decide (a < b) := rfl
  rw [h]
  by_cases hb : a < b
  · have hd : decide (a < b) = true := decide_eq_true hb
    rw [hd]
    go_enter Try.func58, Try.ntmps58
    go_wp2
    go_ret
    exact ⟨ret_bool (by first | rfl | simp [hb]), rfl⟩
  · have hd : decide (a < b) = false := decide_eq_false hb
    rw [hd]
    go_enter Try.func58, Try.ntmps58
    go_wp2
    go_ret
    exact ⟨ret_bool (by first | rfl | simp [hb]), rfl⟩
theorem rBetter (s a b : Int) (hs : s = 0 ∨ s = 1) (w : World) : Calls Try.prog 58 #[.int .i64 s, .int .i64 a, .int .i64 b] w fun e w' => e = .returned (.bool (betterB s a b)) ∧ w = w' := by
  rcases hs with rfl | rfl
  · exact rBetter0 a b w
  · exact rBetter1 a b w
/-- The place of a side's first one. -/
def FstR (s : Int) (L : List Od) (k : Nat) (z : Int) : Prop := (sideF s (L.take k) = [] ∧ z = -1) ∨ ∃ (j : Nat) (x : Od) (xs : List Od), z = j ∧ j < k ∧ sideF s (L.take k) = x :: xs ∧ L[j]? = some x
theorem insF_head {s : Int} {o x : Od} {xs : List Od} (ho : o.s = s) (hx : ∀ y ∈ x :: xs, y.s = s) (h : Sorted s (x :: xs)) : ∃ ys, insF o (x :: xs) = (if isW o x then o else x) :: ys := by
  rw [← ins_eq ho _ hx h]
  rcases hw : isW o x with _ | _
  · rw [ins_cons_miss hw]; exact ⟨_, rfl⟩
  · rw [ins_cons_hit hw]; exact ⟨_, rfl⟩
theorem FstR.skip {s : Int} {L : List Od} {k : Nat} {z : Int} {o : Od} (h : FstR s L k z) (ho : L[k]? = some o) (hs : o.s ≠ s) : FstR s L (k + 1) z := by
  have e : sideF s (L.take (k + 1)) = sideF s (L.take k) := by rw [take_snoc ho, side_snoc, if_neg hs]
  rcases h with ⟨h1, h2⟩ | ⟨j, x, xs, h1, h2, h3, h4⟩
  · exact .inl ⟨by rw [e, h1], h2⟩
  · exact .inr ⟨j, x, xs, h1, by omega, by rw [e, h3], h4⟩
theorem FstR.first {s : Int} {L : List Od} {k : Nat} {o : Od} (h : FstR s L k (-1)) (ho : L[k]? = some o) (hs : o.s = s) : FstR s L (k + 1) k := by
  rcases h with ⟨h1, h2⟩ | ⟨j, x, xs, h1, _⟩
  · exact .inr ⟨k, o, [], rfl, by omega, by rw [take_snoc ho, side_snoc, if_pos hs, h1]; rfl, ho⟩
  · omega
theorem FstR.next {s : Int} {L : List Od} {k j : Nat} {o x : Od} (h : FstR s L k j) (ho : L[k]? = some o) (hs : o.s = s) (hx : L[j]? = some x) : FstR s L (k + 1) (if betterB s o.p x.p then (k : Int) else (j : Int)) := by
  rcases h with ⟨h1, h2⟩ | ⟨j', x', xs, h1, h2, h3, h4⟩
  · omega
  · obtain rfl : j' = j := by omega
    rw [hx] at h4
    obtain rfl := Option.some.inj h4
    have hsd := sorted_side (s := s) (L.take k)
    have hmm : ∀ y ∈ sideF s (L.take k), y.s = s := fun y hy => ((mem_side (L.take k)).1 hy).2
    rw [h3] at hsd hmm
    obtain ⟨ys, hys⟩ := insF_head hs hmm hsd
    have e : sideF s (L.take (k + 1)) = (if isW o x then o else x) :: ys := by rw [take_snoc ho, side_snoc, if_pos hs, h3, hys]
    have hw : isW o x = betterB s o.p x.p := by unfold isW; rw [hs]
    rw [hw] at e
    right
    split
    · rename_i hb
      rw [if_pos hb] at e
      exact ⟨k, o, ys, rfl, by omega, e, ho⟩
    · rename_i hb
      rw [if_neg hb] at e
      exact ⟨j', x, ys, rfl, by omega, e, hx⟩

set_option maxHeartbeats 3200000 in
set_option maxRecDepth 100000 in
theorem rFirst {w : World} {b B : Nat} {v : Value} {L : List Od} (hb : RB w b v) (h : OwnR w B v L) (hl : L.length ≤ 1000) (s : Int) (hs : s = 0 ∨ s = 1) : Calls Try.prog 39 #[ptr b, .int .i64 s] w fun e w' => ∃ z, e = .returned (.int .i64 z) ∧ FstR s L L.length z ∧ Below w.heap.size w w' := by
  obtain ⟨hlt, c0, _⟩ := hb.cells
  obtain ⟨a, n, c, rfl, hn, hx⟩ := h.at
  have HX := hid hx
  have HN := hid hn
  rw [← hn]
  have hn1 : n ≤ 1000 := by omega
  clear h hb hx hl hn
  go_enter Try.func39, Try.ntmps39
  go_wp2_with fail
  go_loopg [5, 6, 7] n (fun gg s5 s6 s7 wr => ∃ (k q : Nat) (z : Int), k ≤ n ∧ n - k ≤ gg ∧ s6 = .int .i64 k ∧ s5 = .int .i64 z ∧ wr = w.drewN q ∧ Hid (FstR s L k z))
  case atStart => exact ⟨0, 0, -1, Nat.zero_le _, by omega, rfl, rfl, rfl, hid (.inl ⟨rfl, rfl⟩)⟩
  case round =>
    obtain ⟨k, q, z, hk, hg, rfl, rfl, rfl, HF⟩ := hrel
    by_cases hlt2 : k < n
    · have hltz : (k : Int) < (n : Int) := by omega
      obtain ⟨x, hx⟩ : ∃ x, L[k]? = some x := ⟨L[k]'(by rw [← HN.out]; exact hlt2), List.getElem?_eq_getElem (by rw [← HN.out]; exact hlt2)⟩
      obtain ⟨g, rfl, hg2, k0, k1, k2, k3⟩ := HX.out k x hx
      have HXX := hid hx
      clear hx
      by_cases hq : x.s = s
      · rcases HF.out with ⟨_, rfl⟩ | ⟨j, y, ys, rfl, hjk, _, hy⟩
        · go_wp2_with fail
          go_roundg (n - (k + 1))
          case measure => omega
          case rel => exact ⟨k + 1, _, k, by omega, by omega, by go_num, rfl, rfl, hid (HF.out.first HXX.out hq)⟩
        · obtain ⟨g', e2, _, m0, m1, m2, m3⟩ := HX.out j y hy
          cases e2
          have HY := hid hy
          have hjn : j < n := by omega
          have hBt := fun W => rBetter s x.p y.p hs W
          have HNX := hid (HF.out.next HXX.out hq hy)
          clear hy
          rcases hbb : betterB s x.p y.p with _ | _
          · rw [hbb] at hBt HNX
            have HBt := hid hBt
            clear hbb hBt
            go_wp2_with fail
            go_quiet ((first | (go_at_call 58; with_reducible exact quietQ (HBt.out _))))
            go_wp2_with fail
            go_roundg (n - (k + 1))
            case measure => omega
            case rel => exact ⟨k + 1, _, j, by omega, by omega, by go_num, rfl, rfl, HNX⟩
          · rw [hbb] at hBt HNX
            have HBt := hid hBt
            clear hbb hBt
            go_wp2_with fail
            go_quiet ((first | (go_at_call 58; with_reducible exact quietQ (HBt.out _))))
            go_wp2_with fail
            go_roundg (n - (k + 1))
            case measure => omega
            case rel => exact ⟨k + 1, _, k, by omega, by omega, by go_num, rfl, rfl, HNX⟩
      · go_wp2_with fail
        go_roundg (n - (k + 1))
        case measure => omega
        case rel => exact ⟨k + 1, q, z, by omega, by omega, by go_num, rfl, rfl, hid (HF.out.skip HXX.out hq)⟩
    · have hltz : ¬ (k : Int) < (n : Int) := by omega
      obtain rfl : k = n := by omega
      go_wp2_with fail
      go_ret
      exact ⟨z, rfl, HF.out, belowDrewN (Below.refl _ _) _⟩
end Go.Proofs.Ytdgllpfccdbdnaa

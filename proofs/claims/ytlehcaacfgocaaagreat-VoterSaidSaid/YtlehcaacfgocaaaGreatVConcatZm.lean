import Derived.Test.YtlehcaacfgocaaaGreatVBaseZm
import Derived.Test.YtlehcaacfgocaaaGreatG12
import Derived.Lib.AppendZerosOnto
import Derived.Lib.AppendZeros
namespace Go.Proofs.YtlehcaacfgocaaaGreat
set_option linter.unusedVariables false
open Go.RowKit
open Go.Lib (hid)
set_option maxHeartbeats 1600000 in
set_option maxRecDepth 100000 in
theorem cGrowC (n : Nat) (hn : 1 ≤ n) (hl : n ≤ 100000) (w : World) : Calls Tryz.prog 72 #[.slice none 0 0, .int .i64 n] w fun x w' => ∃ g cap, x = .returned (.slice (some ⟨g, 0, none⟩) 0 cap) ∧ Own w' w.heap.size (.slice (some ⟨g, 0, none⟩) 0 cap) [] ∧ Below w.heap.size w w' := by
  obtain ⟨i0, hi, hz0, hz1, hz2⟩ := info_parts Tryz.infoC
  have hold : (Builtin.firstCells i0.size 0 (.slice none 0 0)).run Tryz.prog w.drew = .ok (#[] : Array Value) w.drew := run_firstCells_none w.drew i0.size 0 0 0
  have hrz : ∀ ty, (Builtin.append_ #[46, 3] ty #[.slice none 0 0, .int .i64 n]).run Tryz.prog w = .ok (.slice (some ⟨w.heap.size, 0, none⟩) n (grownCap w n 0 45)) (w.drew.alloc (.cells ((#[] : Array Value) ++ Builtin.zeroCells (Value.agg #[.int .i64 0, .int .i64 0, .int .i64 0, .int .i64 0, .int .i64 0, .int .i64 0, .int .i64 0]).cells n ++ Builtin.zeroCells (Value.agg #[.int .i64 0, .int .i64 0, .int .i64 0, .int .i64 0, .int .i64 0, .int .i64 0, .int .i64 0]).cells (grownCap w n 0 45 - n)) 45)) := fun ty => by
    have h := Lib.run_append_grow_zeros w 46 3 ty 45 i0 (Value.agg #[.int .i64 0, .int .i64 0, .int .i64 0, .int .i64 0, .int .i64 0, .int .i64 0, .int .i64 0]) .i64 .i64 Tryz.underlying46 Tryz.underlying3 hi hz0 none 0 0 [] hold n (by omega) (by omega) (by omega) (by omega) (by rw [hz2]; omega) (by
      rw [hz2]
      have := growslice_fits (need := 0 + n) (old := 0) (bytes := 56) (by omega) (by omega)
      exact this)
    rw [Nat.zero_add] at h
    exact h
  have hGn : n ≤ grownCap w n 0 45 := grownCap_ge w _ _ _
  have hG63 := grownCap_le_maxLen w n 0 45 (by unfold maxLen; omega)
  obtain ⟨G, hG⟩ : ∃ G, G = grownCap w n 0 45 := ⟨_, rfl⟩
  rw [← hG] at hrz hGn hG63
  have h0 : ¬ ((n : Int) < 0) := by omega
  have h1 : (0 : Int) < (n : Int) := by omega
  have hGi : G ≤ 9223372036854775807 := by unfold maxLen at hG63; omega
  clear hG hold hi hz0 hz1 hz2
  go_enter Tryz.func72, Tryz.ntmps72
  go_wp2_with (at_builtin; refine Lib.wpList_append_run _ rfl _ _ _ _ rfl _ _ rfl rfl _ _ (hrz _) ?_)
  all_goals (
    go_ret
    exact ⟨_, _, rfl, ⟨rfl, .inr ⟨w.heap.size, G, _, rfl, Nat.le_refl _, obDrew (heap_alloc_new w _), Nat.zero_le _, hG63, by simp [Builtin.zeroCells]; omega, by simp [flat]⟩⟩, belowDrew ((Below.refl _ w).alloc (Nat.le_refl _) _)⟩)
def RowsC (w : World) (b o : Nat) (ps : List (Sv × List C7)) : Prop := ∀ j p, ps[j]? = some p → w.cell? ⟨b, o + j, none⟩ = some (.slice p.1.a p.1.n p.1.c) ∧ Sl w p.1.v p.2
def lensC (ps : List (Sv × List C7)) : Nat := (ps.map fun p => p.2.length).sum
def catC (ps : List (Sv × List C7)) : List C7 := ps.flatMap fun p => p.2
theorem lensC_next {ps : List (Sv × List C7)} {j : Nat} {p : Sv × List C7} (h : ps[j]? = some p) : lensC (ps.take (j + 1)) = lensC (ps.take j) + p.2.length := by
  unfold lensC; rw [List.take_add_one, h]; simp
theorem catC_next {ps : List (Sv × List C7)} {j : Nat} {p : Sv × List C7} (h : ps[j]? = some p) : catC (ps.take (j + 1)) = catC (ps.take j) ++ p.2 := by
  unfold catC; rw [List.take_add_one, h]; simp
theorem lensC_le (ps : List (Sv × List C7)) (j : Nat) : lensC (ps.take j) ≤ lensC ps := by
  have h : ps = ps.take j ++ ps.drop j := (List.take_append_drop j ps).symm
  have : lensC (ps.take j ++ ps.drop j) = lensC (ps.take j) + lensC (ps.drop j) := by unfold lensC; rw [List.map_append, List.sum_append]
  rw [← h] at this
  omega
theorem catC_len : ∀ ps : List (Sv × List C7), (catC ps).length = lensC ps
  | [] => rfl
  | p :: ps => by
    have := catC_len ps
    unfold catC lensC at *
    simp only [List.flatMap_cons, List.length_append, List.map_cons, List.sum_cons]
    omega
theorem Sl.lenN {w : World} {p : Sv} {l : List C7} (h : Sl w p.v l) : p.n = l.length := by
  obtain ⟨_, _, cap, a, hv', _⟩ := id h
  injection hv'
theorem wpList_append_slC {w : World} {ops : Array Oper} {rest : List Oper} {o : Oper} {a : Act} {Q : Exit → Act → World → Prop} (hgd : o.guard = none) (s x : Operand) (ho : o.op = .call { callee := .builtin .append, args := #[s, x], argTypes := #[46, 46] })
    (base : Nat) (v : Value) (l1 : List C7) (hs : a.eval s = v) (hown : Own w base v l1) (v2 : Value) (l2 : List C7) (hx : a.eval x = v2) (h2 : Sl w v2 l2) (hlen : l1.length + l2.length ≤ 100000) (hbase : base ≤ w.heap.size)
    (h : ∀ v' w', Own w' base v' (l1 ++ l2) → w.grownBy w' v.ownBlock → wpList Tryz.prog ops Q rest (a.put o.dst v') w') : wpList Tryz.prog ops Q (o :: rest) a w := by
  obtain ⟨i0, hi, hz0, hz1, hz2⟩ := info_parts Tryz.infoC
  rcases h2.src with ⟨rfl, rfl⟩ | ⟨ad, cap, rfl, hc, _⟩
  · refine wpList_append_own_none hgd s x 46 ho base 45 i0 7 Tryz.underlying46 hi v l1.length (flat l1) hs hown hx ?_
    exact h v w (by rw [List.append_nil]; exact hown) (grownRefl _ _)
  · refine wpList_append_own _ hgd s x 46 ho base 45 i0 _ 7 56 Tryz.underlying46 hi hz0 hz1 hz2 rfl (by decide) v l1.length (flat l1) hs hown ad l2.length cap (flat l2) hx (flat_len l2) hc (flat_one _) (by unfold maxLen; omega) (by omega) hbase ?_
    intro v' w' ho' hg _
    exact h v' w' (by unfold Own; rw [flat_append, List.length_append]; exact ho') hg
set_option maxHeartbeats 1600000 in
set_option maxRecDepth 100000 in
theorem cConcatC {ps : List (Sv × List C7)} {b o cap : Nat} {w : World} (h : RowsC w b o ps) (hb : b < w.heap.size) (h1 : 1 ≤ lensC ps) (h2 : lensC ps ≤ 100000) (hk : ps.length ≤ 100) :
    Calls Tryz.prog 40 #[.slice (some ⟨b, o, none⟩) ps.length cap] w fun x w' => ∃ r, x = .returned r ∧ Own w' w.heap.size r (catC ps) ∧ Below w.heap.size w w' := by
  obtain ⟨n, hn⟩ : ∃ n, n = ps.length := ⟨_, rfl⟩
  rw [← hn] at hk ⊢
  have HN := hid hn
  have HR := hid h
  clear hn h
  go_enter Tryz.func40, Tryz.ntmps40
  go_wp2
  go_loopw [3, 11] (fun s i wr => ∃ j : Nat, j ≤ n ∧ i = .int .i64 j ∧ s = .int .i64 (lensC (ps.take j)) ∧ wr = w) (fun _ i _ => n - (intOf i).toNat)
  case atStart => exact ⟨0, Nat.zero_le _, rfl, rfl, rfl⟩
  case round =>
    obtain ⟨j, hj, rfl, rfl, rfl⟩ := hrel
    by_cases hlt : j < n
    · obtain ⟨p, hp⟩ : ∃ p, ps[j]? = some p := ⟨ps[j]'(by rw [← HN.out]; exact hlt), List.getElem?_eq_getElem (by rw [← HN.out]; exact hlt)⟩
      obtain ⟨k0, hs⟩ := HR.out j p hp
      have hl := hs.lenN
      have hnx := lensC_next hp
      have hle := lensC_le ps (j + 1)
      have hlt2 : (j : Int) < (n : Int) := by omega
      have hw : wrap64 ((lensC (ps.take j) : Int) + (p.1.n : Int)) = (lensC (ps.take j) : Int) + (p.1.n : Int) := by unfold wrap64; omega
      have hsum : ¬ ((lensC (ps.take j) : Int) + (p.1.n : Int) < 0) := by omega
      have HX := hid (And.intro hl hnx)
      clear hs hl hnx hle hp
      go_wp2
      go_roundw
      case rel => exact ⟨j + 1, by omega, by go_num, congrArg (Value.int .i64) (by have e1 := HX.out.1; have e2 := HX.out.2; omega), trivial⟩
      case measure => first | omega | (simp [RowKit.intOf]; omega) | (show n - ((j : Int) + 1).toNat < n - (j : Int).toNat; omega)
    · obtain ⟨w0, hw0⟩ : ∃ W, W = wr := ⟨_, rfl⟩
      subst hw0
      have hlt2 : ¬ (j : Int) < (n : Int) := by omega
      have hall : ps.take j = ps := by rw [show j = ps.length by have := HN.out; omega]; exact List.take_length
      rw [hall]
      have hG := fun W => cGrowC (lensC ps) h1 h2 W
      obtain ⟨N, hNN⟩ : ∃ N, N = lensC ps := ⟨_, rfl⟩
      rw [← hNN] at hG ⊢
      have H2 := hid (hNN ▸ h2)
      have HNN := hid hNN
      clear hall h1 h2 hNN
      go_wp2_with fail
      go_at_call 72
      refine (hG _).mono ?_
      rintro x w1 ⟨g, cg, rfl, ho, hB⟩
      have HO := hid ho
      have HB := hid hB
      clear ho hB
      go_wp2
      go_loopw [6, 27] (fun s i w2 => ∃ (j : Nat) (v : Value), j ≤ n ∧ i = .int .i64 j ∧ s = v ∧ Own w2 w0.heap.size v (catC (ps.take j)) ∧ Below w0.heap.size w0 w2) (fun _ i _ => n - (intOf i).toNat)
      case atStart => exact ⟨0, _, Nat.zero_le _, rfl, rfl, HO.out, HB.out⟩
      case round =>
        obtain ⟨j, v, hj, rfl, rfl, ho, hB⟩ := hrel
        by_cases hlt : j < n
        · obtain ⟨p, hp⟩ : ∃ p, ps[j]? = some p := ⟨ps[j]'(by rw [← HN.out]; exact hlt), List.getElem?_eq_getElem (by rw [← HN.out]; exact hlt)⟩
          obtain ⟨k0, hs⟩ := HR.out j p hp
          have k1 := (hB.cell (p := ⟨b, o + j, none⟩) hb).trans k0
          have hs1 := hid (hs.on hB)
          have hnx := catC_next hp
          have hlen : (catC (ps.take j)).length + p.2.length ≤ 100000 := by
            have e1 := lensC_next hp
            have e2 := lensC_le ps (j + 1)
            have e3 : (catC (ps.take j)).length = lensC (ps.take j) := catC_len _
            have e4 := HNN.out
            have e5 := H2.out
            omega
          have hlt2 : (j : Int) < (n : Int) := by omega
          have HX := hid (And.intro hnx hlen)
          have HO2 := hid ho
          have HB2 := hid hB
          obtain ⟨ga, ca, na, rfl, hna⟩ := ho.asSlice
          have HNA := hid hna
          clear k0 hs hnx hlen hp ho hB hna
          go_wp2_with (at_builtin; refine wpList_append_slC rfl _ _ rfl w0.heap.size _ (catC (ps.take j)) rfl HO2.out _ p.2 rfl hs1.out HX.out.2 HB2.out.size ?_; intro v' w' ho' hg; have HO3 := hid ho'; have HB3 := hid (HB2.out.grown hg HB2.out.size (fun k hk => (HO2.out.lt k hk).1)); clear ho' hg)
          go_roundw
          case rel => exact ⟨j + 1, _, by omega, by go_num, rfl, by rw [HX.out.1]; exact HO3.out, HB3.out⟩
          case measure => first | omega | (simp [RowKit.intOf]; omega) | (show n - ((j : Int) + 1).toNat < n - (j : Int).toNat; omega)
        · have hlt2 : ¬ (j : Int) < (n : Int) := by omega
          have hall : ps.take j = ps := by rw [show j = ps.length by have := HN.out; omega]; exact List.take_length
          rw [hall] at ho
          have HO2 := hid ho
          have HB2 := hid hB
          clear ho hB
          go_wp2
          go_ret
          exact ⟨_, rfl, HO2.out, HB2.out⟩
end Go.Proofs.YtlehcaacfgocaaaGreat

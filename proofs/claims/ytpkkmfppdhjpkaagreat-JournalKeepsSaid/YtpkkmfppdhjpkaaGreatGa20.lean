import Derived.Test.YtpkkmfppdhjpkaaGreatGa19
import Derived.Test.YtpkkmfppdhjpkaaGreatGa16
/- Bytes behind bytes: the library's Concat. -/
namespace Go.Proofs.YtpkkmfppdhjpkaaGreat
set_option linter.unusedVariables false
open Go.RowKit
open Go.Lib (hid)

/-- Slices of bytes, one behind the other in a block, and what they hold. -/
def RowsB (w : World) (b o : Nat) (ps : List (Sv × List UInt8)) : Prop := ∀ j p, ps[j]? = some p → w.cell? ⟨b, o + j, none⟩ = some (.slice p.1.a p.1.n p.1.c) ∧ SlB w p.1.v p.2
def lensB (ps : List (Sv × List UInt8)) : Nat := (ps.map fun p => p.2.length).sum
def catB (ps : List (Sv × List UInt8)) : List UInt8 := ps.flatMap fun p => p.2
theorem lens_next {ps : List (Sv × List UInt8)} {j : Nat} {p : Sv × List UInt8} (h : ps[j]? = some p) : lensB (ps.take (j + 1)) = lensB (ps.take j) + p.2.length := by
  unfold lensB; rw [List.take_add_one, h]; simp
theorem cat_next {ps : List (Sv × List UInt8)} {j : Nat} {p : Sv × List UInt8} (h : ps[j]? = some p) : catB (ps.take (j + 1)) = catB (ps.take j) ++ p.2 := by
  unfold catB; rw [List.take_add_one, h]; simp
theorem lens_le (ps : List (Sv × List UInt8)) (j : Nat) : lensB (ps.take j) ≤ lensB ps := by
  have h : ps = ps.take j ++ ps.drop j := (List.take_append_drop j ps).symm
  have : lensB (ps.take j ++ ps.drop j) = lensB (ps.take j) + lensB (ps.drop j) := by unfold lensB; rw [List.map_append, List.sum_append]
  rw [← h] at this
  omega
theorem cat_len : ∀ ps : List (Sv × List UInt8), (catB ps).length = lensB ps
  | [] => rfl
  | p :: ps => by
    have := cat_len ps
    unfold catB lensB at *
    simp only [List.flatMap_cons, List.length_append, List.map_cons, List.sum_cons]
    omega
theorem SlB.len {w : World} {p : Sv} {l : List UInt8} (h : SlB w p.v l) : p.n = l.length := by
  obtain ⟨_, _, cap, a, hv', _⟩ := id h
  injection hv'

theorem wpList_append_slb {w : World} {ops : Array Oper} {rest : List Oper} {o : Oper} {a : Act} {Q : Exit → Act → World → Prop} (hgd : o.guard = none) (s x : Operand) (ho : o.op = .call { callee := .builtin .append, args := #[s, x], argTypes := #[63, 63] })
    (base : Nat) (v : Value) (l1 : List UInt8) (hs : a.eval s = v) (hown : OwnB w base v l1) (v2 : Value) (l2 : List UInt8) (hx : a.eval x = v2) (h2 : SlB w v2 l2) (hlen : l1.length + l2.length ≤ 1000000) (hbase : base ≤ w.heap.size)
    (h : ∀ v' w', OwnB w' base v' (l1 ++ l2) → w.grownBy w' v.ownBlock → wpList Tryz.prog ops Q rest (a.put o.dst v') w') : wpList Tryz.prog ops Q (o :: rest) a w := by
  obtain ⟨i0, hi, hz0, hz1, hz2⟩ := info_parts Tryz.infoB
  rcases h2.src with ⟨rfl, rfl⟩ | ⟨ad, cap, rfl, hc, _⟩
  · refine wpList_append_own_none hgd s x 63 ho base 5 i0 1 Tryz.underlying63 hi v l1.length (octs l1) hs hown hx ?_
    exact h v w (by rw [List.append_nil]; exact hown) (grownRefl _ _)
  · refine wpList_append_own _ hgd s x 63 ho base 5 i0 _ 1 1 Tryz.underlying63 hi hz0 hz1 hz2 rfl (by decide) v l1.length (octs l1) hs hown ad l2.length cap (octs l2) hx (by rw [octs_len, Nat.mul_one]) hc (octs_one _) (by unfold maxLen; omega) (by omega) hbase ?_
    intro v' w' ho' hg _
    exact h v' w' (by unfold OwnB; rw [octs_append, List.length_append]; exact ho') hg


set_option maxHeartbeats 1600000 in
set_option maxRecDepth 100000 in
theorem cConcat {ps : List (Sv × List UInt8)} {b o cap : Nat} {w : World} (h : RowsB w b o ps) (hb : b < w.heap.size) (h1 : 1 ≤ lensB ps) (h2 : lensB ps ≤ 1000000) (hk : ps.length ≤ 100) :
    Calls Tryz.prog 55 #[.slice (some ⟨b, o, none⟩) ps.length cap] w fun x w' => ∃ r, x = .returned r ∧ OwnB w' w.heap.size r (catB ps) ∧ Below w.heap.size w w' := by
  obtain ⟨n, hn⟩ : ∃ n, n = ps.length := ⟨_, rfl⟩
  rw [← hn] at hk ⊢
  have HN := hid hn
  have HR := hid h
  clear hn h
  go_enter Tryz.func55, Tryz.ntmps55
  go_wp2
  go_loopw [3, 11] (fun s i wr => ∃ j : Nat, j ≤ n ∧ i = .int .i64 j ∧ s = .int .i64 (lensB (ps.take j)) ∧ wr = w) (fun _ i _ => n - (intOf i).toNat)
  case atStart => exact ⟨0, Nat.zero_le _, rfl, rfl, rfl⟩
  case round =>
    obtain ⟨j, hj, rfl, rfl, rfl⟩ := hrel
    by_cases hlt : j < n
    · obtain ⟨p, hp⟩ : ∃ p, ps[j]? = some p := ⟨ps[j]'(by rw [← HN.out]; exact hlt), List.getElem?_eq_getElem (by rw [← HN.out]; exact hlt)⟩
      obtain ⟨k0, hs⟩ := HR.out j p hp
      have hl := hs.len
      have hnx := lens_next hp
      have hle := lens_le ps (j + 1)
      have hlt2 : (j : Int) < (n : Int) := by omega
      have hw : wrap64 ((lensB (ps.take j) : Int) + (p.1.n : Int)) = (lensB (ps.take j) : Int) + (p.1.n : Int) := by unfold wrap64; omega
      have hsum : ¬ ((lensB (ps.take j) : Int) + (p.1.n : Int) < 0) := by omega
      have HX := hid (And.intro hl hnx)
      clear hs hl hnx hle hp
      go_wp2
      go_roundw
      case rel => exact ⟨j + 1, by omega, by go_num, congrArg (Value.int .i64) (by have e1 := HX.out.1; have e2 := HX.out.2; omega), trivial⟩
      case measure => simp [RowKit.intOf]; omega
    · obtain ⟨w0, hw0⟩ : ∃ W, W = wr := ⟨_, rfl⟩
      subst hw0
      have hlt2 : ¬ (j : Int) < (n : Int) := by omega
      have hall : ps.take j = ps := by rw [show j = ps.length by have := HN.out; omega]; exact List.take_length
      rw [hall]
      have hG := fun W => cGrow (lensB ps) h1 h2 W
      obtain ⟨N, hNN⟩ : ∃ N, N = lensB ps := ⟨_, rfl⟩
      rw [← hNN] at hG ⊢
      have H2 := hid (hNN ▸ h2)
      have HNN := hid hNN
      clear hall h1 h2 hNN
      go_wp2_with fail
      go_at_call 74
      refine (hG _).mono ?_
      rintro x w1 ⟨g, cg, rfl, ho, hB⟩
      have HO := hid ho
      have HB := hid hB
      clear ho hB
      go_wp2
      go_loopw [6, 27] (fun s i w2 => ∃ (j : Nat) (v : Value), j ≤ n ∧ i = .int .i64 j ∧ s = v ∧ OwnB w2 w0.heap.size v (catB (ps.take j)) ∧ Below w0.heap.size w0 w2) (fun _ i _ => n - (intOf i).toNat)
      case atStart => exact ⟨0, _, Nat.zero_le _, rfl, rfl, HO.out, HB.out⟩
      case round =>
        obtain ⟨j, v, hj, rfl, rfl, ho, hB⟩ := hrel
        by_cases hlt : j < n
        · obtain ⟨p, hp⟩ : ∃ p, ps[j]? = some p := ⟨ps[j]'(by rw [← HN.out]; exact hlt), List.getElem?_eq_getElem (by rw [← HN.out]; exact hlt)⟩
          obtain ⟨k0, hs⟩ := HR.out j p hp
          have k1 := (hB.cell (p := ⟨b, o + j, none⟩) hb).trans k0
          have hs1 := hid (hs.on hB)
          have hnx := cat_next hp
          have hlen : (catB (ps.take j)).length + p.2.length ≤ 1000000 := by
            have e1 := lens_next hp
            have e2 := lens_le ps (j + 1)
            have e3 : (catB (ps.take j)).length = lensB (ps.take j) := cat_len _
            have e4 := HNN.out
            have e5 := H2.out
            omega
          have hlt2 : (j : Int) < (n : Int) := by omega
          have HX := hid (And.intro hnx hlen)
          have HO2 := hid ho
          have HB2 := hid hB
          obtain ⟨ga, ca, na, rfl, hna⟩ := ho.asSlice
          have HNA := hid hna
          clear k0 hs hnx hlen hp ho hB hna
          go_wp2_with (at_builtin; refine wpList_append_slb rfl _ _ rfl w0.heap.size _ (catB (ps.take j)) rfl HO2.out _ p.2 rfl hs1.out HX.out.2 HB2.out.size ?_; intro v' w' ho' hg; have HO3 := hid ho'; have HB3 := hid (HB2.out.grown hg HB2.out.size (fun k hk => (HO2.out.lt k hk).1)); clear ho' hg)
          go_roundw
          case rel => exact ⟨j + 1, _, by omega, by go_num, rfl, by rw [HX.out.1]; exact HO3.out, HB3.out⟩
          case measure => simp [RowKit.intOf]; omega
        · have hlt2 : ¬ (j : Int) < (n : Int) := by omega
          have hall : ps.take j = ps := by rw [show j = ps.length by have := HN.out; omega]; exact List.take_length
          rw [hall] at ho
          have HO2 := hid ho
          have HB2 := hid hB
          clear ho hB
          go_wp2
          go_ret
          exact ⟨_, rfl, HO2.out, HB2.out⟩
end Go.Proofs.YtpkkmfppdhjpkaaGreat
/- An entry's bytes: the program's Encode, of one that may not be. -/

namespace Go.Proofs.YtpkkmfppdhjpkaaGreat
set_option linter.unusedVariables false
open Go.RowKit
open Go.Lib (hid)

set_option maxHeartbeats 4000000 in
set_option maxRecDepth 100000 in
theorem cEncode_no {e : Ev} {f a v : List C7} {w : World} (hf : Sl w e.fp.v f) (ha : Sl w e.xp.v a) (hv : Sl w e.vp.v v) (lf : f.length ≤ 1024) (la : a.length ≤ 1024) (lv : v.length ≤ 1024) (hr : rightE e f a v = false) :
    Calls Tryz.prog 54 #[.agg e.arr] w fun x w' => x = .returned (.tuple #[.slice none 0 0, .int .i64 1]) ∧ Below w.heap.size w w' := by
  have hR := fun (W : World) (hB : Below w.heap.size w W) => cRightE (hf.on hB) (ha.on hB) (hv.on hB) lf la lv
  rw [hr] at hR
  clear hf ha hv hr
  have HX : Hid (Ob (w.alloc (.cells e.arr 48)) (w.heap.size) 48 e) := hid (laid1_0 w (.cells e.arr 48))
  have HW : Hid (Below w.heap.size w (w.alloc (.cells e.arr 48))) := hid (laid1_b w (.cells e.arr 48))
  have tok : Hid (0 = 0) := hid rfl
  go_enter Tryz.func54, Tryz.ntmps54
  go_wp2_with (first
    | (clear tok; (with_reducible refine opaqueW (w.alloc (.cells e.arr 48)) ?_); intro W0 hW; rw [← hW] at HX HW; clear hW)
    | ((with_reducible refine loadC (x := ?lx1) (b := ?lb1) (T := 48) e ?lg1 ?lo1 ?lxx1 ?lc1 ?lh1); (case lg1 => rfl); (case lo1 => rfl); (case lxx1 => rfl); (case lc1 => exact HX.out))
    | fail)
  go_at_call 69
  refine (hR _ HW.out).mono ?_
  rintro x w1 ⟨rfl, hB⟩
  have GX : Hid (Ob w1 (w.heap.size) 48 e) := hid (heapB (HX.out) hB (Array.getElem?_eq_some_iff.1 (HX.out)).1)
  have GW := hid ((HW.out).trans (hB.mono (HW.out).size))
  clear hB HX HW
  have HX := GX; clear GX
  have HW := GW; clear GW
  go_wp2_with fail
  go_ret2
  exact ⟨rfl, HW.out⟩
end Go.Proofs.YtpkkmfppdhjpkaaGreat

/- The document's sum: the long division. -/
import Derived.Test.YtpjcjnifklgojaaFFact
namespace Go.Proofs.Ytpjcjnifklgojaa
set_option linter.unusedVariables false
open Go.RowKit
open Go.Lib (hid)

abbrev powersV : Array Value := #[.int .i64 26, .int .i64 23, .int .i64 22, .int .i64 16, .int .i64 12, .int .i64 11, .int .i64 10, .int .i64 8, .int .i64 7, .int .i64 5, .int .i64 4, .int .i64 2, .int .i64 1, .int .i64 0]
theorem powersV_eq : powersV = (powersL.map fun p : Nat => Value.int .i64 p).toArray := rfl
set_option maxRecDepth 100000 in
theorem rPowers (w : World) : Calls Try.prog 20 #[] w fun e w' => ∃ q, e = .returned (.slice (some ⟨q, 0, none⟩) 14 14) ∧ w.heap.size ≤ q ∧ w'.heap[q]? = some (.cells powersV 3) ∧ Below w.heap.size w w' := by
  go_enter Try.func20, Try.ntmps20
  go_wp2
  go_ret
  exact ⟨_, rfl, Nat.le_refl _, heap_alloc_new w _, (Below.refl _ w).alloc (Nat.le_refl _) _⟩
theorem powers_at {w : World} {q m : Nat} (h : w.heap[q]? = some (.cells powersV 3)) (hm : m < 14) : ∃ p, powersL[m]? = some p ∧ p < 27 ∧ w.cell? ⟨q, m, none⟩ = some (.int .i64 p) := by
  have hlen : powersL.length = 14 := rfl
  have hx : powersL[m]? = some (powersL[m]'(by omega)) := List.getElem?_eq_getElem (by omega)
  refine ⟨_, hx, ?_, ?_⟩
  · have hall : ∀ p ∈ powersL, p < 27 := by decide
    exact hall _ (List.mem_of_getElem? hx)
  · rw [cellAt' h m, powersV_eq, List.getElem?_toArray, List.getElem?_map, hx]; rfl

/-- The division under way. -/
theorem under_at {F r : List Nat} {k x : Nat} (h : F = x :: r) : (List.replicate k 0 ++ F)[k]? = some x ∧ (List.replicate k 0 ++ F).set k 0 = List.replicate (k + 1) 0 ++ r := by
  subst h
  constructor
  · rw [List.getElem?_append_right (by simp)]; simp
  · rw [List.set_append_right _ _ (by simp), List.length_replicate, Nat.sub_self, List.set_cons_zero, List.replicate_succ', List.append_assoc]; rfl
theorem inner_at {ps r : List Nat} {k p x : Nat} (hp : p < 27) (hr : 32 ≤ r.length) (hx : (flipL ps r)[31 - p]? = some x) : (List.replicate (k + 1) 0 ++ flipL ps r)[k + 32 - p]? = some x ∧ (List.replicate (k + 1) 0 ++ flipL ps r).set (k + 32 - p) (1 - x) = List.replicate (k + 1) 0 ++ flipL (ps ++ [p]) r := by
  have e : k + 32 - p = (k + 1) + (31 - p) := by omega
  constructor
  · rw [e, List.getElem?_append_right (by simp), List.length_replicate, Nat.add_sub_cancel_left]; exact hx
  · rw [e, List.set_append_right _ _ (by simp), List.length_replicate, Nat.add_sub_cancel_left, flip_snoc, List.getD_eq_getElem?_getD, hx]; rfl
theorem drop_at' {l : List Nat} {k : Nat} {x : Nat} (h : l[k]? = some x) : l.drop k = x :: l.drop (k + 1) := by
  obtain ⟨hlt, rfl⟩ := List.getElem?_eq_some_iff.1 h
  exact List.drop_eq_getElem_cons hlt
theorem kept_g {w w' : World} {g q : Nat} {o : Obj} (h : w.heap[q]? = some o) (hg : w.grownBy w' (some g)) (hne : q ≠ g) : w'.heap[q]? = some o := by
  rw [hg.block q (Array.getElem?_eq_some_iff.1 h).1 (fun e => hne (by cases e; rfl))]; exact h

set_option maxHeartbeats 3200000 in
set_option maxRecDepth 100000 in
theorem rSum {v : Value} {l : List UInt8} {w : World} (h : SlB w v l) (hl : l.length ≤ 100000) : Calls Try.prog 13 #[v] w fun e w' => e = .returned (.int .u32 (sumN l)) ∧ Below w.heap.size w w' := by
  have hF := rFactors h hl
  have hSV := hid (sum_val l)
  have hsl := hid (sumN_lt l)
  obtain ⟨b, o, cap, a, rfl, _⟩ := h
  go_enter Try.func13, Try.ntmps13
  go_wp2_with fail
  go_at_call 19
  refine hF.mono ?_
  rintro e w1 ⟨r, rfl, ho, hB⟩
  have hfl := factors_len l
  obtain ⟨g, cap2, rfl, hBg, hgl⟩ := ho.some (by rw [hfl]; omega)
  have HB := hid hB
  have HO := hid ho
  have hsz := hB.size
  clear ho hB hF
  obtain ⟨n, hn⟩ : ∃ n, n = (factorsL l).length := ⟨_, rfl⟩
  rw [← hn] at HO hfl ⊢
  have HO0 : Hid (w1.ownsRow w.heap.size 3 1 (.slice (Option.some ⟨g, 0, none⟩) n cap2) n (ints (castL (List.replicate 0 0 ++ lessN 0 (factorsL l))))) := hid (by have := HO.out; unfold OwnF at this; rw [← hn] at this; exact this)
  clear HO
  obtain ⟨F, hF⟩ : ∃ F, F = factorsL l := ⟨_, rfl⟩
  have HFF := hid hF
  rw [← hF] at HO0 hn
  have hFb : Hid (binL F) := hid (by rw [hF]; exact factors_bin l)
  have HN := hid hn
  clear hF hn
  obtain ⟨N, hN⟩ : ∃ N, N = 8 * l.length := ⟨_, rfl⟩
  rw [← hN] at hfl hSV
  have hN1 : (n : Int) - 32 = N := by omega
  have HNL := hid hN
  have hNb : N ≤ 800000 := by omega
  clear hN
  go_wp2_with (go_at_call 20; refine (rPowers _).mono ?_; rintro e w2 ⟨q, rfl, hq1, hq2, hB2⟩; have HQ := hid hq2; have HB2 := hid (HB.out.trans (hB2.mono hsz)); have HO2 := hid (own_below HO0.out hB2 (fun k hk => by cases hk; exact hgl)); clear hq2 hB2)
  have hqg : q ≠ g := by omega
  have HQG := hid hqg
  clear hqg
  go_loopw [6] (fun i wr => ∃ k : Nat, k ≤ N ∧ i = .int .i64 k ∧ wr.ownsRow w.heap.size 3 1 (.slice (Option.some ⟨g, 0, none⟩) n cap2) n (ints (castL (List.replicate k 0 ++ lessN k F))) ∧ wr.heap[q]? = some (.cells powersV 3) ∧ Below w.heap.size w wr) (fun i _ => N - (intOf i).toNat)
  case atStart => exact ⟨0, Nat.zero_le _, rfl, HO2.out, HQ.out, HB2.out⟩
  case round =>
    obtain ⟨k, hk, rfl, ho, hq, hB⟩ := hrel
    have hgl3 := (ho.lt g rfl).2
    have hql3 := (Array.getElem?_eq_some_iff.1 hq).1
    have hsz3 := hB.size
    have HO3 := hid ho
    have HQ3 := hid hq
    have HB3 := hid hB
    have hbin := lessN_bin k hFb.out
    have hlen := lessN_len k F
    by_cases hlt : k < N
    · have hlt2 : (k : Int) < (N : Int) := by omega
      obtain ⟨x, R, hR⟩ : ∃ x R, lessN k F = x :: R := by
        have := HN.out
        cases hc : lessN k F with
        | nil => rw [hc] at hlen; simp at hlen; omega
        | cons x r => exact ⟨x, r, rfl⟩
      have hRl : 32 ≤ R.length := by have := HN.out; rw [hR] at hlen; simp at hlen; omega
      have hu := under_at (k := k) hR
      rw [hR] at hbin
      have hx2 : x < 2 := hbin x (List.mem_cons_self ..)
      have hRb : binL R := fun y hy => hbin y (List.mem_cons_of_mem _ hy)
      have hln : n = (List.replicate k 0 ++ lessN k F).length := by rw [List.length_append, List.length_replicate, hlen]; have := HN.out; omega
      have c0 := OwnF.at ho hln hu.1
      have hp := OwnF.put ho k 0
      rw [hu.2] at hp
      have HP := hid hp
      have hfz := ho.frozenAt k
      have hkn : (k : Int) < (n : Int) := by omega
      have HR := hid hR
      have HRb := hid hRb
      clear hp hu ho hq hB hbin hlen hln hR hRb
      by_cases hx0 : x = 0
      · subst hx0
        have e : lessN (k + 1) F = R := by rw [lessN, HR.out]; rfl
        have e2 : List.replicate k 0 ++ lessN k F = List.replicate (k + 1) 0 ++ lessN (k + 1) F := by rw [e, HR.out, List.replicate_succ', List.append_assoc]; rfl
        have HE := hid e2
        clear e e2
        go_wp2
        go_roundw
        case rel => exact ⟨k + 1, by omega, by go_num, by rw [← HE.out]; exact HO3.out, HQ3.out, HB3.out⟩
        case measure => simp [RowKit.intOf]; omega
      · obtain rfl : x = 1 := by omega
        have e : lessN (k + 1) F = flipL powersL R := by rw [lessN, HR.out]; exact less_go (by omega)
        have HE := hid e
        have HQ4 := hid (kept_g HQ3.out HP.out.2 HQG.out)
        have HB4 := hid (HB3.out.grown HP.out.2 hsz3 (fun k hk => by cases hk; exact hBg))
        clear e
        go_wp2
        go_loopw [7, 8] (fun i u wr => ∃ m : Nat, m ≤ 14 ∧ i = .int .i64 m ∧ wr.ownsRow w.heap.size 3 1 (.slice (Option.some ⟨g, 0, none⟩) n cap2) n (ints (castL (List.replicate (k + 1) 0 ++ flipL (powersL.take m) R))) ∧ wr.heap[q]? = some (.cells powersV 3) ∧ Below w.heap.size w wr) (fun i _ _ => 14 - (intOf i).toNat)
        case atStart => exact ⟨0, Nat.zero_le _, rfl, HP.out.1, HQ4.out, HB4.out⟩
        case round =>
          obtain ⟨m, hm, rfl, ho, hq, hB⟩ := hrel
          have hgl5 := (ho.lt g rfl).2
          have hql5 := (Array.getElem?_eq_some_iff.1 hq).1
          have hsz5 := hB.size
          have HO5 := hid ho
          have HQ5 := hid hq
          have HB5 := hid hB
          by_cases hm8 : m < 14
          · have hm2 : (m : Int) < 14 := by omega
            obtain ⟨p, hpm, hp27, d0⟩ := powers_at hq hm8
            have hfll := flip_len (powersL.take m) R
            obtain ⟨y, hy⟩ : ∃ y, (flipL (powersL.take m) R)[31 - p]? = some y := ⟨(flipL (powersL.take m) R)[31 - p]'(by omega), List.getElem?_eq_getElem (by omega)⟩
            have hy2 : y < 2 := (flip_bin _ _ HRb.out).at hy
            have hu := inner_at (k := k) hp27 hRl hy
            have hln : n = (List.replicate (k + 1) 0 ++ flipL (powersL.take m) R).length := by
              have h1 := lessN_len k F
              have h2 := HN.out
              rw [HR.out, List.length_cons] at h1
              rw [List.length_append, List.length_replicate, hfll]; omega
            have c1 := OwnF.at ho hln hu.1
            obtain ⟨z, hz⟩ : ∃ z, z = 1 - y := ⟨_, rfl⟩
            have hp := OwnF.put ho (k + 32 - p) z
            rw [hz, hu.2, ← hz, ← takeN_snoc hpm] at hp
            have HP5 := hid hp
            have hfz5 := ho.frozenAt (k + 32 - p)
            obtain ⟨t, ht⟩ : ∃ t, t = k + 32 - p := ⟨_, rfl⟩
            rw [← ht] at c1 HP5 hfz5
            have ht2 : (k : Int) + 32 - (p : Int) = t := by omega
            have hz2 : (1 : Int) - (y : Int) = z := by omega
            have htn : (t : Int) < (n : Int) := by omega
            have hQ6 := hid (kept_g HQ5.out HP5.out.2 HQG.out)
            have hB6 := hid (HB5.out.grown HP5.out.2 hsz5 (fun k hk => by cases hk; exact hBg))
            clear hp hu ho hq hB hpm hfll hy hln hz ht
            go_wp2
            go_roundw
            case rel => exact ⟨m + 1, by omega, by go_num, HP5.out.1, hQ6.out, hB6.out⟩
            case measure => simp [RowKit.intOf]; omega
          · obtain rfl : m = 14 := by omega
            clear ho hq hB
            go_wp2
            go_roundw
            case rel => exact ⟨k + 1, by omega, by go_num, by rw [HE.out]; exact HO5.out, HQ5.out, HB5.out⟩
            case measure => simp [RowKit.intOf]; omega
    · obtain rfl : k = N := by omega
      clear ho hq hB
      have hcl : (lessN k F).length = 32 := by rw [hlen]; have := HN.out; omega
      have hn32 : n = k + 32 := by have := HN.out; omega
      obtain ⟨C, hC⟩ : ∃ C, C = lessN k F := ⟨_, rfl⟩
      rw [← hC] at HO3 hbin hcl
      have hS : Hid (valN (C.map (1 - ·)) = sumN l) := hid (by rw [hC, HFF.out]; exact hSV.out)
      have hn1 : (n : Int) - 1 = (k : Int) + 31 := by omega
      have HC := hid hcl
      have HCb := hid hbin
      have HSV := hid hSV
      clear hC hcl hbin hlen hSV
      go_wp2
      go_loopw [9, 10] (fun s i w2 => ∃ (t V : Nat), t ≤ 32 ∧ i = .int .i64 ((k : Int) + t - 1) ∧ s = .int .u32 V ∧ Hid (valN ((C.drop t).map (1 - ·)) = V) ∧ w2 = wr) (fun _ i _ => (intOf i + 1).toNat)
      case atStart => exact ⟨32, 0, Nat.le_refl _, by go_num, rfl, hid (by rw [List.drop_eq_nil_of_le (by rw [HC.out]; exact Nat.le_refl _)]; rfl), rfl⟩
      case round =>
        obtain ⟨t, V, ht, rfl, rfl, hV, rfl⟩ := hrel
        by_cases h0 : t = 0
        · subst h0
          have h1 : ¬ ((k : Int) ≤ (k : Int) + (0 : Nat) - 1) := by omega
          have e : V = sumN l := by rw [← hV.out, List.drop_zero]; exact hS.out
          subst e
          go_wp2
          go_ret
          exact ⟨rfl, HB3.out⟩
        · obtain ⟨u, rfl⟩ : ∃ u, t = u + 1 := ⟨t - 1, by omega⟩
          obtain ⟨y, hy⟩ : ∃ y, C[u]? = some y := ⟨C[u]'(by rw [HC.out]; omega), List.getElem?_eq_getElem (by rw [HC.out]; omega)⟩
          have hy2 := HCb.out.at hy
          have hd := drop_at' hy
          have hnx : valN ((C.drop u).map (1 - ·)) = (1 - y) + 2 * V := by rw [hd, List.map_cons, valN, hV.out]
          have hV31 : V < 2147483648 := by
            have h1 := rest_val (C.drop (u + 1)) (fun x hx => HCb.out x (List.mem_of_mem_drop hx))
            rw [hV.out, List.length_drop, HC.out] at h1
            have h2 : 2 ^ (32 - (u + 1)) ≤ 2 ^ 31 := Nat.pow_le_pow_right (by omega) (by omega)
            have h3 : (2 : Nat) ^ 31 = 2147483648 := by decide
            omega
          obtain ⟨j, hj⟩ : ∃ j, j = k + u := ⟨_, rfl⟩
          have hi0 : (k : Int) + ((u + 1 : Nat) : Int) - 1 = j := by omega
          have hat : (List.replicate k 0 ++ C)[j]? = some y := by rw [hj, List.getElem?_append_right (by simp), List.length_replicate, Nat.add_sub_cancel_left]; exact hy
          have c0 := OwnF.at HO3.out (by rw [List.length_append, List.length_replicate, HC.out]; exact hn32) hat
          obtain ⟨z, hz⟩ : ∃ z, z = 1 - y := ⟨_, rfl⟩
          have hz2 : (1 : Int) - (y : Int) = z := by omega
          have hz3 : (z : Int) < 4294967296 := by omega
          have hkj : (k : Int) ≤ (j : Int) := by omega
          have hjn : (j : Int) < (n : Int) := by omega
          have hV2 : (V : Int) < 2147483648 := by omega
          rw [← hz] at hnx
          have HX := hid hnx
          have HJ := hid hj
          have hzz : z < 2 := by omega
          rw [hi0]
          clear hnx hd hy hat hz hj hV
          go_wp2
          go_roundw
          case rel => exact ⟨u, 2 * V + z, by omega, by have := HJ.out; go_num, by go_num, hid (by rw [HX.out]; omega), trivial⟩
          case measure => simp [RowKit.intOf]; try omega
end Go.Proofs.Ytpjcjnifklgojaa

/- The document's factors: bytes' bits, the first 32 turned. -/
import Derived.Test.YtpjcjnifklgojaaFDiv
namespace Go.Proofs.Ytpjcjnifklgojaa
set_option linter.unusedVariables false
open Go.RowKit
open Go.Lib (hid)

abbrev castL (l : List Nat) : List Int := l.map fun x : Nat => (x : Int)
theorem cast_append (a b : List Nat) : castL (a ++ b) = castL a ++ castL b := by simp [castL]
/-- A slice of numbers that the call itself made. -/
abbrev OwnF (w : World) (B : Nat) (v : Value) (l : List Nat) : Prop := w.ownsRow B 3 1 v l.length (ints (castL l))
theorem OwnF.nil (w : World) (B : Nat) : OwnF w B (.slice none 0 0) [] := World.ownsRow_nil _ _ _ _
theorem new_int {W : World} {x : Value} {T : TypeId} {g : Nat} (hg : g = W.heap.size) : ∀ (j : Nat) u, [x][j]? = some u → (W.alloc (.cells #[x] T)).cell? ((⟨g, 0, none⟩ : Addr).add j) = some u := new_one hg
theorem own_oneF {w W0 w1 : World} {B : Nat} {v v' : Value} {l : List Nat} {r : Nat} (hB : Below B w W0) (hsz : B ≤ W0.heap.size) (hlt : ∀ k, v.ownBlock = some k → B ≤ k)
    (hown' : w1.ownsRow B 3 1 v' (l.length + 1) (ints (castL l) ++ [.int .i64 r])) (hg : W0.grownBy w1 v.ownBlock) : OwnF w1 B v' (l ++ [r]) ∧ Below B w w1 := by
  refine ⟨?_, hB.grown hg hsz hlt⟩
  unfold OwnF
  rw [cast_append, ints_append, List.length_append]
  exact hown'
theorem OwnF.asSlice {w : World} {B : Nat} {v : Value} {l : List Nat} (h : OwnF w B v l) : ∃ (g : Option Addr) (cap n : Nat), v = .slice g n cap ∧ n = l.length := by
  rcases h.2 with ⟨e, e'⟩ | ⟨g, cap, cur, e, _⟩
  · exact ⟨none, 0, 0, e, e'.symm⟩
  · exact ⟨_, cap, _, e, rfl⟩
theorem OwnF.some {w : World} {B : Nat} {v : Value} {l : List Nat} (h : OwnF w B v l) (hl : 0 < l.length) : ∃ (g cap : Nat), v = .slice (Option.some ⟨g, 0, none⟩) l.length cap ∧ B ≤ g ∧ g < w.heap.size := by
  have hlt := h.lt
  rcases h.2 with ⟨e, e'⟩ | ⟨g, cap, cur, rfl, hb, _⟩
  · omega
  · exact ⟨g, cap, rfl, hb, (hlt g rfl).2⟩
theorem OwnF.at {w : World} {B g n cap : Nat} {l : List Nat} (h : w.ownsRow B 3 1 (.slice (Option.some ⟨g, 0, none⟩) n cap) n (ints (castL l))) {j x : Nat} (hn : n = l.length) (hx : l[j]? = Option.some x) : w.cell? ⟨g, j, none⟩ = Option.some (.int .i64 x) := by
  have hj := (List.getElem?_eq_some_iff.1 hx).1
  rw [h.cellAt j (by omega)]
  simp [ints, castL, hx]
theorem OwnF.put {w : World} {B g n cap : Nat} {l : List Nat} (h : w.ownsRow B 3 1 (.slice (Option.some ⟨g, 0, none⟩) n cap) n (ints (castL l))) (j x : Nat) : (w.setCell ⟨g, j, none⟩ (.int .i64 x)).ownsRow B 3 1 (.slice (Option.some ⟨g, 0, none⟩) n cap) n (ints (castL (l.set j x))) ∧ w.grownBy (w.setCell ⟨g, j, none⟩ (.int .i64 x)) (Option.some g) := by
  have := h.stored j (.int .i64 x)
  unfold ints castL at *
  rw [List.map_set, List.map_set]
  exact this

set_option maxHeartbeats 1600000 in
set_option maxRecDepth 100000 in
theorem rFactors {v : Value} {l : List UInt8} {w : World} (h : SlB w v l) (hl : l.length ≤ 100000) : Calls Try.prog 19 #[v] w fun e w' => ∃ r, e = .returned r ∧ OwnF w' w.heap.size r (factorsL l) ∧ Below w.heap.size w w' := by
  obtain ⟨b, o, cap, a, rfl, hn, hcap, ha, hc, hb⟩ := h
  obtain ⟨i0, hi, hz0, hz1, hz2⟩ := info_parts Try.infoI
  have HC := hid hc
  clear hc
  go_enter Try.func19, Try.ntmps19
  go_wp2
  go_loopw [3, 4] (fun u i wr => ∃ k : Nat, k ≤ l.length ∧ i = .int .i64 k ∧ OwnF wr w.heap.size u (allBits (l.take k)) ∧ Below w.heap.size w wr) (fun _ i _ => l.length - (intOf i).toNat)
  case atStart => exact ⟨0, Nat.zero_le _, rfl, OwnF.nil _ _, Below.refl _ _⟩
  case round =>
    obtain ⟨k, hk, rfl, hown, hB⟩ := hrel
    have hsz := hB.size
    have HB := hid hB
    have HO := hid hown
    clear hown
    by_cases hlt : k < l.length
    · obtain rfl := ha (by omega)
      obtain ⟨x, hx⟩ : ∃ x, l[k]? = some x := ⟨l[k], List.getElem?_eq_getElem hlt⟩
      have hbw := hb (by omega)
      have c0 := (hB.cell (p := ⟨b, o + k, none⟩) hbw).trans (HC.out k x hx)
      have hlt2 : (k : Int) < (l.length : Int) := by omega
      have HX := hid (allBits_next hx)
      have hx256 := x.toNat_lt
      have hxl2 : (x.toNat : Int) < 9223372036854775807 := by omega
      have hlen : (allBits (l.take k)).length = 8 * k := by rw [allBits_len, List.length_take]; omega
      have HL := hid hlen
      clear hx hlen hB
      go_wp2
      go_loopw [3, 5, 6] (fun u y i w2 => ∃ (m z : Nat) (out : List Nat), m ≤ 8 ∧ i = .int .i64 m ∧ y = .int .i64 z ∧ z < 256 ∧ out.length = 8 * k + m ∧ Hid (out ++ bitsFrom (8 - m) z = allBits (l.take k) ++ bitsFrom 8 x.toNat) ∧ OwnF w2 w.heap.size u out ∧ Below w.heap.size w w2) (fun _ _ i _ => 8 - (intOf i).toNat)
      case atStart => exact ⟨0, x.toNat, _, Nat.zero_le _, rfl, rfl, hx256, HL.out, hid rfl, HO.out, HB.out⟩
      case round =>
        obtain ⟨m, z, out, hm, rfl, rfl, hz, hol, hat, hown2, hB2⟩ := hrel
        have hsz2 := hB2.size
        have HB2 := hid hB2
        have HO2 := hid hown2
        by_cases hm8 : m < 8
        · have hm2 : (m : Int) < 8 := by omega
          obtain ⟨y, hy⟩ : ∃ y, y = z % 2 := ⟨_, rfl⟩
          obtain ⟨q, hq⟩ : ∃ q, q = z / 2 := ⟨_, rfl⟩
          have hy2 : (z : Int) % 2 = y := by omega
          have hq2 : (z : Int) / 2 = q := by omega
          have HQ := hid (And.intro hy hq)
          have hqz : q < 256 := by omega
          have hOL := hid hol
          clear hy hq hB2 hol
          go_wp2_with (at_builtin; refine wpList_append_own _ rfl _ _ 42 rfl w.heap.size 3 i0 _ 1 8 Try.underlying42 hi hz0 hz1 hz2 rfl (by decide) _ _ _ rfl (hown2.alloc _) ⟨wr.heap.size, 0, none⟩ 1 1 [.int .i64 y] rfl rfl (new_int rfl) ?c2 ?c3 ?c4 ?c5 ?_)
          case c2 => intro u hu; simp at hu; subst hu; rfl
          case c3 => unfold maxLen; have := hOL.out; omega
          case c4 => have := hOL.out; omega
          case c5 => first | omega | (simp; omega)
          intro v' w2 hown' hgrow _
          have R := own_oneF (HB2.out.alloc hsz2 _) (by simp; omega) (fun k hk => (HO2.out.lt k hk).1) hown' hgrow
          clear hown' hgrow hown2
          go_wp2
          go_roundw
          case rel => exact ⟨m + 1, q, _, by omega, by go_num, rfl, hqz, by rw [List.length_append, hOL.out]; rfl, hid (by
            have e := hat.out
            rw [show 8 - m = (8 - (m + 1)) + 1 by omega, bitsFrom, ← HQ.out.1, ← HQ.out.2] at e
            rw [List.append_assoc]; exact e), R.1, R.2⟩
          case measure => simp [RowKit.intOf]; omega
        · obtain rfl : m = 8 := by omega
          have e := hat.out
          rw [show 8 - 8 = 0 from rfl, bitsFrom, List.append_nil, ← HX.out] at e
          subst e
          clear hown2
          go_wp2
          go_roundw
          case rel => exact ⟨k + 1, by omega, by go_num, HO2.out, HB2.out⟩
          case measure => simp [RowKit.intOf]; omega
    · have hlt2 : ¬ (k : Int) < (l.length : Int) := by omega
      have hall : l.take k = l := List.take_of_length_le (by omega)
      have HO1 : Hid (OwnF wr w.heap.size u3 (allBits l)) := hid (by rw [← hall]; exact HO.out)
      clear hall HO hB
      have hlen : (allBits l).length = 8 * l.length := allBits_len l
      go_wp2
      go_loopw [3, 7] (fun u i wr => ∃ m : Nat, m ≤ 32 ∧ i = .int .i64 m ∧ OwnF wr w.heap.size u (allBits l ++ List.replicate m 0) ∧ Below w.heap.size w wr) (fun _ i _ => 32 - (intOf i).toNat)
      case atStart => exact ⟨0, Nat.zero_le _, rfl, by simpa using HO1.out, HB.out⟩
      case round =>
        obtain ⟨m, hm, rfl, hown2, hB2⟩ := hrel
        have hsz2 := hB2.size
        have HB2 := hid hB2
        have HO2 := hid hown2
        by_cases hm8 : m < 32
        · have hm2 : (m : Int) < 32 := by omega
          clear hB2
          have hll : (allBits l ++ List.replicate m 0).length = 8 * l.length + m := by simp [hlen]
          obtain ⟨F, hF⟩ : ∃ F, F = allBits l ++ List.replicate m 0 := ⟨_, rfl⟩
          rw [← hF] at hll hown2 HO2
          have HF := hid hF
          have HLL := hid hll
          clear hll hF
          go_wp2_with (at_builtin; refine wpList_append_own _ rfl _ _ 42 rfl w.heap.size 3 i0 _ 1 8 Try.underlying42 hi hz0 hz1 hz2 rfl (by decide) _ _ _ rfl (hown2.alloc _) ⟨wr.heap.size, 0, none⟩ 1 1 [.int .i64 0] rfl rfl (new_int rfl) ?c2 ?c3 ?c4 ?c5 ?_)
          case c2 => intro u hu; simp at hu; subst hu; rfl
          case c3 => unfold maxLen; have := HLL.out; omega
          case c4 => have := HLL.out; omega
          case c5 => first | omega | (simp; omega)
          intro v' w2 hown' hgrow _
          have R := own_oneF (r := 0) (HB2.out.alloc hsz2 _) (by simp; omega) (fun k hk => (HO2.out.lt k hk).1) hown' hgrow
          rw [HF.out, List.append_assoc, show List.replicate m 0 ++ [0] = List.replicate (m + 1) 0 from by rw [List.replicate_succ']] at R
          clear hown' hgrow hown2
          go_wp2
          go_roundw
          case rel => exact ⟨m + 1, by omega, by go_num, R.1, R.2⟩
          case measure => simp [RowKit.intOf]; omega
        · obtain rfl : m = 32 := by omega
          clear hown2 hB2
          have hbin : binL (allBits l ++ List.replicate 32 0) := (allBits_bin l).append (binL.zeros _)
          have hlen2 : (allBits l ++ List.replicate 32 0).length = 8 * l.length + 32 := by simp [hlen]
          have HF : Hid (factorsL l = turnL 32 (allBits l ++ List.replicate 32 0)) := hid rfl
          obtain ⟨F, hF⟩ : ∃ F, F = allBits l ++ List.replicate 32 0 := ⟨_, rfl⟩
          rw [← hF] at HF HO2 hbin hlen2
          have hF0 : Hid (OwnF wr w.heap.size u3 (turnL 0 F)) := hid (by rw [show turnL 0 F = F from by simp [turnL]]; exact HO2.out)
          have hT : (turnL 0 F).length = 8 * l.length + 32 := by rw [turn_len]; exact hlen2
          obtain ⟨g, cap2, hv, hBg, hgl⟩ := hF0.out.some (by rw [hT]; omega)
          rw [hT] at hv
          subst hv
          obtain ⟨n, hn⟩ : ∃ n, n = 8 * l.length + 32 := ⟨_, rfl⟩
          rw [← hn] at hF0 hlen2 hT ⊢
          have hF1 : Hid (wr.ownsRow w.heap.size 3 1 (.slice (Option.some ⟨g, 0, none⟩) n cap2) n (ints (castL (turnL 0 F)))) := hid (by have := hF0.out; unfold OwnF at this; rw [hT] at this; exact this)
          have HLN := hid hlen2
          have HBN := hid hbin
          have HNN := hid hn
          clear hF HO2 hlen2 hbin hT hF0 hn
          go_wp2
          go_loopw [8] (fun i wr => ∃ m : Nat, m ≤ 32 ∧ i = .int .i64 m ∧ wr.ownsRow w.heap.size 3 1 (.slice (Option.some ⟨g, 0, none⟩) n cap2) n (ints (castL (turnL m F))) ∧ Below w.heap.size w wr) (fun i _ => 32 - (intOf i).toNat)
          case atStart => exact ⟨0, Nat.zero_le _, rfl, hF1.out, HB2.out⟩
          case round =>
            obtain ⟨m, hm, rfl, hown2, hB3⟩ := hrel
            have hsz3 := hB3.size
            have hgl3 := (hown2.lt g rfl).2
            have HB3 := hid hB3
            by_cases hm8 : m < 32
            · have hm2 : (m : Int) < 32 := by omega
              obtain ⟨x, hx⟩ : ∃ x, F[m]? = some x := ⟨F[m]'(by have := HLN.out; have := HNN.out; omega), List.getElem?_eq_getElem (by have := HLN.out; have := HNN.out; omega)⟩
              have hx2 := HBN.out.at hx
              have ht := turn_at hx
              have c0 := OwnF.at (l := turnL m F) hown2 (by rw [turn_len]; exact HLN.out.symm) ht.1
              have hfz := hown2.frozenAt m
              obtain ⟨y, hy⟩ : ∃ y, y = 1 - x := ⟨_, rfl⟩
              have hy2 : (1 : Int) - (x : Int) = y := by omega
              have hp := OwnF.put hown2 m y
              rw [hy, ht.2, ← hy] at hp
              have HP := hid hp
              have hmn : (m : Int) < (n : Int) := by have := HNN.out; omega
              clear hp hown2 ht hx hy hB3
              go_wp2
              go_roundw
              case rel => exact ⟨m + 1, by omega, by go_num, HP.out.1, HB3.out.grown HP.out.2 hsz3 (fun k hk => by cases hk; exact hBg)⟩
              case measure => simp [RowKit.intOf]; omega
            · obtain rfl : m = 32 := by omega
              clear hB3
              have HO3 := hid hown2
              clear hown2
              go_wp2
              go_ret
              refine ⟨_, rfl, ?_, HB3.out⟩
              unfold OwnF
              rw [factors_len, ← HNN.out, HF.out]
              exact HO3.out
end Go.Proofs.Ytpjcjnifklgojaa

/- All frames of a net, as the law asks for them; whether two lists of bytes are one: the document's Same. -/
import Derived.Test.YtcfkifiejojciaaNRef3
namespace Go.Proofs.Ytcfkifiejojciaa
set_option linter.unusedVariables false
open Go.RowKit
open Go.Lib (hid)

set_option maxHeartbeats 1600000 in
set_option maxRecDepth 100000 in
theorem cAll {w : World} {p B : Nat} {room s : Int} {v : Value} {ps : Ps} (h : NetP w B p room v s ps) (hB : B ≤ w.heap.size) (hm : ps.length ≤ 4096) :
    Calls Try.prog 11 #[ptr p] w fun e w' => ∃ v', e = .returned v' ∧ Rw w' B v' ps ∧ (∀ k, v'.ownBlock = some k → w.heap.size ≤ k) ∧ Below w.heap.size w w' := by
  have HN := hid h
  have HH := hid hB
  obtain ⟨n, hn⟩ : ∃ n, n = ps.length := ⟨_, rfl⟩
  have HLN := hid hn
  have HI0 : Hid (Rw w B (.slice none 0 0) (ps.take 0) ∧ Below w.heap.size w w ∧ ∀ k, (Value.slice none 0 0).ownBlock = some k → w.heap.size ≤ k) := hid ⟨Rw.nil w B, Below.refl _ w, fun k hk => by cases hk⟩
  have hn4 : n ≤ 4096 := by omega
  clear h hB hm hn
  go_enter Try.func11, Try.ntmps11
  go_wp2
  go_loopw [3, 4] (fun vo j wr => ∃ (k : Nat) (va : Option Addr) (vn vc : Nat), k ≤ n ∧ j = .int .i64 k ∧ vo = .slice va vn vc ∧ Hid (Rw wr B (.slice va vn vc) (ps.take k) ∧ Below w.heap.size w wr ∧ ∀ k, (Value.slice va vn vc).ownBlock = some k → w.heap.size ≤ k)) (fun _ j _ => n - (intOf j).toNat)
  case atStart => exact ⟨0, none, 0, 0, Nat.zero_le _, rfl, rfl, HI0⟩
  case round =>
    obtain ⟨k, va, vn, vc, hk, rfl, rfl, HV⟩ := hrel
    have HNr := hid (HN.out.on HV.out.2.1)
    have hL := cLen HNr.out.1 HNr.out.2.1
    rw [← HLN.out] at hL
    have HL := hid hL
    clear hL
    by_cases hkn : k < n
    · have hkn2 : (k : Int) < (n : Int) := by omega
      obtain ⟨y, hy⟩ : ∃ y, ps[k]? = some y := ⟨ps[k]'(by have := HLN.out; omega), List.getElem?_eq_getElem (by have := HLN.out; omega)⟩
      have HA := hid (cAt_yes HNr.out.1 HNr.out.2.1 k hy)
      have HY := hid hy
      obtain ⟨⟨ya, yn, yc⟩, yl⟩ := y
      dsimp only at HA
      have HBt : Hid (Bt wr B ⟨ya, yn, yc⟩ yl) := hid (HNr.out.2.1.2 _ (List.mem_of_getElem? hy))
      have hb2 : Below wr.heap.size wr (wr.alloc (.cells #[.slice ya yn yc] 40)) := (Below.refl _ wr).alloc (Nat.le_refl _) _
      have HB2 := hid hb2
      have HS2 : Hid (Sr (wr.alloc (.cells #[.slice ya yn yc] 40)) B (.slice (some ⟨wr.heap.size, 0, none⟩) 1 1) [(⟨ya, yn, yc⟩, yl)]) := hid (Sr.one HBt.out)
      have HZ : Hid (B ≤ wr.heap.size ∧ w.heap.size ≤ wr.heap.size) := hid (by have h1 := HH.out; have h3 := HV.out.2.1.size; omega)
      have HLl : Hid ((ps.take k).length ≤ 4096) := hid (by rw [List.length_take]; omega)
      clear hy hb2
      go_wp2_with (first
        | (go_at_call 13; refine HL.out.mono ?_; rintro e w9 ⟨rfl, rfl⟩)
        | (go_at_call 14; refine HA.out.mono ?_; rintro e w9 ⟨rfl, rfl⟩)
        | (at_builtin; refine wpList_append_rw rfl _ _ rfl B _ (ps.take k) rfl (HV.out.1.on HB2.out) _ _ rfl HS2.out (by have := HLl.out; simp; omega) (by have := HZ.out.1; simp; omega) ?_; (
            intro v2 w2 hR2 hg2 hf2
            have hb3 : Below w.heap.size w w2 := (HV.out.2.1.trans (HB2.out.mono HZ.out.2)).grown hg2 (by have := HZ.out.2; simp; omega) HV.out.2.2
            have HV2 : Hid (Rw w2 B v2 (ps.take (k + 1)) ∧ Below w.heap.size w w2 ∧ ∀ k, v2.ownBlock = some k → w.heap.size ≤ k) := hid ⟨by rw [takeN_snoc HY.out]; exact hR2, hb3, fun z hz => by
              rcases hf2 z hz with h1 | h1
              · exact HV.out.2.2 z h1
              · have := HZ.out.2; simp at h1; omega⟩
            obtain ⟨a2, n2, cap2, rfl, hn2⟩ := hR2.asSlice
            clear hR2 hg2 hf2 hb3 hn2)))
      go_roundw
      case rel => exact ⟨k + 1, a2, n2, cap2, by omega, by go_num, rfl, HV2⟩
      case measure => simp [RowKit.intOf]; omega
    · have hkn2 : ¬ (k : Int) < (n : Int) := by omega
      have HV2 : Hid (Rw wr B (.slice va vn vc) ps) := hid (by have h1 := HV.out.1; rw [List.take_of_length_le (by have := HLN.out; omega)] at h1; exact h1)
      go_wp2_with (go_at_call 13; refine HL.out.mono ?_; rintro e w9 ⟨rfl, rfl⟩)
      go_ret
      exact ⟨_, rfl, HV2.out, HV.out.2.2, HV.out.2.1⟩

theorem take_more {α : Type} {a b : List α} {k : Nat} {x : α} (h : a.take k = b.take k) (ha : a[k]? = some x) (hb : b[k]? = some x) : a.take (k + 1) = b.take (k + 1) := by rw [takeN_snoc ha, takeN_snoc hb, h]
theorem lists_no {a b : List (List UInt8)} {k : Nat} {x y : List UInt8} (ha : a[k]? = some x) (hb : b[k]? = some y) (h : x ≠ y) : (a == b) = false := by
  rw [beq_eq_false_iff_ne]
  intro hh; subst hh
  rw [ha] at hb; exact h (Option.some.inj hb)
theorem lists_short {a b : List (List UInt8)} (h : a.length ≠ b.length) : (a == b) = false := by
  rw [beq_eq_false_iff_ne]; intro hh; subst hh; exact h rfl
theorem lists_yes {a b : List (List UInt8)} {k : Nat} (h : a.take k = b.take k) (h1 : a.length ≤ k) (h2 : b.length ≤ k) : (a == b) = true := by
  rw [List.take_of_length_le h1, List.take_of_length_le h2] at h
  rw [h]; exact beq_self_eq_true _
theorem SlB.drewN {w : World} {v : Value} {l : List UInt8} (n : Nat) (h : SlB w v l) : SlB (w.drewN n) v l := h

set_option maxHeartbeats 1600000 in
set_option maxRecDepth 100000 in
theorem rSame {va vb : Value} {B B' : Nat} {ps qs : Ps} {w : World} (ha : Sr w B va ps) (hb : Sr w B' vb qs) (hl : ps.length ≤ 1000000) (hl2 : qs.length ≤ 1000000) : Calls Try.prog 10 #[va, vb] w fun e w' => e = .returned (.bool (bs ps == bs qs)) ∧ Below w.heap.size w w' := by
  obtain ⟨b1, o1, cap1, a1, rfl, hcap1, _, ha1, hr1, hl1, ht1⟩ := ha
  obtain ⟨b2, o2, cap2, a2, rfl, hcap2, _, ha2, hr2, hl22, ht2⟩ := hb
  have HR1 := hid hr1
  have HR2 := hid hr2
  have HT1 := hid ht1
  have HT2 := hid ht2
  clear hr1 hr2 ht1 ht2
  by_cases hll : ps.length = qs.length
  · have hll2 : (ps.length : Int) = (qs.length : Int) := by omega
    obtain ⟨n, hn⟩ : ∃ n, n = ps.length := ⟨_, rfl⟩
    rw [← hll, ← hn] at ha2 hl22 hcap2 hl2 ⊢
    rw [← hn] at ha1 hl1 hcap1 hl
    have HN := hid hn
    have HLL := hid hll
    clear hll hll2 hn
    go_enter Try.func10, Try.ntmps10
    go_wp2
    go_loopw [5] (fun i wr => ∃ k : Nat, k ≤ n ∧ i = .int .i64 k ∧ Hid ((bs ps).take k = (bs qs).take k) ∧ Below w.heap.size w wr) (fun i _ => n - (intOf i).toNat)
    case atStart => exact ⟨0, Nat.zero_le _, rfl, hid rfl, Below.refl _ _⟩
    case round =>
      obtain ⟨k, hk, rfl, hat, hB⟩ := hrel
      have HB := hid hB
      by_cases hlt : k < n
      · have hlt2 : (k : Int) < (n : Int) := by omega
        obtain rfl := ha1 (by omega)
        obtain rfl := ha2 (by omega)
        obtain ⟨p, hp⟩ : ∃ p, ps[k]? = some p := ⟨ps[k]'(by have := HN.out; omega), List.getElem?_eq_getElem (by have := HN.out; omega)⟩
        obtain ⟨q, hq⟩ : ∃ q, qs[k]? = some q := ⟨qs[k]'(by have := HN.out; have := HLL.out; omega), List.getElem?_eq_getElem (by have := HN.out; have := HLL.out; omega)⟩
        have h1 := HR1.out k _ hp
        have h2 := HR2.out k _ hq
        have s1 := (HT1.out _ (List.mem_of_getElem? hp)).1
        have s2 := (HT2.out _ (List.mem_of_getElem? hq)).1
        have hax := bs_at hp
        have hby := bs_at hq
        obtain ⟨⟨pa, pn, pc⟩, x⟩ := p
        obtain ⟨⟨qa, qn, qc⟩, y⟩ := q
        dsimp only at h1 h2 s1 s2 hax hby
        have hbw1 := hl1 (by omega)
        have hbw2 := hl22 (by omega)
        have hbs1 : b1 < wr.heap.size := by have := hB.size; omega
        have hbs2 : b2 < wr.heap.size := by have := hB.size; omega
        have c0 : wr.cell? ⟨b1, o1 + k, none⟩ = some (.slice pa pn pc) := (hB.cell (p := ⟨b1, o1 + k, none⟩) hbw1).trans h1
        have c1 : wr.cell? ⟨b2, o2 + k, none⟩ = some (.slice qa qn qc) := (hB.cell (p := ⟨b2, o2 + k, none⟩) hbw2).trans h2
        have hv1 : ∀ m, (convert 40 9 (.slice pa pn pc)).run Try.prog (wr.drewN m) = .ok (strB x) (wr.drewN m) := fun m => convB (SlB.drewN m (s1.on HB.out))
        have hv2 : ∀ m, (convert 40 9 (.slice qa qn qc)).run Try.prog (wr.drewN m) = .ok (strB y) (wr.drewN m) := fun m => convB (SlB.drewN m (s2.on HB.out))
        have HAX := hid hax
        have HBY := hid hby
        clear h1 h2 hax hby hp hq hB s1 s2
        rcases Decidable.em (x = y) with hxy | hxy
        · subst hxy
          have HT := hid (take_more hat.out HAX.out HBY.out)
          go_wp2
          go_quiet (fail)
          go_wp2
          go_roundw
          case rel => exact ⟨k + 1, by omega, by go_num, HT, belowDrewN HB.out _⟩
          case measure => simp [RowKit.intOf]; omega
        · have hne : (x == y) = false := beq_eq_false_iff_ne.2 hxy
          have HT := hid (lists_no HAX.out HBY.out hxy)
          go_wp2
          go_quiet (fail)
          go_wp2
          go_ret
          exact ⟨ret_bool HT.out.symm, belowDrewN HB.out _⟩
      · have hlt2 : ¬ (k : Int) < (n : Int) := by omega
        have HT := hid (lists_yes hat.out (by rw [bs_len]; have := HN.out; omega) (by rw [bs_len]; have := HN.out; have := HLL.out; omega))
        clear hB
        go_wp2
        go_ret
        exact ⟨ret_bool HT.out.symm, HB.out⟩
  · have HT := hid (lists_short (a := bs ps) (b := bs qs) (by rw [bs_len, bs_len]; exact hll))
    have hll2 : ¬ (ps.length : Int) = (qs.length : Int) := by omega
    clear hll
    go_enter Try.func10, Try.ntmps10
    go_wp2
    go_ret
    exact ⟨ret_bool HT.out.symm, Below.refl _ _⟩
end Go.Proofs.Ytcfkifiejojciaa

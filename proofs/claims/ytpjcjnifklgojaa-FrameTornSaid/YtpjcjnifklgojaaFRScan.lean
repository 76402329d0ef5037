/- What is in a log's frames: the document's Scan. -/
import Derived.Test.YtpjcjnifklgojaaFScan
import Derived.Deep.QuietTactic
import Derived.BigQuiet
namespace Go.Proofs.Ytpjcjnifklgojaa
set_option linter.unusedVariables false
open Go.RowKit
open Go.Lib (hid)

theorem belowDrewN {B : Nat} {w W : World} (n : Nat) (h : Below B w W) : Below B w (W.drewN n) := ⟨h.1, h.2, h.3, h.4, h.5⟩
theorem OwnL.drewN {w : World} {B : Nat} {v : Value} {ps : List (Sv × List UInt8)} (n : Nat) (h : OwnL w B v ps) : OwnL (w.drewN n) B v ps := ⟨h.1, fun p hp => h.2 p hp⟩
theorem SlB.drewN {w : World} {v : Value} {l : List UInt8} (n : Nat) (h : SlB w v l) : SlB (w.drewN n) v l := h
theorem take_two {l : List UInt8} {k : Nat} {x y : UInt8} (hx : l[k]? = some x) (hy : l[k + 1]? = some y) : (l.drop k).take 2 = [x, y] := by
  rw [drop_at hx, drop_at hy]; rfl
theorem whole_two (x y : UInt8) : wholeN [x, y] = x.toNat + 256 * y.toNat := by simp [wholeN]
/-- The frame that the bytes would have is there, or it isn't. -/
theorem same_frame {l : List UInt8} {n : Nat} (hl : n + 6 ≤ l.length) (hn : wholeN (l.take 2) = n) (h1 : 1 ≤ n) (h2 : n ≤ 65535) : (frameB ((l.drop 2).take n) = l.take (n + 6)) ↔ firstN l = some n := by
  have hbl : ((l.drop 2).take n).length = n := by rw [List.length_take, List.length_drop]; omega
  have h2l : (l.take 2).length = 2 := by rw [List.length_take]; omega
  have hlow : lowB n 2 = l.take 2 := by have := low_whole (l.take 2); rw [hn, h2l] at this; exact this
  have hsplit : l.take (n + 6) = l.take 2 ++ (l.drop 2).take n ++ (l.drop (n + 2)).take 4 := by
    rw [show n + 6 = 2 + (n + 4) by omega, List.take_add, List.append_assoc]
    congr 1
    rw [List.take_add, List.drop_drop, show 2 + n = n + 2 by omega]
  constructor
  · intro h
    refine first_right (by omega) hn (by omega) ?_
    unfold frameB at h
    rw [hbl, hlow, hsplit, List.append_assoc, List.append_assoc] at h
    have h3 := List.append_cancel_left (List.append_cancel_left h)
    rw [← h3]
    exact whole_low 4 _ (by have := sumN_lt ((l.drop 2).take n); omega)
  · intro h
    obtain ⟨_, _, _, _, h5⟩ := first_some h
    unfold frameB
    rw [hbl, hlow, hsplit, ← h5]
    congr 1
    have := low_whole ((l.drop (n + 2)).take 4)
    rw [show ((l.drop (n + 2)).take 4).length = 4 by rw [List.length_take, List.length_drop]; omega] at this
    exact this

set_option maxHeartbeats 3200000 in
set_option maxRecDepth 100000 in
theorem rScan {v : Value} {l : List UInt8} {w : World} (h : SlB w v l) (hl : l.length ≤ 60000) : Calls Try.prog 10 #[v] w fun e w' => ∃ r ps, e = .returned (.tuple #[r, .int .i64 (scanN l).2]) ∧ OwnL w' w.heap.size r ps ∧ ps.map (fun p => p.2) = (scanN l).1 ∧ Below w.heap.size w w' := by
  have HS := hid h
  obtain ⟨b, o, cap, a, rfl, hn, hcap, ha, hc, hb⟩ := h
  obtain ⟨len, hlen⟩ : ∃ len, len = l.length := ⟨_, rfl⟩
  rw [← hlen] at HS hcap ha hb hl ⊢
  have HL := hid hlen
  have HC := hid hc
  clear hc hlen
  go_enter Try.func10, Try.ntmps10
  go_wp2
  go_loopw [4, 5] (fun u i wr => ∃ (k : Nat) (ps : List (Sv × List UInt8)), k ≤ len ∧ ps.length ≤ k ∧ i = .int .i64 k ∧ Hid (Behind l (ps.map fun p => p.2) k) ∧ OwnL wr w.heap.size u ps ∧ Below w.heap.size w wr) (fun _ i _ => len - (intOf i).toNat)
  case atStart => exact ⟨0, [], Nat.zero_le _, Nat.le_refl _, rfl, hid (Behind.start l), OwnL.nil _ _, Below.refl _ _⟩
  case round =>
    obtain ⟨k, ps, hk, hpk, rfl, hbe, hown, hB⟩ := hrel
    have hsz := hB.size
    have HB := hid hB
    have HO := hid hown
    have hdl : (l.drop k).length = len - k := by rw [List.length_drop, HL.out]
    by_cases hlt : k + 2 ≤ len
    · have hlt2 : (k : Int) + 2 ≤ (len : Int) := by omega
      obtain rfl := ha (by omega)
      obtain ⟨x, hx⟩ : ∃ x, l[k]? = some x := ⟨l[k]'(by have := HL.out; omega), List.getElem?_eq_getElem (by have := HL.out; omega)⟩
      obtain ⟨y, hy⟩ : ∃ y, l[k + 1]? = some y := ⟨l[k + 1]'(by have := HL.out; omega), List.getElem?_eq_getElem (by have := HL.out; omega)⟩
      have hbw := hb (by omega)
      have c0 := (hB.cell (p := ⟨b, o + k, none⟩) hbw).trans (HC.out k x hx)
      have c1 := (hB.cell (p := ⟨b, o + (k + 1), none⟩) hbw).trans (HC.out (k + 1) y hy)
      have hw2 : wholeN ((l.drop k).take 2) = x.toNat + 256 * y.toNat := by rw [take_two hx hy, whole_two]
      have hxl := x.toNat_lt
      have hyl := y.toNat_lt
      obtain ⟨n, hnn⟩ : ∃ n, n = x.toNat + 256 * y.toNat := ⟨_, rfl⟩
      rw [← hnn] at hw2
      have hn2 : (x.toNat : Int) + 256 * (y.toNat : Int) = n := by omega
      have hn65 : n ≤ 65535 := by omega
      have HW := hid hw2
      have hbl : b < wr.heap.size := by omega
      clear hw2 hx hy hB hnn
      have hk1 : (k : Int) < (len : Int) := by omega
      have hk2 : (k : Int) + 1 < (len : Int) := by omega
      obtain ⟨g4, c4, n4, rfl, hn4⟩ := hown.asSlice
      clear hown hn4
      go_wp2
      go_quiet (fail)
      have HB1 := hid (belowDrewN nq HB.out)
      have HO1 := hid (OwnL.drewN nq HO.out)
      obtain ⟨w1, hw1⟩ : ∃ w1, w1 = wr.drewN nq := ⟨_, rfl⟩
      rw [← hw1] at HB1 HO1 ⊢
      clear c0 c1 hw1
      have hsz1 := HB1.out.size
      by_cases hp : n < 1
      · have hf := first_part (log := l.drop k) (by omega) (.inl (by rw [HW.out]; omega))
        have HE := hid (hbe.out.stop hf)
        have hp2 : (n : Int) < 1 := by omega
        clear hf
        go_wp2
        go_ret2
        rw [HE.out]
        exact ⟨_, _, rfl, HO1.out, rfl, HB1.out⟩
      · have hp2 : ¬ (n : Int) < 1 := by omega
        have hp3 : decide ((n : Int) < 1) = false := decide_eq_false hp2
        by_cases hq : len < k + n + 6
        · have hf := first_part (log := l.drop k) (by omega) (.inr (by rw [HW.out, hdl]; omega))
          have HE := hid (hbe.out.stop hf)
          have hq2 : (len : Int) < (k : Int) + (n : Int) + 6 := by omega
          clear hf hp2
          go_wp2
          go_ret2
          rw [HE.out]
          exact ⟨_, _, rfl, HO1.out, rfl, HB1.out⟩
        · have hq2 : decide ((len : Int) < (k : Int) + (n : Int) + 6) = false := decide_eq_false (by omega)
          have hP := (HS.out.on HB1.out).part (k + 2) n (by rw [← HL.out]; omega)
          have hQ := (HS.out.on HB1.out).part k (n + 6) (by rw [← HL.out]; omega)
          have hpl : ((l.drop (k + 2)).take n).length = n := by rw [List.length_take, List.length_drop, ← HL.out]; omega
          have hW := rWrap_yes hP (by omega) (by omega)
          have hsf := same_frame (l := l.drop k) (by rw [hdl]; omega) HW.out (by omega) hn65
          rw [List.drop_drop] at hsf
          obtain ⟨bb, hbb⟩ : ∃ bb, bb = (l.drop (k + 2)).take n := ⟨_, rfl⟩
          obtain ⟨sg, hsg⟩ : ∃ sg, sg = (l.drop k).take (n + 6) := ⟨_, rfl⟩
          rw [← hbb] at hP hpl hW hsf
          rw [← hsg] at hQ hsf
          have hsl : sg.length = n + 6 := by rw [hsg, List.length_take, hdl]; omega
          have HP := hid hP
          have HQ := hid hQ
          have HSF := hid hsf
          have HPL := hid hpl
          have HBB := hid hbb
          clear hP hQ hsf hpl hbb hsg hp2
          go_wp2_with fail
          go_at_call 8
          refine hW.mono ?_
          rintro e w2 ⟨r, rfl, hr, hB2⟩
          have hq3 := HQ.out.on hB2
          have hv1 : ∀ m, (convert 22 9 r).run Try.prog (w2.drewN m) = .ok (strB (frameB bb)) (w2.drewN m) := fun m => convB (SlB.drewN m hr.slb)
          have hv2 : ∀ m, (convert 22 9 (.slice (Option.some ⟨b, o + k, none⟩) (n + 6) (cap - k))).run Try.prog (w2.drewN m) = .ok (strB sg) (w2.drewN m) := fun m => convB (SlB.drewN m hq3)
          have hkn : (k : Int) + (n : Int) + 6 ≤ (cap : Int) := by omega
          have hkn2 : k + n + 6 - k = n + 6 := by omega
          obtain ⟨gr, cr, nr, rfl, hnr⟩ := hr.asSlice
          have HP2 := hid (HP.out.on hB2)
          have HO2 := hid (HO1.out.on hB2)
          have HB2 := hid (HB1.out.trans (hB2.mono hsz1))
          clear hW hr hB2 hq3 hnr
          rcases Decidable.em (frameB bb = sg) with hfs | hfs
          · rw [hfs] at hv1
            go_wp2_with fail
            go_quiet (fail)
            have HB3 := hid (belowDrewN nq HB2.out)
            have HO3 := hid (OwnL.drewN nq HO2.out)
            have HP3 := hid (SlB.drewN nq HP2.out)
            obtain ⟨w3, hw3⟩ : ∃ w3, w3 = w2.drewN nq := ⟨_, rfl⟩
            rw [← hw3] at HB3 HO3 HP3 ⊢
            clear hv1 hv2 hw3
            have hsz3 := HB3.out.size
            have hfn := HSF.out.1 hfs
            have HE := hid (hbe.out.next hfn)
            rw [List.drop_drop, ← HBB.out] at HE
            obtain ⟨i0, hi, hz0, hz1, hz2⟩ := info_parts Try.infoS
            have tok : Hid (0 = 0) := hid rfl
            clear hfn
            go_wp2_with (first
              | (clear tok; at_builtin; refine wpList_append_slb rfl _ _ rfl w3.heap.size _ [] rfl (OwnB.made w3) _ bb rfl (HP3.out.on ((Below.refl _ w3).alloc (Nat.le_refl _) _)) (by rw [HPL.out]; simp; omega) (by simp) ?_; intro v5 w5 ho5 hg5; rw [List.nil_append] at ho5; have hb5 := ((Below.refl _ w3).alloc (Nat.le_refl _) (.cells #[] 5)).grown hg5 (by simp) (fun k hk => by cases hk; exact Nat.le_refl _); obtain ⟨s5, rfl, ho6⟩ := ho5.sv; obtain ⟨sa, sn, sc⟩ := s5; have HO5 := hid (own_monoB ho6 hsz3); have HOL := hid (HO3.out.on hb5); have HB5 := hid (HB3.out.trans (hb5.mono hsz3)); have hsz5 := HB5.out.size; clear ho5 ho6 hg5 hb5)
              | (at_builtin; refine wpList_append_own _ rfl _ _ 27 rfl w.heap.size 22 i0 _ 1 24 Try.underlying27 hi hz0 hz1 hz2 rfl (by decide) _ _ _ rfl (HOL.out.alloc _).1 ⟨w5.heap.size, 0, none⟩ 1 1 [.slice sa sn sc] rfl rfl (new_one rfl) ?c2 ?c3 ?c4 ?c5 ?_))
            case c2 => intro u hu; simp at hu; subst hu; rfl
            case c3 => unfold maxLen; omega
            case c4 => omega
            case c5 => first | omega | (simp; omega)
            intro v6 w6 hown' hgrow _
            have R := OwnL.more (s := ⟨sa, sn, sc⟩) (HOL.out.alloc _) (World.ownsRow.alloc HO5.out _) (HB5.out.alloc hsz5 _) (by simp; omega) hown' hgrow
            have HRR := hid R
            clear hown' hgrow R
            go_wp2
            go_roundw
            case rel => exact ⟨k + n + 6, _, by omega, by simp only [List.length_append, List.length_cons, List.length_nil]; omega, by go_num, hid (by rw [List.map_append]; exact HE.out), HRR.out.1, HRR.out.2⟩
            case measure => simp [RowKit.intOf]; omega
          · have hne : (frameB bb == sg) = false := beq_eq_false_iff_ne.2 hfs
            go_wp2_with fail
            go_quiet (fail)
            have HB3 := hid (belowDrewN nq HB2.out)
            have HO3 := hid (OwnL.drewN nq HO2.out)
            obtain ⟨w3, hw3⟩ : ∃ w3, w3 = w2.drewN nq := ⟨_, rfl⟩
            rw [← hw3] at HB3 HO3 ⊢
            clear hv1 hv2 hw3
            have hfn : firstN (l.drop k) = none := by
              cases hc : firstN (l.drop k) with
              | none => rfl
              | some m =>
                obtain ⟨_, _, _, hm, _⟩ := first_some hc
                rw [HW.out] at hm
                subst hm
                exact absurd (HSF.out.2 hc) hfs
            have HE := hid (hbe.out.stop hfn)
            clear hfn
            go_wp2
            go_ret2
            rw [HE.out]
            exact ⟨_, _, rfl, HO3.out, rfl, HB3.out⟩
    · have hlt2 : ¬ (k : Int) + 2 ≤ (len : Int) := by omega
      have hf := first_short (log := l.drop k) (by omega)
      have HE := hid (hbe.out.stop hf)
      obtain ⟨g4, c4, n4, rfl, hn4⟩ := hown.asSlice
      clear hf hown hn4
      go_wp2
      go_ret2
      rw [HE.out]
      exact ⟨_, rfl, _, HO.out, rfl, HB.out⟩
end Go.Proofs.Ytpjcjnifklgojaa

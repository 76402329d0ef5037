import Derived.Test.YtbcmhnaiabifjaaG31
import Derived.Test.YtbcmhnaiabifjaaHRChoAZm
import Derived.Test.YtbcmhnaiabifjaaHRChoDZm
import Derived.Test.YtbcmhnaiabifjaaHRChoFZm
import Derived.Test.YtbcmhnaiabifjaaHRChoEZm
import Derived.Test.YtbcmhnaiabifjaaG19
import Derived.Test.YtbcmhnaiabifjaaG02
import Derived.Lib.SmallJoins
import Derived.Carry
import Derived.Handed
import Derived.OpenShut
import Derived.Deep.Slices
import Derived.Deep.Fields
import Derived.ChangeSame
import Derived.Test.YtbcmhnaiabifjaaG03
import Derived.ChangeSlices
import Derived.Test.YtbcmhnaiabifjaaG04
namespace Go.Proofs.Ytbcmhnaiabifjaa
set_option linter.unusedVariables false
open Go.RowKit
theorem rChooseM {v : Value} {ls : List Ms} {w : World} (n : Int) (h : SlM w v (mgs ls)) (hA : ∀ m ∈ ls, m.at w) (hS : ∀ m ∈ ls, m.short 1024) (hl : ls.length ≤ 40) : Calls Try.prog 9 #[.int .i64 n, v] w (RChooseP w n ls) := by
  rcases hp : promB n ls with _ | _
  · exact rChoose0 n h hA hS hl hp
  · rcases hs : ls.find? isS with _ | z
    · rcases ha : accF ls with _ | z
      · rcases hd : decF n ls with _ | z
        · by_cases hf : freshE ls = 0
          · exact rChooseF n h hA hS hl hp hs ha hd hf
          · exact rChooseE n h hA hS hl hp hs ha hd hf
        · exact rChooseD n h hA hS hl hp hs ha hd
      · exact rChooseA n h hA hS hl hp hs ha
    · exact rChooseS n h hA hS hl hp hs
end Go.Proofs.Ytbcmhnaiabifjaa
namespace Go.Proofs.Ytbcmhnaiabifjaa
set_option linter.unusedVariables false
open Go.RowKit
open Go.Lib (hid)
theorem setE2_len (cs : List C7) : (ofL2 cs).length ≤ 1024 := by
  unfold ofL2
  split
  · simp
  · rename_i h
    by_cases h0 : ofE cs = 0
    · have : ¬ 1024 < (ofL cs).length := fun hh => h ⟨h0, hh⟩
      omega
    · rw [of_wrong h0]; simp
theorem freshL_len (ls : List Ms) : (freshL ls).length ≤ 1024 := by
  unfold freshL; split
  · exact setE2_len _
  · simp
theorem choL_len {n : Int} {ls : List Ms} (h : ∀ m ∈ ls, m.short 1024) : (choF n ls).l.length ≤ 1024 := by
  unfold choF
  split
  · rcases hs : ls.find? isS with _ | z
    · rcases ha : accF ls with _ | z
      · rcases hd : decF n ls with _ | z
        · show (if freshE ls = 0 then (⟨3, freshT ls, freshL ls, 0⟩ : Cho) else ⟨0, 0, [], freshE ls⟩).l.length ≤ 1024
          split
          · exact freshL_len _
          · simp
        · exact (h z (decF_mem hd)).2.2
      · exact (h z (acc_mem ha)).2.1
    · exact (h z (List.mem_of_find?_eq_some hs)).1
  · simp
set_option maxHeartbeats 16000000 in
set_option maxRecDepth 100000 in
theorem cChooseTells {v : Value} {ls : List Ms} {w : World} (n : Int) (h : SlM w v (mgs ls)) (hA : ∀ m ∈ ls, m.at w) (hl : ls.length ≤ 9223372036854775807) : Calls Try.prog 3 #[.int .i64 n, v] w fun e w' => e = .returned (.bool true) ∧ Below w.heap.size w w' := by
  have hF := cFitsMs h hA hl
  have hsl := h
  have HA := hid hA
  obtain ⟨b, o, cap, a, rfl, ha, hc, hb⟩ := h
  obtain ⟨m, hm⟩ : ∃ m, m = (mgs ls).length := ⟨_, rfl⟩
  rw [← hm] at hF hsl ⊢
  have HSL := hid hsl
  clear ha hc hb hA hm hsl
  go_enter Try.func3, Try.ntmps3
  go_wp2_with fail
  go_at_call 6
  refine hF.mono ?_
  rintro e w1 ⟨hf, hB⟩
  have HB1 := hid hB
  clear hB hF
  rcases hf with rfl | ⟨rfl, hl20, hsh⟩
  · as_aux_lemma =>
      go_wp2_with (first | (go_at_call 7; refine (cAlive15 _).mono ?_; rintro e w2 ⟨rfl, hB⟩; have HB2 := hid hB; clear hB) | fail)
      go_ret
      exact ⟨rfl, HB1.out.trans (HB2.out.mono HB1.out.size)⟩
  · as_aux_lemma =>
      have HSH : Hid (∀ m ∈ ls, m.short 1024) := hid (fun m hm => by have := hsh m hm; exact ⟨Nat.le_trans this.1 (by decide), Nat.le_trans this.2.1 (by decide), Nat.le_trans this.2.2 (by decide)⟩)
      have HL := hid hl20
      obtain ⟨c, hcc⟩ : ∃ c, c = choF n ls := ⟨_, rfl⟩
      have HCL : Hid (c.l.length ≤ 1024) := hid (by rw [hcc]; exact choL_len HSH.out)
      have HC1 : Hid (∀ W, Below w.heap.size w W → Calls Try.prog 8 #[.int .i64 n, .slice a m cap] W fun e w' => ∃ r : Sv, e = .returned (.tuple #[.agg (carr c.k c.t r), .int .i64 c.e]) ∧ Sl w' r.v c.l ∧ Below W.heap.size W w') := hid (fun W hW => by rw [hcc]; exact cChoose n (HSL.out.on hW) (fun x hx => (HA.out x hx).on hW) HSH.out (by have := HL.out; omega))
      have HC2 : Hid (∀ W, Below w.heap.size w W → Calls Try.prog 9 #[.int .i64 n, .slice a m cap] W fun e w' => ∃ r : Sv, e = .returned (.tuple #[.int .i64 c.k, .agg (varr c.t r), .int .i64 c.e]) ∧ Sl w' r.v c.l ∧ Below W.heap.size W w') := hid (fun W hW => by rw [hcc]; exact rChooseM n (HSL.out.on hW) (fun x hx => (HA.out x hx).on hW) HSH.out (by have := HL.out; omega))
      obtain ⟨ft, hft⟩ : ∃ z, z = freshT ls := ⟨_, rfl⟩
      obtain ⟨fe, hfe⟩ : ∃ z, z = freshE ls := ⟨_, rfl⟩
      obtain ⟨fl, hfl⟩ : ∃ z, z = freshL ls := ⟨_, rfl⟩
      have HFL : Hid (fl.length ≤ 1024) := hid (by rw [hfl]; exact freshL_len _)
      have HC3 : Hid (∀ W, Below w.heap.size w W → Calls Try.prog 10 #[.slice a m cap] W fun e w' => ∃ r : Sv, e = .returned (.tuple #[.agg (varr ft r), .int .i64 fe]) ∧ Sl w' r.v fl ∧ Below W.heap.size W w') := hid (fun W hW => by rw [hft, hfe, hfl]; exact cFresh (HSL.out.on hW) (fun x hx => (HA.out x hx).on hW) HSH.out (by have := HL.out; omega))
      have HC4 : Hid (∀ W, Below w.heap.size w W → Calls Try.prog 11 #[.slice a m cap] W fun e w' => ∃ r : Sv, e = .returned (.tuple #[.agg (varr ft r), .int .i64 fe]) ∧ Sl w' r.v fl ∧ Below W.heap.size W w') := hid (fun W hW => by rw [hft, hfe, hfl]; exact rFreshM (HSL.out.on hW) (fun x hx => (HA.out x hx).on hW) HSH.out (by have := HL.out; omega))
      obtain ⟨ck, ct, cl, ce⟩ := c
      clear hcc hft hfe hfl hsh hl20 hl
      dsimp only at HC1 HC2 HCL
      go_upto_region 5 with (first
        | (go_at_call 8; refine (HC1.out _ HB1.out).mono ?_; rintro e w2 ⟨r1, rfl, hs, hB⟩; have HSr1 := hid hs; have HB2 : Hid (Below w.heap.size w w2) := hid (HB1.out.trans (hB.mono HB1.out.size)); have HD2 := hid hB; clear hs hB)
        | ((with_reducible refine storeCh (x := ?cx1) (y := ?cy1) (b := w2.heap.size) ck ct r1 ?cg1 ?co1 ?cxx1 ?cyy1 ?cc1 ?ch1); (case cg1 => rfl); (case co1 => rfl); (case cxx1 => rfl); (case cyy1 => rfl); (case cc1 => exact roomCZ _); intro W3 hO hU; have HOW3 : Hid (OC W3 w2.heap.size ck ct r1) := hid hO; have HSW3 : Hid (Below w2.heap.size w2 W3) := hid ((laid1_b w2 zeroCc).trans (hU.below w2.heap.size (Nat.le_refl _))); clear hO hU)
        | fail)
      have HBW3 : Hid (Below w.heap.size w W3) := hid (HB2.out.trans (HSW3.out.mono HB2.out.size))
      have HS3r1 := hid (HSr1.out.on HSW3.out)
      go_upto_region 6 with (first
        | (go_at_call 9; refine (HC2.out _ HBW3.out).mono ?_; rintro e w4 ⟨r2, rfl, hs, hB⟩; have HSr2 := hid hs; have HB4 : Hid (Below w.heap.size w w4) := hid (HBW3.out.trans (hB.mono HBW3.out.size)); have HD4 := hid hB; clear hs hB)
        | ((with_reducible refine storeV (x := ?wx2) (y := ?wy2) (b := w4.heap.size) ct r2 ?wg2 ?wo2 ?wxx2 ?wyy2 ?wc2 ?wh2); (case wg2 => rfl); (case wo2 => rfl); (case wxx2 => rfl); (case wyy2 => rfl); (case wc2 => exact (roomVZ _)); intro W5 hO hU; have HOW5 : Hid (OV W5 w4.heap.size ct r2) := hid hO; have HSW5 : Hid (Below w4.heap.size w4 W5) := hid ((laid1_b w4 zeroVc).trans (hU.below w4.heap.size (Nat.le_refl _))); clear hO hU)
        | fail)
      have HBW5 : Hid (Below w.heap.size w W5) := hid (HB4.out.trans (HSW5.out.mono HB4.out.size))
      go_upto_region 7 with (first
        | (go_at_call 10; refine (HC3.out _ HBW5.out).mono ?_; rintro e w6 ⟨r3, rfl, hs, hB⟩; have HSr3 := hid hs; have HB6 : Hid (Below w.heap.size w w6) := hid (HBW5.out.trans (hB.mono HBW5.out.size)); have HD6 := hid hB; clear hs hB)
        | ((with_reducible refine storeV (x := ?wx3) (y := ?wy3) (b := w6.heap.size) ft r3 ?wg3 ?wo3 ?wxx3 ?wyy3 ?wc3 ?wh3); (case wg3 => rfl); (case wo3 => rfl); (case wxx3 => rfl); (case wyy3 => rfl); (case wc3 => exact (roomVZ _)); intro W7 hO hU; have HOW7 : Hid (OV W7 w6.heap.size ft r3) := hid hO; have HSW7 : Hid (Below w6.heap.size w6 W7) := hid ((laid1_b w6 zeroVc).trans (hU.below w6.heap.size (Nat.le_refl _))); clear hO hU)
        | fail)
      have HBW7 : Hid (Below w.heap.size w W7) := hid (HB6.out.trans (HSW7.out.mono HB6.out.size))
      go_upto_region 8 with (first
        | (go_at_call 11; refine (HC4.out _ HBW7.out).mono ?_; rintro e w8 ⟨r4, rfl, hs, hB⟩; have HSr4 := hid hs; have HB8 : Hid (Below w.heap.size w w8) := hid (HBW7.out.trans (hB.mono HBW7.out.size)); have HD8 := hid hB; clear hs hB)
        | ((with_reducible refine storeV (x := ?wx4) (y := ?wy4) (b := w8.heap.size) ft r4 ?wg4 ?wo4 ?wxx4 ?wyy4 ?wc4 ?wh4); (case wg4 => rfl); (case wo4 => rfl); (case wxx4 => rfl); (case wyy4 => rfl); (case wc4 => exact (roomVZ _)); intro W9 hO hU; have HOW9 : Hid (OV W9 w8.heap.size ft r4) := hid hO; have HSW9 : Hid (Below w8.heap.size w8 W9) := hid ((laid1_b w8 zeroVc).trans (hU.below w8.heap.size (Nat.le_refl _))); clear hO hU)
        | fail)
      have HBW9 : Hid (Below w.heap.size w W9) := hid (HB8.out.trans (HSW9.out.mono HB8.out.size))
      have H79 : Hid (Below W7.heap.size W7 W9) := hid (HD8.out.trans (HSW9.out.mono HD8.out.size))
      have H59 : Hid (Below W5.heap.size W5 W9) := hid (HD6.out.trans ((HSW7.out.trans (H79.out.mono HSW7.out.size)).mono HD6.out.size))
      have H39 : Hid (Below W3.heap.size W3 W9) := hid (HD4.out.trans ((HSW5.out.trans (H59.out.mono HSW5.out.size)).mono HD4.out.size))
      have HX1 : Hid (OC W9 w2.heap.size ck ct r1) := hid (heapB HOW3.out H39.out (Array.getElem?_eq_some_iff.1 HOW3.out).1)
      have HX2 : Hid (OV W9 w4.heap.size ct r2) := hid (OV.on HOW5.out H59.out)
      have HX3 : Hid (OV W9 w6.heap.size ft r3) := hid (OV.on HOW7.out H79.out)
      have HX4 : Hid (OV W9 w8.heap.size ft r4) := hid HOW9.out
      have S1 : Hid (Sl W9 r1.v cl) := hid (HS3r1.out.on H39.out)
      have S2 : Hid (Sl W9 r2.v cl) := hid ((HSr2.out.on HSW5.out).on H59.out)
      have S3 : Hid (Sl W9 r3.v fl) := hid ((HSr3.out.on HSW7.out).on H79.out)
      have S4 : Hid (Sl W9 r4.v fl) := hid (HSr4.out.on HSW9.out)
      have HM1 := hid (rSameValue (w := W9) ct S1.out S2.out (Nat.le_trans HCL.out (by decide)))
      have HRC : Hid (W9.rangeAt w2.heap.size 1 (vcs ct r1)) := hid (fun i u hu => by have hh := HX1.out.range; rcases i with _ | _ | i; exact (by have := hh 1 (.int .i64 ct) rfl; obtain rfl := Option.some.inj hu; rwa [Nat.zero_add] at this); exact (by have := hh 2 (.slice r1.a r1.n r1.c) rfl; obtain rfl := Option.some.inj hu; rwa [Nat.zero_add] at this); simp [vcs] at hu)
      go_upto_region 9 with (first
        | ((with_reducible refine loadVl (x := ?vx5) (b := w2.heap.size) (o := 1) ct r1 ?vg5 ?vo5 ?vxx5 ?vc5 ?_); (case vg5 => rfl); (case vo5 => rfl); (case vxx5 => rfl); (case vc5 => exact HRC.out))
        | ((with_reducible refine loadVl (x := ?vx6) (b := w4.heap.size) (o := 0) ct r2 ?vg6 ?vo6 ?vxx6 ?vc6 ?_); (case vg6 => rfl); (case vo6 => rfl); (case vxx6 => rfl); (case vc6 => exact HX2.out.range))
        | (go_at_call 12; refine HM1.out.mono ?_; rintro e w10 ⟨rfl, hB⟩; have HD10 := hid hB; clear hB)
        | fail)
      have HX3' : Hid (OV w10 w6.heap.size ft r3) := hid (OV.on HX3.out HD10.out)
      have HX4' : Hid (OV w10 w8.heap.size ft r4) := hid (OV.on HX4.out HD10.out)
      have HM2 := hid (rSameValue (w := w10) ft (S3.out.on HD10.out) (S4.out.on HD10.out) (Nat.le_trans HFL.out (by decide)))
      go_upto_region 10 with (first
        | ((with_reducible refine loadVl (x := ?vx7) (b := w6.heap.size) (o := 0) ft r3 ?vg7 ?vo7 ?vxx7 ?vc7 ?_); (case vg7 => rfl); (case vo7 => rfl); (case vxx7 => rfl); (case vc7 => exact HX3'.out.range))
        | ((with_reducible refine loadVl (x := ?vx8) (b := w8.heap.size) (o := 0) ft r4 ?vg8 ?vo8 ?vxx8 ?vc8 ?_); (case vg8 => rfl); (case vo8 => rfl); (case vxx8 => rfl); (case vc8 => exact HX4'.out.range))
        | (go_at_call 12; refine HM2.out.mono ?_; rintro e w11 ⟨rfl, hB⟩; have HD11 := hid hB; clear hB)
        | fail)
      have HBf : Hid (Below w.heap.size w w11) := hid (((HBW9.out.trans (HD10.out.mono HBW9.out.size))).trans (HD11.out.mono (Nat.le_trans HBW9.out.size HD10.out.size)))
      have HX1f : Hid (OC w11 w2.heap.size ck ct r1) := hid (heapB (heapB HX1.out HD10.out (Array.getElem?_eq_some_iff.1 HX1.out).1) HD11.out (Nat.lt_of_lt_of_le (Array.getElem?_eq_some_iff.1 HX1.out).1 HD10.out.size))
      go_wp2_with (first | (go_at_call 7; refine (cAlive15 _).mono ?_; rintro e w12 ⟨rfl, hB⟩; have HB12 : Hid (Below w.heap.size w w12) := hid (HBf.out.trans (hB.mono HBf.out.size)); have k0 : w12.cell? ⟨w2.heap.size, 0, none⟩ = some (.int .i64 ck) := (cellAt' (heapB HX1f.out hB (Array.getElem?_eq_some_iff.1 HX1f.out).1) 0).trans rfl; clear hB) | fail)
      go_ret
      exact ⟨by simp, HB12.out⟩
end Go.Proofs.Ytbcmhnaiabifjaa
namespace Go.Proofs.Ytbcmhnaiabifjaa
set_option linter.unusedVariables false
open Go.Joins Go.ChangeShapes Go.WideShapes Go.ChangeAt Go.RowKit Go.Deep
theorem list_of {n : Nat} {P : Nat → C7 → Prop} (h : ∀ i, i < n → ∃ c, P i c) : ∃ cs : List C7, cs.length = n ∧ ∀ (j : Nat) c, cs[j]? = some c → P j c := by
  induction n with
  | zero => exact ⟨[], rfl, fun j c hc => by simp at hc⟩
  | succ n ih =>
    obtain ⟨cs, hl, hp⟩ := ih fun i hi => h i (by omega)
    obtain ⟨c, hc⟩ := h n (by omega)
    refine ⟨cs ++ [c], by simp [hl], fun j d hd => ?_⟩
    by_cases hj : j < cs.length
    · rw [List.getElem?_append_left hj] at hd; exact hp j d hd
    · have hlen := (List.getElem?_eq_some_iff.1 hd).1
      simp at hlen
      obtain rfl : j = cs.length := by omega
      simp at hd
      subst hd
      rw [hl]; exact hc
theorem add_plain (b o n : Nat) : (⟨b, o, none⟩ : Addr).add n = ⟨b, o + n, none⟩ := by
  by_cases h : n = 0
  · subst h; simp [Addr.add]
  · simp [Addr.add, h]
theorem open_fields {H : Type} {enc : TypeId × Value → H} {P : Program} {w : World} {base : Nat} {spare : Nat → Bool} {held : Bool} {t e : TypeId} {fs : Array Field} {fuel : Nat} {cs : List Value} {x : DataW H × List MemPlace} (ht : P.underlying t = some (.slice e)) (he : P.underlying e = some (.struct fs))
    (hone : oneCellFields P fs = true) (hC : P.cellsOf e = fs.size) (h : DataW.trod enc P w base spare held fuel t cs = some x) :
    cs = [.slice none 0 0] ∨
    ∃ (a : Addr) (len cap : Nat), cs = [.slice (some a) len cap] ∧ len ≤ maxLen ∧
      ∀ i, i < len → ∃ n : Nat, ∀ (j : Nat) (f : Field), fs[j]? = some f → ∃ (v : Value) (y : DataW H × List MemPlace), w.cell? (a.add (i * fs.size + j)) = some v ∧ DataW.trod enc P w base spare held n f.type [v] = some y := by
  rcases open_slice ht h with h0 | ⟨a, len, cap, m, n, D, Pl, hcs, _, hl, hm, hmm, _, hi⟩
  · exact .inl h0.1
  · refine .inr ⟨a, len, cap, hcs, by omega, fun i him => ?_⟩
    obtain ⟨cs', hc, ht'⟩ := hi i (by rw [hmm]; split <;> omega)
    rw [hC] at hc
    obtain ⟨ys, n', _, _, hlen, hyl, hf⟩ := DataW.trod_struct he ht'
    obtain ⟨_, _, hat⟩ := World.cells?_some hc
    refine ⟨n', fun j f hj => ?_⟩
    obtain ⟨ho, hk⟩ := hone_of hone j f hj
    have hjl : j < fs.size := (Array.getElem?_eq_some_iff.1 hj).1
    have hcell := hat j hjl
    have hv : cs'[j]? = some (cs'[j]'(by omega)) := List.getElem?_eq_getElem (by omega)
    have h1 := hf j f hj
    rw [ho, hk] at h1
    have hone' : (cs'.drop j).take 1 = [cs'[j]'(by omega)] := by
      rw [List.drop_eq_getElem_cons (by omega)]
      rfl
    rw [hone'] at h1
    have hys : ys[j]? = some (ys[j]'(by omega)) := List.getElem?_eq_getElem (by omega)
    refine ⟨_, _, ?_, h1.trans hys⟩
    rw [← Go.Deep.add_add, hcell, hv]
theorem own : ownKnob Try.prog.godebug = none := by kernel_rfl
theorem laidOut : laidOutB Try.prog = true := by kernel_rfl
end Go.Proofs.Ytbcmhnaiabifjaa
namespace Go.Proofs.Ytbcmhnaiabifjaa
set_option linter.unusedVariables false
open Go.Joins Go.ChangeShapes Go.WideShapes Go.ChangeAt Go.RowKit Go.Deep
end Go.Proofs.Ytbcmhnaiabifjaa
namespace Go.Proofs.Ytbcmhnaiabifjaa
set_option linter.unusedVariables false
open Go.Joins Go.ChangeShapes Go.WideShapes Go.ChangeAt Go.RowKit Go.Deep
set_option maxRecDepth 100000 in
theorem open_cmds_in {H : Type} {enc : TypeId × Value → H} {W : World} {base : Nat} {spare : Nat → Bool} {held : Bool} {fuel : Nat} {v : Value} {x : DataW H × List MemPlace} (hf : DataW.trod enc Try.prog W base spare held fuel 26 [v] = some x) :
    ∃ cs : List C7, Sl W v cs ∧ cs.length ≤ 9223372036854775807 := by
  rcases open_fields Try.underlying26 Try.underlying47 (by kernel_rfl) (by kernel_rfl) hf with h0 | ⟨a, len, cap, hcs, hm, hi⟩
  · obtain rfl := (List.cons.inj h0).1
    exact ⟨[], ⟨0, 0, 0, none, rfl, fun _ => rfl, fun h => absurd h (by simp), fun j c hc => by simp at hc, fun h => absurd h (by simp)⟩, by simp⟩
  · obtain rfl := (List.cons.inj hcs).1
    obtain ⟨cs, hl, hp⟩ := list_of (n := len) (P := fun i c => ∀ (f : Nat) u, c.cells[f]? = some u → W.cell? (a.add (i * 7 + f)) = some u) fun i hlt => by
      obtain ⟨n, hf⟩ := hi i hlt
      obtain ⟨v0, y0, g0, t0⟩ := hf 0 _ rfl
      obtain ⟨v1, y1, g1, t1⟩ := hf 1 _ rfl
      obtain ⟨v2, y2, g2, t2⟩ := hf 2 _ rfl
      obtain ⟨v3, y3, g3, t3⟩ := hf 3 _ rfl
      obtain ⟨v4, y4, g4, t4⟩ := hf 4 _ rfl
      obtain ⟨v5, y5, g5, t5⟩ := hf 5 _ rfl
      obtain ⟨v6, y6, g6, t6⟩ := hf 6 _ rfl
      obtain ⟨z0, e0, _, _⟩ := DataW.trod_int Try.underlying3 t0
      obtain ⟨z1, e1, _, _⟩ := DataW.trod_int Try.underlying44 t1
      obtain ⟨z2, e2, _, _⟩ := DataW.trod_int Try.underlying3 t2
      obtain ⟨z3, e3, _, _⟩ := DataW.trod_int Try.underlying3 t3
      obtain ⟨z4, e4, _, _⟩ := DataW.trod_int Try.underlying45 t4
      obtain ⟨z5, e5, _, _⟩ := DataW.trod_int Try.underlying3 t5
      obtain ⟨z6, e6, _, _⟩ := DataW.trod_int Try.underlying3 t6
      simp only [List.cons.injEq, and_true] at e0 e1 e2 e3 e4 e5 e6
      subst e0 e1 e2 e3 e4 e5 e6
      refine ⟨⟨z0, z1, z2, z3, z4, z5, z6⟩, fun f u hu => ?_⟩
      match f, hu with
      | 0, hu => obtain rfl := Option.some.inj hu; exact g0
      | 1, hu => obtain rfl := Option.some.inj hu; exact g1
      | 2, hu => obtain rfl := Option.some.inj hu; exact g2
      | 3, hu => obtain rfl := Option.some.inj hu; exact g3
      | 4, hu => obtain rfl := Option.some.inj hu; exact g4
      | 5, hu => obtain rfl := Option.some.inj hu; exact g5
      | 6, hu => obtain rfl := Option.some.inj hu; exact g6
      | _ + 7, hu => cases hu
    have hfirst : 0 < cs.length → a.spot = none ∧ a.block < W.heap.size := fun h0 => by
      have hc : cs[0]? = some cs[0] := List.getElem?_eq_getElem h0
      have := hp 0 _ hc 0 _ rfl
      exact ⟨by simpa [Addr.add] using World.cell?_spot this, by simpa [Addr.add] using World.block_lt_of_cell? W _ this⟩
    obtain ⟨b, o, spot⟩ := a
    refine ⟨cs, ⟨b, o, cap, some ⟨b, o, spot⟩, by rw [hl], (fun e => by cases e), fun h0 => ?_, fun j c hc f u hu => ?_, fun h0 => (hfirst h0).2⟩, ?_⟩
    · rw [show spot = none from (hfirst h0).1]
    · have h0 : 0 < cs.length := by have := (List.getElem?_eq_some_iff.1 hc).1; omega
      have := hp j c hc f u hu
      rw [show spot = none from (hfirst h0).1] at this
      rw [add_plain] at this
      exact this
    · rw [hl]; exact Nat.le_trans hm (by decide)
end Go.Proofs.Ytbcmhnaiabifjaa
namespace Go.Proofs.Ytbcmhnaiabifjaa
set_option linter.unusedVariables false
open Go.Joins Go.ChangeShapes Go.WideShapes Go.ChangeAt Go.RowKit Go.Deep
theorem cellsC : Try.prog.cellsOf 47 = 7 := by kernel_rfl
theorem cellsV : Try.prog.cellsOf 28 = 2 := by kernel_rfl
theorem cellsI : Try.prog.cellsOf 3 = 1 := by kernel_rfl
theorem cellsK : Try.prog.cellsOf 44 = 1 := by kernel_rfl
theorem cellsD : Try.prog.cellsOf 45 = 1 := by kernel_rfl
theorem cellsB : Try.prog.cellsOf 4 = 1 := by kernel_rfl
theorem cellsS : Try.prog.cellsOf 26 = 1 := by kernel_rfl
variable {H : Type} {enc : TypeId × Value → H} {W : World} {base : Nat} {spare : Nat → Bool} {held : Bool} {fuel : Nat}
theorem struct_in {P : Program} {t : TypeId} {fs : Array Field} {cs : List Value} {x : DataW H × List MemPlace} (ht : P.underlying t = some (.struct fs)) (h : DataW.trod enc P W base spare held fuel t cs = some x) :
    cs.length = P.cellsOf t ∧ ∃ n, ∀ (i : Nat) (f : Field), fs[i]? = some f → ∃ y, DataW.trod enc P W base spare held n f.type ((cs.drop f.offset).take (P.cellsOf f.type)) = some y := by
  obtain ⟨xs, n, _, _, hl, hx, hf⟩ := DataW.trod_struct ht h
  refine ⟨hl, n, fun i f hi => ?_⟩
  have hlt : i < fs.size := (Array.getElem?_eq_some_iff.1 hi).1
  exact ⟨xs[i]'(by omega), (hf i f hi).trans (List.getElem?_eq_getElem (by omega))⟩
theorem int_in {t : TypeId} {c : Value} {x : DataW H × List MemPlace} (ht : Try.prog.underlying t = some (.int .i64)) (h : DataW.trod enc Try.prog W base spare held fuel t [c] = some x) : ∃ z, c = .int .i64 z := by
  obtain ⟨z, e, _, _⟩ := DataW.trod_int ht h
  exact ⟨z, (List.cons.inj e).1⟩
set_option maxRecDepth 100000 in
theorem cmd_in {cs : List Value} {x : DataW H × List MemPlace} (h : DataW.trod enc Try.prog W base spare held fuel 47 cs = some x) : ∃ c : C7, cs = c.cells := by
  obtain ⟨hl, n, hf⟩ := struct_in Try.underlying47 h
  rw [cellsC] at hl
  match cs, hl with
  | [c0, c1, c2, c3, c4, c5, c6], _ =>
    obtain ⟨y0, h0⟩ := hf 0 _ rfl
    obtain ⟨y1, h1⟩ := hf 1 _ rfl
    obtain ⟨y2, h2⟩ := hf 2 _ rfl
    obtain ⟨y3, h3⟩ := hf 3 _ rfl
    obtain ⟨y4, h4⟩ := hf 4 _ rfl
    obtain ⟨y5, h5⟩ := hf 5 _ rfl
    obtain ⟨y6, h6⟩ := hf 6 _ rfl
    simp only [List.getElem_toArray, List.getElem_cons_succ, List.getElem_cons_zero, cellsI, cellsK, cellsD, List.drop_succ_cons, List.drop_zero, List.take_succ_cons, List.take_zero] at h0 h1 h2 h3 h4 h5 h6
    obtain ⟨z0, rfl⟩ := int_in Try.underlying3 h0
    obtain ⟨z1, rfl⟩ := int_in Try.underlying44 h1
    obtain ⟨z2, rfl⟩ := int_in Try.underlying3 h2
    obtain ⟨z3, rfl⟩ := int_in Try.underlying3 h3
    obtain ⟨z4, rfl⟩ := int_in Try.underlying45 h4
    obtain ⟨z5, rfl⟩ := int_in Try.underlying3 h5
    obtain ⟨z6, rfl⟩ := int_in Try.underlying3 h6
    exact ⟨⟨z0, z1, z2, z3, z4, z5, z6⟩, rfl⟩
theorem sv_of {v : Value} {l : List C7} (h : Sl W v l) : ∃ p : Sv, v = p.v ∧ Sl W p.v l := by
  obtain ⟨_, _, cap, a, rfl, _⟩ := id h
  exact ⟨⟨a, l.length, cap⟩, rfl, h⟩
set_option maxRecDepth 100000 in
theorem value_in {cs : List Value} {x : DataW H × List MemPlace} (h : DataW.trod enc Try.prog W base spare held fuel 28 cs = some x) : ∃ (t : Int) (p : Sv) (l : List C7), cs = [.int .i64 t, p.v] ∧ Sl W p.v l := by
  obtain ⟨hl, n, hf⟩ := struct_in Try.underlying28 h
  rw [cellsV] at hl
  match cs, hl with
  | [c0, c1], _ =>
    obtain ⟨y0, h0⟩ := hf 0 _ rfl
    obtain ⟨y1, h1⟩ := hf 1 _ rfl
    simp only [List.getElem_toArray, List.getElem_cons_succ, List.getElem_cons_zero, cellsI, cellsS, List.drop_succ_cons, List.drop_zero, List.take_succ_cons, List.take_zero] at h0 h1
    obtain ⟨z0, rfl⟩ := int_in Try.underlying3 h0
    obtain ⟨l, hs, _⟩ := open_cmds_in h1
    obtain ⟨p, rfl, hp⟩ := sv_of hs
    exact ⟨z0, p, l, rfl, hp⟩
theorem list_of' {α : Type} {n : Nat} {P : Nat → α → Prop} (h : ∀ i, i < n → ∃ c, P i c) : ∃ cs : List α, cs.length = n ∧ ∀ (j : Nat) c, cs[j]? = some c → P j c := by
  induction n with
  | zero => exact ⟨[], rfl, fun j c hc => by simp at hc⟩
  | succ n ih =>
    obtain ⟨cs, hl, hp⟩ := ih fun i hi => h i (by omega)
    obtain ⟨c, hc⟩ := h n (by omega)
    refine ⟨cs ++ [c], by simp [hl], fun j d hd => ?_⟩
    by_cases hj : j < cs.length
    · rw [List.getElem?_append_left hj] at hd; exact hp j d hd
    · have hlen := (List.getElem?_eq_some_iff.1 hd).1
      simp at hlen
      obtain rfl : j = cs.length := by omega
      simp at hd
      subst hd
      rw [hl]; exact hc
end Go.Proofs.Ytbcmhnaiabifjaa

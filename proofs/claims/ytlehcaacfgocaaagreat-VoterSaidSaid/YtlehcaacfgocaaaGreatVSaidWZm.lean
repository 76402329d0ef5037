import Derived.Test.YtlehcaacfgocaaaGreatVSayMZm
import Derived.Deep.LoopGhost
import Derived.Deep.CutRange
import Derived.Deep.Light
namespace Go.Proofs.YtlehcaacfgocaaaGreat
set_option linter.unusedVariables false
open Go.RowKit
open Go.Lib (hid)
theorem newR_ok {n : Int} (h : 0 ≤ n ∧ n ≤ 8) : newR n 0 [] = 0 := by
  unfold newR inB
  rw [if_pos (by simp; omega), if_pos (by simp)]
theorem OutF.beside {w w' : World} {B : Bd} {q x b b2 N : Nat} {nd : Int} {wv : Value} {r : Sd × List Ms × List An} {e : Ending} {s : Sd} {ws : List Ms} {N0 : Nat} (h : OutF w B q x b b2 N nd wv r e w') (hv : Vo w B q x b b2 N0 nd s wv ws) : ∀ {k : Nat} {o : Obj}, w.heap[k]? = some o → (∀ j, TV q x b b2 j → j < k) → (∀ j, wv.ownBlock = some j → j < k) → w'.heap[k]? = some o := fun {k o} hk h1 h2 => by
  obtain ⟨v, ls, wv', _, _, _, _, _, _, hT, _, _⟩ := h
  refine hT.ob hk fun hs => ?_
  rcases hs with hs | hs
  · have := h1 k hs; omega
  · have := h2 k hs; omega
theorem at_low {W W' : World} {B : Nat} {x : Ms} (h : x.at W) (hl : x.low (Bd.mk1 B)) (hb : Below B W W') : x.at W' := by
  have ht : Tch (fun k => B ≤ k) W W' := ⟨hb.os, hb.tape, hb.output, hb.size, fun i hi hn => hb.block i (by omega)⟩
  have key : ∀ {v : Value} {cs : List C7}, Sl W v cs → lowV (Bd.mk1 B) v cs → Sl W' v cs := fun h1 h2 => low_row h1 h2 ht fun k hk => .inr fun hP => by have : k < B := hP; omega
  exact ⟨key h.1 hl.1, key h.2.1 hl.2.1, key h.2.2 hl.2.2⟩
theorem tss_seq {a b c : World} {B : Nat} (h : Tch (TSs B a) a b) (k : Tch (TSs B b) b c) : Tch (TSs B a) a c := tss_trans h k fun j hj hs => by
  by_cases ht : TSs B a j
  · exact ht
  · obtain ⟨h1, cur, hc⟩ := hs
    exact ⟨h1, cur, by rw [← h.block j hj ht]; exact hc⟩
set_option maxRecDepth 100000 in
theorem run_buildSd (c : C7) (t : Int) (a : Option Addr) (n cp : Nat) (w : World) : (Instr.build 74 #[(0, .agg #[.int .i64 c.i, .int .i64 c.k, .int .i64 c.s, .int .i64 c.t, .int .i64 c.d, .int .i64 c.p, .int .i64 c.q]), (1, .int .i64 t), (2, .slice a n cp)]).run Tryz.prog w = .ok (.agg (⟨c, t, ⟨a, n, cp⟩⟩ : Sm).arr) w := by kernel_rfl
theorem exec_buildSd {a : Act} {o : Oper} {x y z : Operand} (c : C7) (t : Int) (ad : Option Addr) (n cp : Nat) (w : World) (ho : o.op = .build 74 #[(0, x), (1, y), (2, z)]) (hx : a.eval x = .agg #[.int .i64 c.i, .int .i64 c.k, .int .i64 c.s, .int .i64 c.t, .int .i64 c.d, .int .i64 c.p, .int .i64 c.q]) (hy : a.eval y = .int .i64 t) (hz : a.eval z = .slice ad n cp) :
    (execOp a.eval o).run Tryz.prog w = .ok (.value (.agg (⟨c, t, ⟨ad, n, cp⟩⟩ : Sm).arr)) w := by
  unfold execOp
  have hb := run_buildSd c t ad n cp w
  simp only [ho, List.map_toArray, List.map_cons, List.map_nil, hx, hy, hz, Sem.run_bind]
  rw [hb]
  simp only [Result.andThen_ok]
  rfl
theorem OSm.range {w : World} {q : Nat} {m : Sm} (h : OSm w q m) : w.rangeAt q 0 m.list := fun i u hu => by rw [Nat.zero_add]; exact h.cell hu
theorem loadSd {ops : Array Oper} {rest : List Oper} {op : Oper} {c : Act} {w : World} {Q : Exit → Act → World → Prop} {x : Operand} {b : Nat} (m : Sm) (hgd : op.guard = none) (ho : op.op = .load 74 x)
    (hx : c.eval x = .pointer (some ⟨b, 0, none⟩)) (hc : OSm w b m) (h : wpList Tryz.prog ops Q rest (c.put op.dst (.agg m.arr)) w) : wpList Tryz.prog ops Q (op :: rest) c w :=
  wpList_load_mid hgd 74 x ho b 0 hx m.list _ hc.range Tryz.underlying74 rfl (infoSm m) h
theorem wpList_bsSd {ops : Array Oper} {rest : List Oper} {op : Oper} {a : Act} {w : World} {Q : Exit → Act → World → Prop} {x : Operand} (m : Sm) (hgd : op.guard = none) (ho : op.op = .buildSlice 65 1 #[(0, x)]) (hx : a.eval x = .agg m.arr)
    (h : ∀ W, OSm W w.heap.size m → Below w.heap.size w W → W = w.alloc (.cells m.arr 74) → wpList Tryz.prog ops Q rest (a.put op.dst (.slice (some ⟨w.heap.size, 0, none⟩) 1 1)) W) : wpList Tryz.prog ops Q (op :: rest) a w :=
  wpList_bs1 m.arr hgd ho hx Tryz.underlying65 Tryz.sizeOf74 Tryz.zeroValue74 (Sm.size m) (by decide) (by decide) h
theorem OSm.sl {w : World} {q : Nat} {m : Sm} (h : OSm w q m) (cap : Nat) : SlS w (.slice (some ⟨q, 0, none⟩) 1 cap) [m] := ⟨q, 0, cap, _, rfl, fun _ => rfl, fun j y hy => by
  rcases j with _ | j
  · rw [List.getElem?_cons_zero] at hy
    obtain rfl := Option.some.inj hy
    simpa using OSm.range h
  · simp at hy, fun _ => (Array.getElem?_eq_some_iff.1 h).1⟩
set_option maxHeartbeats 32000000 in
set_option maxRecDepth 100000 in
theorem cVSaid {w : World} {nd : Int} {va : Value} {ls : List Ms} (hnd : 0 ≤ nd ∧ nd ≤ 255) (hs : SlM w va (mgs ls)) (hIn : ∀ m ∈ ls, m.inW w) (hl : ls.length ≤ 9223372036854775807) :
    Calls Tryz.prog 4 #[.int .u8 nd, va] w fun e w' => e = .returned (.bool true) ∧ Below w.heap.size w w' := by
  obtain ⟨n9, hn9⟩ : ∃ n, n = nd.tmod 9 := ⟨_, rfl⟩
  have h9 : 0 ≤ n9 ∧ n9 ≤ 8 := by rw [hn9, Int.tmod_eq_emod_of_nonneg hnd.1]; omega
  have hn9' := hn9.symm
  have hF := cFitsMs hs (fun m hm => (hIn m hm).1) hl
  obtain ⟨ab, ao, acap, aa, rfl, haa, hac1, hab⟩ := hs
  have hlm : (mgs ls).length = ls.length := by unfold mgs; rw [List.length_map]
  rw [hlm] at haa hab hF ⊢
  obtain ⟨m, hm⟩ : ∃ m, m = ls.length := ⟨_, rfl⟩
  rw [← hm] at haa hab hl hF ⊢
  have HN9 := hid h9
  have HIN := hid hIn
  have HM := hid hm
  have HAC := hid hac1
  have HAB := hid hab
  have HAP := hid haa
  have HF := hid hF
  have HW0 := hid (Below.refl w.heap.size w)
  clear hIn hac1 hab haa hm hn9 hF hlm
  go_enter Tryz.func4, Tryz.ntmps4
  go_wp2_with fail
  go_at_call 7
  refine HF.out.mono ?_
  rintro e w1 ⟨hr, hB1⟩
  have HB1 := hid hB1
  clear hB1
  rcases hr with rfl | ⟨rfl, h40, hsh⟩
  · go_wp2_with fail
    go_at_call 8
    refine (cVAlive w1).mono ?_
    rintro e wz ⟨rfl, hBz⟩
    have HBz := hid (HB1.out.trans (hBz.mono HB1.out.size))
    clear hBz
    go_wp2_with fail
    go_ret
    exact ⟨rfl, HBz.out⟩
  have HSH := hid hsh
  have H40 := hid h40
  clear hsh h40
  go_wp2_with fail
  go_at_call 9
  refine (cINew (l := []) (SlG.nil _ _ _) (fun y hy => by simp at hy) (fun y hy => by simp at hy) (by simp) n9 0 (r := 0) (newR_ok HN9.out).symm).mono ?_
  rintro e w2 ⟨hB2, hif⟩
  rw [if_pos rfl] at hif
  obtain ⟨x, b, b2, rfl, hI, hx, hb, hb2⟩ := hif
  have hI' : Ix w2 x b b2 0 n9 0 [] [] := hI
  have hNW := cNewV (B := Bd.mk1 w.heap.size) hI'
  have HB2 := hid (HB1.out.trans (hB2.mono HB1.out.size))
  have HLX := hid (show w.heap.size ≤ x ∧ w.heap.size ≤ b ∧ w.heap.size ≤ b2 by have := HB1.out.size; omega)
  clear hI hI' hx hb hb2 hB2
  go_wp2_with fail
  go_at_call 12
  refine hNW.mono ?_
  rintro e w3 ⟨q, rfl, hq, hV, hB3⟩
  have HB3 := hid (HB2.out.trans (hB3.mono HB2.out.size))
  have HTQ : Hid (∀ k, TV q x b b2 k → w.heap.size ≤ k) := hid (fun k hk => by
    obtain ⟨h1, h2, h3⟩ := HLX.out
    have h4 := HB2.out.size
    rcases hk with rfl | rfl | rfl | rfl <;> omega)
  have HV3 : Hid (Vo w3 (Bd.mk1 w.heap.size) q x b b2 (143 * 0) n9 st0 (.slice none 0 0) []) := hid ⟨⟨0, [], Nat.le_refl _, hV⟩, Nat.le_refl _, fun y hy => absurd hy (by simp), fun y hy => absurd hy (by simp), by decide, fun y hy => absurd hy (by simp), fun y hy => absurd hy (by simp), fun y hy => absurd hy (by simp)⟩
  clear hNW hq hV hB3 HB1 HB2 HLX
  go_wp2_with fail
  go_loopg [10, 11, 12, 13, 14, 15, 16, 17, 18, 19, 20, 21, 22, 23, 24, 25] m (fun gg s10 s11 s12 s13 s14 s15 s16 s17 s18 s19 s20 s21 s22 s23 s24 s25 wr => ∃ (k : Nat) (s : Sd) (ws : List Ms) (wv : Value) (la : Option Addr) (ln lc : Nat) (sl : List Sx), k ≤ m ∧ m - k ≤ gg ∧ s11 = .int .i64 k ∧ s10 = .slice la ln lc ∧ Hid (Vo wr (Bd.mk1 w.heap.size) q x b b2 (143 * k) n9 s wv ws) ∧ Hid (Iv s ws ∧ Uq ws) ∧ Hid (ws.length ≤ k) ∧ Hid (Below w.heap.size w wr) ∧ Hid (Ls wr w.heap.size (.slice la ln lc) sl) ∧ Hid (s.ov = true ∨ SInv s.xs (sl.map Sx.sa)) ∧ Hid (sl.length ≤ 41 * k))
  case atStart => exact ⟨0, st0, [], _, none, 0, 0, [], Nat.zero_le _, by omega, rfl, rfl, HV3, hid ⟨iv0, List.Pairwise.nil⟩, hid (Nat.le_refl _), HB3, hid (Ls.nil _ _), hid (.inr ⟨fun a ha => absurd ha (by simp), fun i hi => absurd hi (by simp [hasE, lookG])⟩), hid (Nat.le_refl _)⟩
  case round =>
    obtain ⟨k, s, ws, wv, la, ln, lc, sl, hk, hgg, rfl, rfl, HV, HIU, HWL, HB, HLS, HSI, HSL⟩ := hrel
    clear HV3 HB3
    by_cases hlt : k < m
    · as_aux_lemma =>
        have hlti : ((k : Int) < m) := by omega
        obtain rfl := HAP.out (by omega)
        obtain ⟨a, ha⟩ : ∃ a, ls[k]? = some a := ⟨ls[k]'(by rw [← HM.out]; exact hlt), List.getElem?_eq_getElem (by rw [← HM.out]; exact hlt)⟩
        have hbw := HAB.out (by omega)
        have HC : Hid (wr.rangeAt ab (ao + k * 20) a.m.list) := hid ((HAC.out.on HB.out fun _ => hbw) k a.m (at_mgs ha))
        have hab : ab < wr.heap.size := Nat.lt_of_lt_of_le hbw HB.out.size
        have HABW := hid hab
        have HAI := hid (HIN.out a (List.mem_of_getElem? ha))
        have HAS := hid (HSH.out a (List.mem_of_getElem? ha))
        clear ha hbw hab
        have HLT : Hid (∀ j, TV q x b b2 j → j < wr.heap.size) := hid HV.out.lt
        have HWT : Hid (∀ j, wv.ownBlock = some j → w.heap.size ≤ j ∧ j < wr.heap.size) := hid (fun j hj => by obtain ⟨n, ids, hn, hv⟩ := HV.out.ix; exact hv.ow.lt j hj)
        have hWc := cWaiting HV.out (by have := HWL.out; have := H40.out; omega)
        have HWC := hid hWc
        clear hWc
        go_upto_region 13 with (first
          | (go_at_call 14; refine HWC.out.mono ?_; rintro e w5 ⟨r13, rfl, ho5, hB5⟩; obtain ⟨a13, c13, n13, rfl, hn13⟩ := OwnG.asSlice ho5; have HO5 := hid ho5; have HN13 := hid (show n13 = ws.length by rw [hn13]; unfold mgs; rw [List.length_map]); have HB5 : Hid (Below wr.heap.size wr w5) := hid hB5; clear ho5 hn13 hB5)
          | fail)
        have HFG : Hid (∀ W, Below w5.heap.size w5 W → W.cell? ⟨q, 0, none⟩ = some (ptr x) ∧ W.cell? ⟨ab, ao + k * 20 + 4, none⟩ = some (.int .i64 a.m.c.i)) := hid fun W hW => ⟨(HV.out.on (HB5.out.trans (hW.mono HB5.out.size))).cell0, ((HB5.out.trans (hW.mono HB5.out.size)).cell HABW.out).trans (HC.out 4 (.int .i64 a.m.c.i) rfl)⟩
        obtain ⟨ev, hev⟩ : ∃ z, z = lookE s.xs a.m.c.i := ⟨_, rfl⟩
        obtain ⟨hs9, hhs⟩ : ∃ z, z = hasE s.xs a.m.c.i := ⟨_, rfl⟩
        have HGC : Hid (∀ W, Below w5.heap.size w5 W → Calls Tryz.prog 21 #[ptr x, .int .i64 a.m.c.i] W fun e w' => e = .returned (.tuple #[.agg ev.arr, .bool hs9]) ∧ Below W.heap.size W w') := hid fun W hW => by rw [hev, hhs]; exact cGetV (HV.out.on (HB5.out.trans (hW.mono HB5.out.size))) HAI.out.2
        have HEV := hid hev
        clear hev hhs
        go_cut [13, 14] from 49 to 182 (fun u13 u14 wx => ∃ p13 : Nat, u13 = .pointer (some ⟨p13, 0, none⟩) ∧ u14 = .bool hs9 ∧ Hid (Below w5.heap.size w5 wx ∧ Ob wx p13 67 ev ∧ w5.heap.size ≤ p13))
        case first =>
          as_aux_lemma =>
            refine rh_start (S := fun W => Below w5.heap.size w5 W) (n := 17) (listed := #[false, false, false, false, false, false, false, false, false, false, false, false, false, false, false, false, false]) (by kernel_rfl) rfl rfl ?_
            have HS0 : Hid (Below w5.heap.size w5 w5.drew) := hid (belowDrew (Below.refl _ w5))
            generalize w5.drew = wd at HS0 ⊢
            refine rh_takeS (i := 0) (o := ?o1) (v := ?v1) (listed' := ?l1) (a' := ?a1) ?hi1 (by kernel_rfl) (by kernel_rfl) (by kernel_rfl) ?hq1 ?hl1 ?hw1 ?hv1 ?ha1 HS0.out ?hh1
            case hi1 => (simp only [List.getElem?_toArray, List.getElem?_cons_zero]; try rfl)
            case hq1 => exact fun _ _ _ h => h
            case hl1 => (simp only [List.setIfInBounds_toArray, List.set_cons_zero]; try rfl)
            case hw1 => rfl
            case hv1 =>
              intro W hW
              obtain ⟨k0, k1⟩ := HFG.out W hW
              go_simp
              try with_reducible rfl
            case ha1 => (simp only [Act.put, List.setIfInBounds_toArray, List.set_cons_succ, List.set_cons_zero]; try rfl)
            refine rh_takeS (i := 1) (o := ?o2) (v := ?v2) (listed' := ?l2) (a' := ?a2) ?hi2 (by kernel_rfl) (by kernel_rfl) (by kernel_rfl) ?hq2 ?hl2 ?hw2 ?hv2 ?ha2 HS0.out ?hh2
            case hi2 => (simp only [List.getElem?_toArray, List.getElem?_cons_succ, List.getElem?_cons_zero]; try rfl)
            case hq2 => exact fun _ _ _ h => h
            case hl2 => (simp only [List.setIfInBounds_toArray, List.set_cons_succ, List.set_cons_zero]; try rfl)
            case hw2 => rfl
            case hv2 =>
              intro W hW
              obtain ⟨k0, k1⟩ := HFG.out W hW
              go_simp
              try with_reducible rfl
            case ha2 => (simp only [Act.put, List.setIfInBounds_toArray, List.set_cons_succ, List.set_cons_zero]; try rfl)
            refine rh_takeS (i := 2) (o := ?o3) (v := ?v3) (listed' := ?l3) (a' := ?a3) ?hi3 (by kernel_rfl) (by kernel_rfl) (by kernel_rfl) ?hq3 ?hl3 ?hw3 ?hv3 ?ha3 HS0.out ?hh3
            case hi3 => (simp only [List.getElem?_toArray, List.getElem?_cons_succ, List.getElem?_cons_zero]; try rfl)
            case hq3 => exact fun _ _ _ h => h
            case hl3 => (simp only [List.setIfInBounds_toArray, List.set_cons_succ, List.set_cons_zero]; try rfl)
            case hw3 => rfl
            case hv3 =>
              intro W hW
              obtain ⟨k0, k1⟩ := HFG.out W hW
              go_simp
              try with_reducible rfl
            case ha3 => (simp only [Act.put, List.setIfInBounds_toArray, List.set_cons_succ, List.set_cons_zero]; try rfl)
            refine rh_takeS (i := 3) (o := ?o4) (v := ?v4) (listed' := ?l4) (a' := ?a4) ?hi4 (by kernel_rfl) (by kernel_rfl) (by kernel_rfl) ?hq4 ?hl4 ?hw4 ?hv4 ?ha4 HS0.out ?hh4
            case hi4 => (simp only [List.getElem?_toArray, List.getElem?_cons_succ, List.getElem?_cons_zero]; try rfl)
            case hq4 => exact fun _ _ _ h => h
            case hl4 => (simp only [List.setIfInBounds_toArray, List.set_cons_succ, List.set_cons_zero]; try rfl)
            case hw4 => rfl
            case hv4 =>
              intro W hW
              obtain ⟨k0, k1⟩ := HFG.out W hW
              go_simp
              try with_reducible rfl
            case ha4 => (simp only [Act.put, List.setIfInBounds_toArray, List.set_cons_succ, List.set_cons_zero]; try rfl)
            refine rh_takeS (i := 4) (o := ?o5) (v := ?v5) (listed' := ?l5) (a' := ?a5) ?hi5 (by kernel_rfl) (by kernel_rfl) (by kernel_rfl) ?hq5 ?hl5 ?hw5 ?hv5 ?ha5 HS0.out ?hh5
            case hi5 => (simp only [List.getElem?_toArray, List.getElem?_cons_succ, List.getElem?_cons_zero]; try rfl)
            case hq5 => exact fun _ _ _ h => h
            case hl5 => (simp only [List.setIfInBounds_toArray, List.set_cons_succ, List.set_cons_zero]; try rfl)
            case hw5 => rfl
            case hv5 =>
              intro W hW
              obtain ⟨k0, k1⟩ := HFG.out W hW
              go_simp
              try with_reducible rfl
            case ha5 => (simp only [Act.put, List.setIfInBounds_toArray, List.set_cons_succ, List.set_cons_zero]; try rfl)
            refine rh_takeS (i := 5) (o := ?o6) (v := ?v6) (listed' := ?l6) (a' := ?a6) ?hi6 (by kernel_rfl) (by kernel_rfl) (by kernel_rfl) ?hq6 ?hl6 ?hw6 ?hv6 ?ha6 HS0.out ?hh6
            case hi6 => (simp only [List.getElem?_toArray, List.getElem?_cons_succ, List.getElem?_cons_zero]; try rfl)
            case hq6 => exact fun _ _ _ h => h
            case hl6 => (simp only [List.setIfInBounds_toArray, List.set_cons_succ, List.set_cons_zero]; try rfl)
            case hw6 => rfl
            case hv6 =>
              intro W hW
              obtain ⟨k0, k1⟩ := HFG.out W hW
              go_simp
              try with_reducible rfl
            case ha6 => (simp only [Act.put, List.setIfInBounds_toArray, List.set_cons_succ, List.set_cons_zero]; try rfl)
            refine rh_takeS (i := 6) (o := ?o7) (v := ?v7) (listed' := ?l7) (a' := ?a7) ?hi7 (by kernel_rfl) (by kernel_rfl) (by kernel_rfl) ?hq7 ?hl7 ?hw7 ?hv7 ?ha7 HS0.out ?hh7
            case hi7 => (simp only [List.getElem?_toArray, List.getElem?_cons_succ, List.getElem?_cons_zero]; try rfl)
            case hq7 => exact fun _ _ _ h => h
            case hl7 => (simp only [List.setIfInBounds_toArray, List.set_cons_succ, List.set_cons_zero]; try rfl)
            case hw7 => rfl
            case hv7 =>
              intro W hW
              obtain ⟨k0, k1⟩ := HFG.out W hW
              go_simp
              try with_reducible rfl
            case ha7 => (simp only [Act.put, List.setIfInBounds_toArray, List.set_cons_succ, List.set_cons_zero]; try rfl)
            refine rh_takeS (i := 7) (o := ?o8) (v := ?v8) (listed' := ?l8) (a' := ?a8) ?hi8 (by kernel_rfl) (by kernel_rfl) (by kernel_rfl) ?hq8 ?hl8 ?hw8 ?hv8 ?ha8 HS0.out ?hh8
            case hi8 => (simp only [List.getElem?_toArray, List.getElem?_cons_succ, List.getElem?_cons_zero]; try rfl)
            case hq8 => exact fun _ _ _ h => h
            case hl8 => (simp only [List.setIfInBounds_toArray, List.set_cons_succ, List.set_cons_zero]; try rfl)
            case hw8 => rfl
            case hv8 =>
              intro W hW
              obtain ⟨k0, k1⟩ := HFG.out W hW
              go_simp
              try with_reducible rfl
            case ha8 => (simp only [Act.put, List.setIfInBounds_toArray, List.set_cons_succ, List.set_cons_zero]; try rfl)
            refine rh_takeS (i := 8) (o := ?o9) (v := ?v9) (listed' := ?l9) (a' := ?a9) ?hi9 (by kernel_rfl) (by kernel_rfl) (by kernel_rfl) ?hq9 ?hl9 ?hw9 ?hv9 ?ha9 HS0.out ?hh9
            case hi9 => (simp only [List.getElem?_toArray, List.getElem?_cons_succ, List.getElem?_cons_zero]; try rfl)
            case hq9 => exact fun _ _ _ h => h
            case hl9 => (simp only [List.setIfInBounds_toArray, List.set_cons_succ, List.set_cons_zero]; try rfl)
            case hw9 => rfl
            case hv9 =>
              intro W hW
              obtain ⟨k0, k1⟩ := HFG.out W hW
              go_simp
              try with_reducible rfl
            case ha9 => (simp only [Act.put, List.setIfInBounds_toArray, List.set_cons_succ, List.set_cons_zero]; try rfl)
            refine rh_takeS (i := 9) (o := ?o10) (v := ?v10) (listed' := ?l10) (a' := ?a10) ?hi10 (by kernel_rfl) (by kernel_rfl) (by kernel_rfl) ?hq10 ?hl10 ?hw10 ?hv10 ?ha10 HS0.out ?hh10
            case hi10 => (simp only [List.getElem?_toArray, List.getElem?_cons_succ, List.getElem?_cons_zero]; try rfl)
            case hq10 => exact fun _ _ _ h => h
            case hl10 => (simp only [List.setIfInBounds_toArray, List.set_cons_succ, List.set_cons_zero]; try rfl)
            case hw10 => rfl
            case hv10 =>
              intro W hW
              obtain ⟨k0, k1⟩ := HFG.out W hW
              go_simp
              try with_reducible rfl
            case ha10 => (simp only [Act.put, List.setIfInBounds_toArray, List.set_cons_succ, List.set_cons_zero]; try rfl)
            refine wpAnyH_ready (rs := [10, 14]) (by kernel_rfl) (by simp) ?_
            refine rh_consW (i := 10) (o := ?o11) (listed' := ?l11) ?hi11 ?hl11 ?hg11 ?hh11 ?hs11
            case hi11 => (simp only [List.getElem?_toArray, List.getElem?_cons_succ, List.getElem?_cons_zero]; try rfl)
            case hl11 => (simp only [List.setIfInBounds_toArray, List.set_cons_succ, List.set_cons_zero]; try rfl)
            case hg11 => rfl
            case hh11 =>
              intro K hK
              go_simp
              refine (HGC.out _ HS0.out).mono ?_
              rintro z wa1 ⟨rfl, hB⟩
              have HS1 := hid (HS0.out.trans (hB.mono HS0.out.size))
              refine hK.out _ _ HS1.out ?_
              clear hK K
              refine rh_takeS (i := 11) (o := ?o12) (v := ?v12) (listed' := ?l12) (a' := ?a12) ?hi12 (by kernel_rfl) (by kernel_rfl) (by kernel_rfl) ?hq12 ?hl12 ?hw12 ?hv12 ?ha12 HS1.out ?hh12
              case hi12 => (simp only [List.getElem?_toArray, List.getElem?_cons_succ, List.getElem?_cons_zero]; try rfl)
              case hq12 => exact fun _ _ _ h => h
              case hl12 => (simp only [List.setIfInBounds_toArray, List.set_cons_succ, List.set_cons_zero]; try rfl)
              case hw12 => rfl
              case hv12 =>
                intro W hW
                skip
                go_simp
                try with_reducible rfl
              case ha12 => (simp only [Act.put, List.setIfInBounds_toArray, List.set_cons_succ, List.set_cons_zero]; try rfl)
              refine rh_takeS (i := 12) (o := ?o13) (v := ?v13) (listed' := ?l13) (a' := ?a13) ?hi13 (by kernel_rfl) (by kernel_rfl) (by kernel_rfl) ?hq13 ?hl13 ?hw13 ?hv13 ?ha13 HS1.out ?hh13
              case hi13 => (simp only [List.getElem?_toArray, List.getElem?_cons_succ, List.getElem?_cons_zero]; try rfl)
              case hq13 => exact fun _ _ _ h => h
              case hl13 => (simp only [List.setIfInBounds_toArray, List.set_cons_succ, List.set_cons_zero]; try rfl)
              case hw13 => rfl
              case hv13 =>
                intro W hW
                skip
                go_simp
                try with_reducible rfl
              case ha13 => (simp only [Act.put, List.setIfInBounds_toArray, List.set_cons_succ, List.set_cons_zero]; try rfl)
              refine rh_takeS (i := 13) (o := ?o14) (v := ?v14) (listed' := ?l14) (a' := ?a14) ?hi14 (by kernel_rfl) (by kernel_rfl) (by kernel_rfl) ?hq14 ?hl14 ?hw14 ?hv14 ?ha14 HS1.out ?hh14
              case hi14 => (simp only [List.getElem?_toArray, List.getElem?_cons_succ, List.getElem?_cons_zero]; try rfl)
              case hq14 => exact fun _ _ _ h => h
              case hl14 => (simp only [List.setIfInBounds_toArray, List.set_cons_succ, List.set_cons_zero]; try rfl)
              case hw14 => rfl
              case hv14 =>
                intro W hW
                skip
                go_simp
                try with_reducible rfl
              case ha14 => (simp only [Act.put, List.setIfInBounds_toArray, List.set_cons_succ, List.set_cons_zero]; try rfl)
              refine wpAnyH_ready (rs := [14]) (by kernel_rfl) (by simp) ?_
              refine rh_cons (i := 14) (o := ?o15) (listed' := ?l15) ?hi15 ?hl15 ?hg15 ?hh15 ?hs15
              case hi15 => (simp only [List.getElem?_toArray, List.getElem?_cons_succ, List.getElem?_cons_zero]; try rfl)
              case hl15 => (simp only [List.setIfInBounds_toArray, List.set_cons_succ, List.set_cons_zero]; try rfl)
              case hg15 => rfl
              case hs15 => exact AllReadyH.nil
              intro K hK
              go_simp
              have HS2 : Hid (Below w5.heap.size w5 (wa1.alloc zeroEc)) := hid (HS1.out.trans ((laid1_b wa1 zeroEc).mono HS1.out.size))
              have HZ2 : Hid ((wa1.alloc zeroEc).heap[wa1.heap.size]? = some zeroEc) := hid (laid1_0 wa1 zeroEc)
              have HLB2 : Hid (w5.heap.size ≤ wa1.heap.size) := hid HS1.out.size
              refine hK.out _ _ HS2.out ?_
              clear hK K
              refine wpAnyH_ready (rs := [15]) (by kernel_rfl) (by simp) ?_
              refine rh_storeN (i := 15) (o := ?o16) (listed' := ?l16) (x := ?x16) (y := ?y16) (b := wa1.heap.size) (T := 67) (ev).arr (infoEc' (ev)) (Ev.one (ev)) ?hi16 ?hl16 ?hg16 ?ho16 ?hx16 ?hy16 ?hd16 HZ2.out (by rw [Ev.size]; rfl) ?hh16 ?hs16
              case hi16 => (simp only [List.getElem?_toArray, List.getElem?_cons_succ, List.getElem?_cons_zero]; try rfl)
              case hl16 => (simp only [List.setIfInBounds_toArray, List.set_cons_succ, List.set_cons_zero]; try rfl)
              case hg16 => rfl
              case ho16 => rfl
              case hx16 => rfl
              case hy16 => rfl
              case hd16 => rfl
              case hs16 => exact AllReadyH.nil
              intro wq hO hU
              have HSq := hid (HS2.out.trans (hU.below _ HLB2.out))
              refine ⟨HSq.out, ?_⟩
              refine rh_takeS (i := 16) (o := ?o17) (v := ?v17) (listed' := ?l17) (a' := ?a17) ?hi17 (by kernel_rfl) (by kernel_rfl) (by kernel_rfl) ?hq17 ?hl17 ?hw17 ?hv17 ?ha17 HSq.out ?hh17
              case hi17 => (simp only [List.getElem?_toArray, List.getElem?_cons_succ, List.getElem?_cons_zero]; try rfl)
              case hq17 => exact fun _ _ _ h => h
              case hl17 => (simp only [List.setIfInBounds_toArray, List.set_cons_succ, List.set_cons_zero]; try rfl)
              case hw17 => rfl
              case hv17 =>
                intro W hW
                skip
                go_simp
                try with_reducible rfl
              case ha17 => (simp only [Act.put, List.setIfInBounds_toArray, List.set_cons_succ, List.set_cons_zero]; try rfl)
              refine wpAnyH_done (by kernel_rfl) ?_ _
              go_wp2_with fail
              go_meet
              exact ⟨_, rfl, rfl, hid ⟨HSq.out, hO, HLB2.out⟩⟩
            refine rh_cons (i := 14) (o := ?o18) (listed' := ?l18) ?hi18 ?hl18 ?hg18 ?hh18 ?hs18
            case hi18 => (simp only [List.getElem?_toArray, List.getElem?_cons_succ, List.getElem?_cons_zero]; try rfl)
            case hl18 => (simp only [List.setIfInBounds_toArray, List.set_cons_succ, List.set_cons_zero]; try rfl)
            case hg18 => rfl
            case hs18 => exact AllReadyH.nil
            intro K hK
            go_simp
            have HS3 : Hid (Below w5.heap.size w5 (wd.alloc zeroEc)) := hid (HS0.out.trans ((laid1_b wd zeroEc).mono HS0.out.size))
            have HZ3 : Hid ((wd.alloc zeroEc).heap[wd.heap.size]? = some zeroEc) := hid (laid1_0 wd zeroEc)
            have HLB3 : Hid (w5.heap.size ≤ wd.heap.size) := hid HS0.out.size
            refine hK.out _ _ HS3.out ?_
            clear hK K
            refine wpAnyH_ready (rs := [10]) (by kernel_rfl) (by simp) ?_
            refine rh_cons (i := 10) (o := ?o19) (listed' := ?l19) ?hi19 ?hl19 ?hg19 ?hh19 ?hs19
            case hi19 => (simp only [List.getElem?_toArray, List.getElem?_cons_succ, List.getElem?_cons_zero]; try rfl)
            case hl19 => (simp only [List.setIfInBounds_toArray, List.set_cons_succ, List.set_cons_zero]; try rfl)
            case hg19 => rfl
            case hs19 => exact AllReadyH.nil
            intro K hK
            go_simp
            refine (HGC.out _ HS3.out).mono ?_
            rintro z wa4 ⟨rfl, hB⟩
            have HS4 := hid (HS3.out.trans (hB.mono HS3.out.size))
            have HZ4 := hid (heapB HZ3.out hB (by simp))
            refine hK.out _ _ HS4.out ?_
            clear hK K
            refine rh_takeS (i := 11) (o := ?o20) (v := ?v20) (listed' := ?l20) (a' := ?a20) ?hi20 (by kernel_rfl) (by kernel_rfl) (by kernel_rfl) ?hq20 ?hl20 ?hw20 ?hv20 ?ha20 HS4.out ?hh20
            case hi20 => (simp only [List.getElem?_toArray, List.getElem?_cons_succ, List.getElem?_cons_zero]; try rfl)
            case hq20 => exact fun _ _ _ h => h
            case hl20 => (simp only [List.setIfInBounds_toArray, List.set_cons_succ, List.set_cons_zero]; try rfl)
            case hw20 => rfl
            case hv20 =>
              intro W hW
              skip
              go_simp
              try with_reducible rfl
            case ha20 => (simp only [Act.put, List.setIfInBounds_toArray, List.set_cons_succ, List.set_cons_zero]; try rfl)
            refine rh_takeS (i := 12) (o := ?o21) (v := ?v21) (listed' := ?l21) (a' := ?a21) ?hi21 (by kernel_rfl) (by kernel_rfl) (by kernel_rfl) ?hq21 ?hl21 ?hw21 ?hv21 ?ha21 HS4.out ?hh21
            case hi21 => (simp only [List.getElem?_toArray, List.getElem?_cons_succ, List.getElem?_cons_zero]; try rfl)
            case hq21 => exact fun _ _ _ h => h
            case hl21 => (simp only [List.setIfInBounds_toArray, List.set_cons_succ, List.set_cons_zero]; try rfl)
            case hw21 => rfl
            case hv21 =>
              intro W hW
              skip
              go_simp
              try with_reducible rfl
            case ha21 => (simp only [Act.put, List.setIfInBounds_toArray, List.set_cons_succ, List.set_cons_zero]; try rfl)
            refine rh_takeS (i := 13) (o := ?o22) (v := ?v22) (listed' := ?l22) (a' := ?a22) ?hi22 (by kernel_rfl) (by kernel_rfl) (by kernel_rfl) ?hq22 ?hl22 ?hw22 ?hv22 ?ha22 HS4.out ?hh22
            case hi22 => (simp only [List.getElem?_toArray, List.getElem?_cons_succ, List.getElem?_cons_zero]; try rfl)
            case hq22 => exact fun _ _ _ h => h
            case hl22 => (simp only [List.setIfInBounds_toArray, List.set_cons_succ, List.set_cons_zero]; try rfl)
            case hw22 => rfl
            case hv22 =>
              intro W hW
              skip
              go_simp
              try with_reducible rfl
            case ha22 => (simp only [Act.put, List.setIfInBounds_toArray, List.set_cons_succ, List.set_cons_zero]; try rfl)
            refine wpAnyH_ready (rs := [15]) (by kernel_rfl) (by simp) ?_
            refine rh_storeN (i := 15) (o := ?o23) (listed' := ?l23) (x := ?x23) (y := ?y23) (b := wd.heap.size) (T := 67) (ev).arr (infoEc' (ev)) (Ev.one (ev)) ?hi23 ?hl23 ?hg23 ?ho23 ?hx23 ?hy23 ?hd23 HZ4.out (by rw [Ev.size]; rfl) ?hh23 ?hs23
            case hi23 => (simp only [List.getElem?_toArray, List.getElem?_cons_succ, List.getElem?_cons_zero]; try rfl)
            case hl23 => (simp only [List.setIfInBounds_toArray, List.set_cons_succ, List.set_cons_zero]; try rfl)
            case hg23 => rfl
            case ho23 => rfl
            case hx23 => rfl
            case hy23 => rfl
            case hd23 => rfl
            case hs23 => exact AllReadyH.nil
            intro wq hO hU
            have HSq := hid (HS4.out.trans (hU.below _ HLB3.out))
            refine ⟨HSq.out, ?_⟩
            refine rh_takeS (i := 16) (o := ?o24) (v := ?v24) (listed' := ?l24) (a' := ?a24) ?hi24 (by kernel_rfl) (by kernel_rfl) (by kernel_rfl) ?hq24 ?hl24 ?hw24 ?hv24 ?ha24 HSq.out ?hh24
            case hi24 => (simp only [List.getElem?_toArray, List.getElem?_cons_succ, List.getElem?_cons_zero]; try rfl)
            case hq24 => exact fun _ _ _ h => h
            case hl24 => (simp only [List.setIfInBounds_toArray, List.set_cons_succ, List.set_cons_zero]; try rfl)
            case hw24 => rfl
            case hv24 =>
              intro W hW
              skip
              go_simp
              try with_reducible rfl
            case ha24 => (simp only [Act.put, List.setIfInBounds_toArray, List.set_cons_succ, List.set_cons_zero]; try rfl)
            refine wpAnyH_done (by kernel_rfl) ?_ _
            go_wp2_with fail
            go_meet
            exact ⟨_, rfl, rfl, hid ⟨HSq.out, hO, HLB3.out⟩⟩
        obtain ⟨p13, rfl, rfl, HH⟩ := hcut
        have HBC := hid (HB5.out.trans (HH.out.1.mono HB5.out.size))
        have HE13 := hid HH.out.2.1
        have HP13 := hid HH.out.2.2
        have HOC := hid (OwnG.on HO5.out HH.out.1)
        clear HH HFG HGC HWC
        have HCC : Hid (wc.rangeAt ab (ao + k * 20) a.m.list) := hid (fun i u hu => (HBC.out.cell HABW.out).trans (HC.out i u hu))
        have hA4 : a.short 900 := ⟨by have := HAS.out.1; omega, by have := HAS.out.2.1; omega, by have := HAS.out.2.2; omega⟩
        have hA5 : a.short 1024 := ⟨by have := HAS.out.1; omega, by have := HAS.out.2.1; omega, by have := HAS.out.2.2; omega⟩
        have HVC := hid (HV.out.on HBC.out)
        have hH := cHandle (m := a) HVC.out (by have := HAS.out.1; have := HWL.out; have := H40.out; omega) HIU.out.1.gd HIU.out.1.wt (Nat.le_trans HB.out.size HBC.out.size) (by have := HWL.out; have := H40.out; omega) (HAI.out.1.on (HB.out.trans (HBC.out.mono HB.out.size))) hA4 HAI.out.1.lowB
        have hSS := handle_s (nd := n9) (l := sl.map Sx.sa) HIU.out.1 HIU.out.2 hA5 HSI.out
        have hPN := handle_p (nd := n9) HIU.out.1 hA5
        have hln := handle_len n9 s ws a
        have han := handle_alen n9 s ws a
        have hvl := handle_vl (nd := n9) (s := s) (ws := ws) (m := a)
        have hpr := handle_pr (nd := n9) HIU.out.1 hA5 a.m.c.i
        have hsm := (fun (o : Ms) ho => (keep_sum (nd := n9) (o := o) HIU.out.1 hA5 ho).1)
        obtain ⟨r, hr⟩ : ∃ r, r = handleF n9 s ws a := ⟨_, rfl⟩
        rw [← hr] at hH hSS hPN hln han hvl hpr hsm
        have HSM := hid hsm
        clear hsm
        have HHC := hid hH
        have HSS := hid hSS
        have HPN := hid hPN
        have HLN := hid hln
        have HAN := hid han
        have HVL := hid hvl
        have HPR := hid hpr
        clear hH hSS hPN hln han hvl hpr hr hA4 hA5
        go_upto_region 15 with (first
          | ((with_reducible refine loadMl (x := ?lx25) (b := ?lb25) (o := ?lo25) a.m ?lg25 ?lp25 ?lxx25 ?lc25 ?_); (case lg25 => rfl); (case lp25 => rfl); (case lxx25 => rfl); (case lc25 => exact HCC.out))
          | (go_at_call 13; refine HHC.out.mono ?_; intro e w6 hF6; have HF6 := hid hF6; obtain ⟨v14, os, wv6, rfl, hs6, hsh6, hat6, han6, hV6, hT6, hf6, hc6⟩ := hF6; obtain ⟨a14, c14, n14, rfl, hn14⟩ := slice_of hsh6; have HSH6 := hid hsh6; have HS6 := hid hs6; have HN14 := hid hn14; have HAN6 := hid han6; have HAT6 := hid hat6; have HV6 := hid hV6; have HT6 := hid hT6; have HMT6 := hid hc6.2; clear hs6 hsh6 hat6 han6 hV6 hT6 hf6 hc6 hn14)
          | fail)
        have hn40 : n14 ≤ 41 := by rw [HN14.out, ← List.length_map (f := Ms.an), HAN6.out]; have := HAN.out; have := HWL.out; have := H40.out; omega
        have hw40 : n13 ≤ 40 := by rw [HN13.out]; have := HWL.out; have := H40.out; omega
        have HLS6 := hid ((HLS.out.on HBC.out).voter HVC.out HT6.out)
        have HE6 : Hid (Ob w6 p13 67 ev) := hid (HF6.out.beside HVC.out HE13.out (fun j hj => by have := HLT.out j hj; have := HP13.out; have := HB5.out.size; omega) (fun j hj => by have := (HWT.out j hj).2; have := HP13.out; have := HB5.out.size; omega))
        have HO6 : Hid (OwnM w6 wr.heap.size (.slice a13 n13 c13) (mgs ws)) := hid (own_tch HOC.out HT6.out fun k hk hs => by
          have h1 := (HOC.out.lt k hk).1
          rcases hs with hs | hs
          · have := HLT.out k hs; omega
          · have := (HWT.out k hs).2; omega)
        have HBr6 : Hid (Below w.heap.size wr w6) := hid ((HBC.out.mono HB.out.size).trans (HT6.out.below (fun k hk => by rcases hk with hk | hk; exact HTQ.out k hk; exact (HWT.out k hk).1) (Nat.le_trans HB.out.size HBC.out.size)))
        have HB6 : Hid (Below w.heap.size w w6) := hid ((HB.out.trans (HBC.out.mono HB.out.size)).trans (HT6.out.below (fun k hk => by rcases hk with hk | hk; exact HTQ.out k hk; exact (HWT.out k hk).1) (Nat.le_trans HB.out.size HBC.out.size)))
        have HABw : Hid (ab < w.heap.size) := hid (HAB.out (by omega))
        have HC6 : Hid (w6.rangeAt ab (ao + k * 20) a.m.list) := hid (fun i u hu => (HB6.out.cell HABw.out).trans ((HB.out.cell HABw.out).symm.trans (HC.out i u hu)))
        have HFG : Hid (∀ W, Below w6.heap.size w6 W → W.cell? ⟨q, 0, none⟩ = some (ptr x) ∧ W.cell? ⟨ab, ao + k * 20 + 4, none⟩ = some (.int .i64 a.m.c.i)) := hid fun W hW => ⟨(HV6.out.on hW).cell0, (hW.cell (Nat.lt_of_lt_of_le HABw.out HB6.out.size)).trans (HC6.out 4 (.int .i64 a.m.c.i) rfl)⟩
        obtain ⟨ev2, hev⟩ : ∃ z, z = lookE r.1.xs a.m.c.i := ⟨_, rfl⟩
        obtain ⟨hs8, hhs⟩ : ∃ z, z = hasE r.1.xs a.m.c.i := ⟨_, rfl⟩
        have HGC : Hid (∀ W, Below w6.heap.size w6 W → Calls Tryz.prog 21 #[ptr x, .int .i64 a.m.c.i] W fun e w' => e = .returned (.tuple #[.agg ev2.arr, .bool hs8]) ∧ Below W.heap.size W w') := hid fun W hW => by rw [hev, hhs]; exact cGetV (HV6.out.on hW) HAI.out.2
        have HEV2 := hid hev
        clear hev hhs HHC HF6 HE13 HOC HCC HO5 HB5
        go_cut [16, 17] from 49 to 182 (fun u16 u17 wx => ∃ p16 : Nat, u16 = .pointer (some ⟨p16, 0, none⟩) ∧ u17 = .bool hs8 ∧ Hid (Below w6.heap.size w6 wx ∧ Ob wx p16 67 ev2))
        case first =>
          as_aux_lemma =>
            refine rh_start (S := fun W => Below w6.heap.size w6 W) (n := 17) (listed := #[false, false, false, false, false, false, false, false, false, false, false, false, false, false, false, false, false]) (by kernel_rfl) rfl rfl ?_
            have HS0 : Hid (Below w6.heap.size w6 w6.drew) := hid (belowDrew (Below.refl _ w6))
            generalize w6.drew = wd at HS0 ⊢
            refine rh_takeS (i := 0) (o := ?o26) (v := ?v26) (listed' := ?l26) (a' := ?a26) ?hi26 (by kernel_rfl) (by kernel_rfl) (by kernel_rfl) ?hq26 ?hl26 ?hw26 ?hv26 ?ha26 HS0.out ?hh26
            case hi26 => (simp only [List.getElem?_toArray, List.getElem?_cons_zero]; try rfl)
            case hq26 => exact fun _ _ _ h => h
            case hl26 => (simp only [List.setIfInBounds_toArray, List.set_cons_zero]; try rfl)
            case hw26 => rfl
            case hv26 =>
              intro W hW
              obtain ⟨k0, k1⟩ := HFG.out W hW
              go_simp
              try with_reducible rfl
            case ha26 => (simp only [Act.put, List.setIfInBounds_toArray, List.set_cons_succ, List.set_cons_zero]; try rfl)
            refine rh_takeS (i := 1) (o := ?o27) (v := ?v27) (listed' := ?l27) (a' := ?a27) ?hi27 (by kernel_rfl) (by kernel_rfl) (by kernel_rfl) ?hq27 ?hl27 ?hw27 ?hv27 ?ha27 HS0.out ?hh27
            case hi27 => (simp only [List.getElem?_toArray, List.getElem?_cons_succ, List.getElem?_cons_zero]; try rfl)
            case hq27 => exact fun _ _ _ h => h
            case hl27 => (simp only [List.setIfInBounds_toArray, List.set_cons_succ, List.set_cons_zero]; try rfl)
            case hw27 => rfl
            case hv27 =>
              intro W hW
              obtain ⟨k0, k1⟩ := HFG.out W hW
              go_simp
              try with_reducible rfl
            case ha27 => (simp only [Act.put, List.setIfInBounds_toArray, List.set_cons_succ, List.set_cons_zero]; try rfl)
            refine rh_takeS (i := 2) (o := ?o28) (v := ?v28) (listed' := ?l28) (a' := ?a28) ?hi28 (by kernel_rfl) (by kernel_rfl) (by kernel_rfl) ?hq28 ?hl28 ?hw28 ?hv28 ?ha28 HS0.out ?hh28
            case hi28 => (simp only [List.getElem?_toArray, List.getElem?_cons_succ, List.getElem?_cons_zero]; try rfl)
            case hq28 => exact fun _ _ _ h => h
            case hl28 => (simp only [List.setIfInBounds_toArray, List.set_cons_succ, List.set_cons_zero]; try rfl)
            case hw28 => rfl
            case hv28 =>
              intro W hW
              obtain ⟨k0, k1⟩ := HFG.out W hW
              go_simp
              try with_reducible rfl
            case ha28 => (simp only [Act.put, List.setIfInBounds_toArray, List.set_cons_succ, List.set_cons_zero]; try rfl)
            refine rh_takeS (i := 3) (o := ?o29) (v := ?v29) (listed' := ?l29) (a' := ?a29) ?hi29 (by kernel_rfl) (by kernel_rfl) (by kernel_rfl) ?hq29 ?hl29 ?hw29 ?hv29 ?ha29 HS0.out ?hh29
            case hi29 => (simp only [List.getElem?_toArray, List.getElem?_cons_succ, List.getElem?_cons_zero]; try rfl)
            case hq29 => exact fun _ _ _ h => h
            case hl29 => (simp only [List.setIfInBounds_toArray, List.set_cons_succ, List.set_cons_zero]; try rfl)
            case hw29 => rfl
            case hv29 =>
              intro W hW
              obtain ⟨k0, k1⟩ := HFG.out W hW
              go_simp
              try with_reducible rfl
            case ha29 => (simp only [Act.put, List.setIfInBounds_toArray, List.set_cons_succ, List.set_cons_zero]; try rfl)
            refine rh_takeS (i := 4) (o := ?o30) (v := ?v30) (listed' := ?l30) (a' := ?a30) ?hi30 (by kernel_rfl) (by kernel_rfl) (by kernel_rfl) ?hq30 ?hl30 ?hw30 ?hv30 ?ha30 HS0.out ?hh30
            case hi30 => (simp only [List.getElem?_toArray, List.getElem?_cons_succ, List.getElem?_cons_zero]; try rfl)
            case hq30 => exact fun _ _ _ h => h
            case hl30 => (simp only [List.setIfInBounds_toArray, List.set_cons_succ, List.set_cons_zero]; try rfl)
            case hw30 => rfl
            case hv30 =>
              intro W hW
              obtain ⟨k0, k1⟩ := HFG.out W hW
              go_simp
              try with_reducible rfl
            case ha30 => (simp only [Act.put, List.setIfInBounds_toArray, List.set_cons_succ, List.set_cons_zero]; try rfl)
            refine rh_takeS (i := 5) (o := ?o31) (v := ?v31) (listed' := ?l31) (a' := ?a31) ?hi31 (by kernel_rfl) (by kernel_rfl) (by kernel_rfl) ?hq31 ?hl31 ?hw31 ?hv31 ?ha31 HS0.out ?hh31
            case hi31 => (simp only [List.getElem?_toArray, List.getElem?_cons_succ, List.getElem?_cons_zero]; try rfl)
            case hq31 => exact fun _ _ _ h => h
            case hl31 => (simp only [List.setIfInBounds_toArray, List.set_cons_succ, List.set_cons_zero]; try rfl)
            case hw31 => rfl
            case hv31 =>
              intro W hW
              obtain ⟨k0, k1⟩ := HFG.out W hW
              go_simp
              try with_reducible rfl
            case ha31 => (simp only [Act.put, List.setIfInBounds_toArray, List.set_cons_succ, List.set_cons_zero]; try rfl)
            refine rh_takeS (i := 6) (o := ?o32) (v := ?v32) (listed' := ?l32) (a' := ?a32) ?hi32 (by kernel_rfl) (by kernel_rfl) (by kernel_rfl) ?hq32 ?hl32 ?hw32 ?hv32 ?ha32 HS0.out ?hh32
            case hi32 => (simp only [List.getElem?_toArray, List.getElem?_cons_succ, List.getElem?_cons_zero]; try rfl)
            case hq32 => exact fun _ _ _ h => h
            case hl32 => (simp only [List.setIfInBounds_toArray, List.set_cons_succ, List.set_cons_zero]; try rfl)
            case hw32 => rfl
            case hv32 =>
              intro W hW
              obtain ⟨k0, k1⟩ := HFG.out W hW
              go_simp
              try with_reducible rfl
            case ha32 => (simp only [Act.put, List.setIfInBounds_toArray, List.set_cons_succ, List.set_cons_zero]; try rfl)
            refine rh_takeS (i := 7) (o := ?o33) (v := ?v33) (listed' := ?l33) (a' := ?a33) ?hi33 (by kernel_rfl) (by kernel_rfl) (by kernel_rfl) ?hq33 ?hl33 ?hw33 ?hv33 ?ha33 HS0.out ?hh33
            case hi33 => (simp only [List.getElem?_toArray, List.getElem?_cons_succ, List.getElem?_cons_zero]; try rfl)
            case hq33 => exact fun _ _ _ h => h
            case hl33 => (simp only [List.setIfInBounds_toArray, List.set_cons_succ, List.set_cons_zero]; try rfl)
            case hw33 => rfl
            case hv33 =>
              intro W hW
              obtain ⟨k0, k1⟩ := HFG.out W hW
              go_simp
              try with_reducible rfl
            case ha33 => (simp only [Act.put, List.setIfInBounds_toArray, List.set_cons_succ, List.set_cons_zero]; try rfl)
            refine rh_takeS (i := 8) (o := ?o34) (v := ?v34) (listed' := ?l34) (a' := ?a34) ?hi34 (by kernel_rfl) (by kernel_rfl) (by kernel_rfl) ?hq34 ?hl34 ?hw34 ?hv34 ?ha34 HS0.out ?hh34
            case hi34 => (simp only [List.getElem?_toArray, List.getElem?_cons_succ, List.getElem?_cons_zero]; try rfl)
            case hq34 => exact fun _ _ _ h => h
            case hl34 => (simp only [List.setIfInBounds_toArray, List.set_cons_succ, List.set_cons_zero]; try rfl)
            case hw34 => rfl
            case hv34 =>
              intro W hW
              obtain ⟨k0, k1⟩ := HFG.out W hW
              go_simp
              try with_reducible rfl
            case ha34 => (simp only [Act.put, List.setIfInBounds_toArray, List.set_cons_succ, List.set_cons_zero]; try rfl)
            refine rh_takeS (i := 9) (o := ?o35) (v := ?v35) (listed' := ?l35) (a' := ?a35) ?hi35 (by kernel_rfl) (by kernel_rfl) (by kernel_rfl) ?hq35 ?hl35 ?hw35 ?hv35 ?ha35 HS0.out ?hh35
            case hi35 => (simp only [List.getElem?_toArray, List.getElem?_cons_succ, List.getElem?_cons_zero]; try rfl)
            case hq35 => exact fun _ _ _ h => h
            case hl35 => (simp only [List.setIfInBounds_toArray, List.set_cons_succ, List.set_cons_zero]; try rfl)
            case hw35 => rfl
            case hv35 =>
              intro W hW
              obtain ⟨k0, k1⟩ := HFG.out W hW
              go_simp
              try with_reducible rfl
            case ha35 => (simp only [Act.put, List.setIfInBounds_toArray, List.set_cons_succ, List.set_cons_zero]; try rfl)
            refine wpAnyH_ready (rs := [10, 14]) (by kernel_rfl) (by simp) ?_
            refine rh_consW (i := 10) (o := ?o36) (listed' := ?l36) ?hi36 ?hl36 ?hg36 ?hh36 ?hs36
            case hi36 => (simp only [List.getElem?_toArray, List.getElem?_cons_succ, List.getElem?_cons_zero]; try rfl)
            case hl36 => (simp only [List.setIfInBounds_toArray, List.set_cons_succ, List.set_cons_zero]; try rfl)
            case hg36 => rfl
            case hh36 =>
              intro K hK
              go_simp
              refine (HGC.out _ HS0.out).mono ?_
              rintro z wa1 ⟨rfl, hB⟩
              have HS1 := hid (HS0.out.trans (hB.mono HS0.out.size))
              refine hK.out _ _ HS1.out ?_
              clear hK K
              refine rh_takeS (i := 11) (o := ?o37) (v := ?v37) (listed' := ?l37) (a' := ?a37) ?hi37 (by kernel_rfl) (by kernel_rfl) (by kernel_rfl) ?hq37 ?hl37 ?hw37 ?hv37 ?ha37 HS1.out ?hh37
              case hi37 => (simp only [List.getElem?_toArray, List.getElem?_cons_succ, List.getElem?_cons_zero]; try rfl)
              case hq37 => exact fun _ _ _ h => h
              case hl37 => (simp only [List.setIfInBounds_toArray, List.set_cons_succ, List.set_cons_zero]; try rfl)
              case hw37 => rfl
              case hv37 =>
                intro W hW
                skip
                go_simp
                try with_reducible rfl
              case ha37 => (simp only [Act.put, List.setIfInBounds_toArray, List.set_cons_succ, List.set_cons_zero]; try rfl)
              refine rh_takeS (i := 12) (o := ?o38) (v := ?v38) (listed' := ?l38) (a' := ?a38) ?hi38 (by kernel_rfl) (by kernel_rfl) (by kernel_rfl) ?hq38 ?hl38 ?hw38 ?hv38 ?ha38 HS1.out ?hh38
              case hi38 => (simp only [List.getElem?_toArray, List.getElem?_cons_succ, List.getElem?_cons_zero]; try rfl)
              case hq38 => exact fun _ _ _ h => h
              case hl38 => (simp only [List.setIfInBounds_toArray, List.set_cons_succ, List.set_cons_zero]; try rfl)
              case hw38 => rfl
              case hv38 =>
                intro W hW
                skip
                go_simp
                try with_reducible rfl
              case ha38 => (simp only [Act.put, List.setIfInBounds_toArray, List.set_cons_succ, List.set_cons_zero]; try rfl)
              refine rh_takeS (i := 13) (o := ?o39) (v := ?v39) (listed' := ?l39) (a' := ?a39) ?hi39 (by kernel_rfl) (by kernel_rfl) (by kernel_rfl) ?hq39 ?hl39 ?hw39 ?hv39 ?ha39 HS1.out ?hh39
              case hi39 => (simp only [List.getElem?_toArray, List.getElem?_cons_succ, List.getElem?_cons_zero]; try rfl)
              case hq39 => exact fun _ _ _ h => h
              case hl39 => (simp only [List.setIfInBounds_toArray, List.set_cons_succ, List.set_cons_zero]; try rfl)
              case hw39 => rfl
              case hv39 =>
                intro W hW
                skip
                go_simp
                try with_reducible rfl
              case ha39 => (simp only [Act.put, List.setIfInBounds_toArray, List.set_cons_succ, List.set_cons_zero]; try rfl)
              refine wpAnyH_ready (rs := [14]) (by kernel_rfl) (by simp) ?_
              refine rh_cons (i := 14) (o := ?o40) (listed' := ?l40) ?hi40 ?hl40 ?hg40 ?hh40 ?hs40
              case hi40 => (simp only [List.getElem?_toArray, List.getElem?_cons_succ, List.getElem?_cons_zero]; try rfl)
              case hl40 => (simp only [List.setIfInBounds_toArray, List.set_cons_succ, List.set_cons_zero]; try rfl)
              case hg40 => rfl
              case hs40 => exact AllReadyH.nil
              intro K hK
              go_simp
              have HS2 : Hid (Below w6.heap.size w6 (wa1.alloc zeroEc)) := hid (HS1.out.trans ((laid1_b wa1 zeroEc).mono HS1.out.size))
              have HZ2 : Hid ((wa1.alloc zeroEc).heap[wa1.heap.size]? = some zeroEc) := hid (laid1_0 wa1 zeroEc)
              have HLB2 : Hid (w6.heap.size ≤ wa1.heap.size) := hid HS1.out.size
              refine hK.out _ _ HS2.out ?_
              clear hK K
              refine wpAnyH_ready (rs := [15]) (by kernel_rfl) (by simp) ?_
              refine rh_storeN (i := 15) (o := ?o41) (listed' := ?l41) (x := ?x41) (y := ?y41) (b := wa1.heap.size) (T := 67) (ev2).arr (infoEc' (ev2)) (Ev.one (ev2)) ?hi41 ?hl41 ?hg41 ?ho41 ?hx41 ?hy41 ?hd41 HZ2.out (by rw [Ev.size]; rfl) ?hh41 ?hs41
              case hi41 => (simp only [List.getElem?_toArray, List.getElem?_cons_succ, List.getElem?_cons_zero]; try rfl)
              case hl41 => (simp only [List.setIfInBounds_toArray, List.set_cons_succ, List.set_cons_zero]; try rfl)
              case hg41 => rfl
              case ho41 => rfl
              case hx41 => rfl
              case hy41 => rfl
              case hd41 => rfl
              case hs41 => exact AllReadyH.nil
              intro wq hO hU
              have HSq := hid (HS2.out.trans (hU.below _ HLB2.out))
              refine ⟨HSq.out, ?_⟩
              refine rh_takeS (i := 16) (o := ?o42) (v := ?v42) (listed' := ?l42) (a' := ?a42) ?hi42 (by kernel_rfl) (by kernel_rfl) (by kernel_rfl) ?hq42 ?hl42 ?hw42 ?hv42 ?ha42 HSq.out ?hh42
              case hi42 => (simp only [List.getElem?_toArray, List.getElem?_cons_succ, List.getElem?_cons_zero]; try rfl)
              case hq42 => exact fun _ _ _ h => h
              case hl42 => (simp only [List.setIfInBounds_toArray, List.set_cons_succ, List.set_cons_zero]; try rfl)
              case hw42 => rfl
              case hv42 =>
                intro W hW
                skip
                go_simp
                try with_reducible rfl
              case ha42 => (simp only [Act.put, List.setIfInBounds_toArray, List.set_cons_succ, List.set_cons_zero]; try rfl)
              refine wpAnyH_done (by kernel_rfl) ?_ _
              go_wp2_with fail
              go_meet
              exact ⟨_, rfl, rfl, hid ⟨HSq.out, hO⟩⟩
            refine rh_cons (i := 14) (o := ?o43) (listed' := ?l43) ?hi43 ?hl43 ?hg43 ?hh43 ?hs43
            case hi43 => (simp only [List.getElem?_toArray, List.getElem?_cons_succ, List.getElem?_cons_zero]; try rfl)
            case hl43 => (simp only [List.setIfInBounds_toArray, List.set_cons_succ, List.set_cons_zero]; try rfl)
            case hg43 => rfl
            case hs43 => exact AllReadyH.nil
            intro K hK
            go_simp
            have HS3 : Hid (Below w6.heap.size w6 (wd.alloc zeroEc)) := hid (HS0.out.trans ((laid1_b wd zeroEc).mono HS0.out.size))
            have HZ3 : Hid ((wd.alloc zeroEc).heap[wd.heap.size]? = some zeroEc) := hid (laid1_0 wd zeroEc)
            have HLB3 : Hid (w6.heap.size ≤ wd.heap.size) := hid HS0.out.size
            refine hK.out _ _ HS3.out ?_
            clear hK K
            refine wpAnyH_ready (rs := [10]) (by kernel_rfl) (by simp) ?_
            refine rh_cons (i := 10) (o := ?o44) (listed' := ?l44) ?hi44 ?hl44 ?hg44 ?hh44 ?hs44
            case hi44 => (simp only [List.getElem?_toArray, List.getElem?_cons_succ, List.getElem?_cons_zero]; try rfl)
            case hl44 => (simp only [List.setIfInBounds_toArray, List.set_cons_succ, List.set_cons_zero]; try rfl)
            case hg44 => rfl
            case hs44 => exact AllReadyH.nil
            intro K hK
            go_simp
            refine (HGC.out _ HS3.out).mono ?_
            rintro z wa4 ⟨rfl, hB⟩
            have HS4 := hid (HS3.out.trans (hB.mono HS3.out.size))
            have HZ4 := hid (heapB HZ3.out hB (by simp))
            refine hK.out _ _ HS4.out ?_
            clear hK K
            refine rh_takeS (i := 11) (o := ?o45) (v := ?v45) (listed' := ?l45) (a' := ?a45) ?hi45 (by kernel_rfl) (by kernel_rfl) (by kernel_rfl) ?hq45 ?hl45 ?hw45 ?hv45 ?ha45 HS4.out ?hh45
            case hi45 => (simp only [List.getElem?_toArray, List.getElem?_cons_succ, List.getElem?_cons_zero]; try rfl)
            case hq45 => exact fun _ _ _ h => h
            case hl45 => (simp only [List.setIfInBounds_toArray, List.set_cons_succ, List.set_cons_zero]; try rfl)
            case hw45 => rfl
            case hv45 =>
              intro W hW
              skip
              go_simp
              try with_reducible rfl
            case ha45 => (simp only [Act.put, List.setIfInBounds_toArray, List.set_cons_succ, List.set_cons_zero]; try rfl)
            refine rh_takeS (i := 12) (o := ?o46) (v := ?v46) (listed' := ?l46) (a' := ?a46) ?hi46 (by kernel_rfl) (by kernel_rfl) (by kernel_rfl) ?hq46 ?hl46 ?hw46 ?hv46 ?ha46 HS4.out ?hh46
            case hi46 => (simp only [List.getElem?_toArray, List.getElem?_cons_succ, List.getElem?_cons_zero]; try rfl)
            case hq46 => exact fun _ _ _ h => h
            case hl46 => (simp only [List.setIfInBounds_toArray, List.set_cons_succ, List.set_cons_zero]; try rfl)
            case hw46 => rfl
            case hv46 =>
              intro W hW
              skip
              go_simp
              try with_reducible rfl
            case ha46 => (simp only [Act.put, List.setIfInBounds_toArray, List.set_cons_succ, List.set_cons_zero]; try rfl)
            refine rh_takeS (i := 13) (o := ?o47) (v := ?v47) (listed' := ?l47) (a' := ?a47) ?hi47 (by kernel_rfl) (by kernel_rfl) (by kernel_rfl) ?hq47 ?hl47 ?hw47 ?hv47 ?ha47 HS4.out ?hh47
            case hi47 => (simp only [List.getElem?_toArray, List.getElem?_cons_succ, List.getElem?_cons_zero]; try rfl)
            case hq47 => exact fun _ _ _ h => h
            case hl47 => (simp only [List.setIfInBounds_toArray, List.set_cons_succ, List.set_cons_zero]; try rfl)
            case hw47 => rfl
            case hv47 =>
              intro W hW
              skip
              go_simp
              try with_reducible rfl
            case ha47 => (simp only [Act.put, List.setIfInBounds_toArray, List.set_cons_succ, List.set_cons_zero]; try rfl)
            refine wpAnyH_ready (rs := [15]) (by kernel_rfl) (by simp) ?_
            refine rh_storeN (i := 15) (o := ?o48) (listed' := ?l48) (x := ?x48) (y := ?y48) (b := wd.heap.size) (T := 67) (ev2).arr (infoEc' (ev2)) (Ev.one (ev2)) ?hi48 ?hl48 ?hg48 ?ho48 ?hx48 ?hy48 ?hd48 HZ4.out (by rw [Ev.size]; rfl) ?hh48 ?hs48
            case hi48 => (simp only [List.getElem?_toArray, List.getElem?_cons_succ, List.getElem?_cons_zero]; try rfl)
            case hl48 => (simp only [List.setIfInBounds_toArray, List.set_cons_succ, List.set_cons_zero]; try rfl)
            case hg48 => rfl
            case ho48 => rfl
            case hx48 => rfl
            case hy48 => rfl
            case hd48 => rfl
            case hs48 => exact AllReadyH.nil
            intro wq hO hU
            have HSq := hid (HS4.out.trans (hU.below _ HLB3.out))
            refine ⟨HSq.out, ?_⟩
            refine rh_takeS (i := 16) (o := ?o49) (v := ?v49) (listed' := ?l49) (a' := ?a49) ?hi49 (by kernel_rfl) (by kernel_rfl) (by kernel_rfl) ?hq49 ?hl49 ?hw49 ?hv49 ?ha49 HSq.out ?hh49
            case hi49 => (simp only [List.getElem?_toArray, List.getElem?_cons_succ, List.getElem?_cons_zero]; try rfl)
            case hq49 => exact fun _ _ _ h => h
            case hl49 => (simp only [List.setIfInBounds_toArray, List.set_cons_succ, List.set_cons_zero]; try rfl)
            case hw49 => rfl
            case hv49 =>
              intro W hW
              skip
              go_simp
              try with_reducible rfl
            case ha49 => (simp only [Act.put, List.setIfInBounds_toArray, List.set_cons_succ, List.set_cons_zero]; try rfl)
            refine wpAnyH_done (by kernel_rfl) ?_ _
            go_wp2_with fail
            go_meet
            exact ⟨_, rfl, rfl, hid ⟨HSq.out, hO⟩⟩
        obtain ⟨p16, rfl, rfl, HH⟩ := hcut
        have HB7 := hid HH.out.1
        have HE16 := hid HH.out.2
        have HE13' : Hid (Ob wc p13 67 ev) := hid (heapB HE6.out HH.out.1 (Array.getElem?_eq_some_iff.1 HE6.out).1)
        clear HH HFG HGC HE6
        obtain ⟨pr1, hpr1⟩ : ∃ z, z = ev.pr := ⟨_, rfl⟩
        obtain ⟨pr2, hpr2⟩ : ∃ z, z = ev2.pr := ⟨_, rfl⟩
        have hpp : ¬ pr2 < pr1 := by have := HPR.out; rw [← HEV.out, ← HEV2.out, ← hpr1, ← hpr2] at this; omega
        have e1 : wc.cell? ⟨p13, 7, none⟩ = some (.int .i64 pr1) := by rw [hpr1]; exact HE13'.out.cell (j := 7) rfl
        have e2 : wc.cell? ⟨p16, 7, none⟩ = some (.int .i64 pr2) := by rw [hpr2]; exact HE16.out.cell (j := 7) rfl
        clear hpr1 hpr2
        have HV7 := hid (HV6.out.on HB7.out)
        have HLS7 := hid (HLS6.out.on HB7.out)
        have HS7 : Hid (SlM wc (.slice a14 n14 c14) (mgs os)) := hid (HS6.out.tchO (Tch.ofBelow (S := fun _ => False) HB7.out) fun _ _ h => h)
        have HO7 := hid (OwnG.on HO6.out HB7.out)
        have HAT7 := hid (fun o ho => (HAT6.out o ho).on HB7.out)
        have HMT7 : Hid (os = [] ∨ MsgT wc (.slice a14 n14 c14)) := hid (HMT6.out.imp id fun h k hk => by obtain ⟨c, f, hc⟩ := h k hk; exact ⟨c, f, heapB hc HB7.out (Array.getElem?_eq_some_iff.1 hc).1⟩)
        have HB8 : Hid (Below w.heap.size w wc) := hid (HB6.out.trans (HB7.out.mono HB6.out.size))
        have HBW8 : Hid (Below w.heap.size wr wc) := hid (HBr6.out.trans (HB7.out.mono HB6.out.size))
        have HC8 : Hid (wc.rangeAt ab (ao + k * 20) a.m.list) := hid (fun i u hu => (HB8.out.cell HABw.out).trans ((HB6.out.cell HABw.out).symm.trans (HC6.out i u hu)))
        clear HE13' HE16 HV6 HLS6 HS6 HO6 HAT6 HMT6 HB7 HB6 HC6 HEV HEV2 HPR HT6
        go_wp2_with fail
        obtain ⟨w8, hw8⟩ : ∃ z, z = wc := ⟨_, rfl⟩
        subst hw8
        have HWA8 : Hid (∀ x ∈ ws, x.at w8) := hid (fun x hx => at_low (HV.out.wa x hx) (HV.out.wl x hx) (HBW8.out))
        have HWL8 : Hid (∀ x ∈ ws, x.low (Bd.mk1 w.heap.size)) := hid HV.out.wl
        have HAA8 : Hid (a.at w8) := hid (HAI.out.1.on HB8.out)
        have hrl : r.2.2.length = n14 := by rw [HN14.out, ← HAN6.out, List.length_map]
        have HRL := hid hrl
        clear hrl
        have HSL8 := hid (show sl.length ≤ 41 * m by have := HSL.out; omega)
        skip
        go_loopg [10, 18, 19, 20, 21, 22, 23, 24, 25] n14 (fun gg s10 s18 s19 s20 s21 s22 s23 s24 s25 wr => ∃ (j : Nat) (la2 : Option Addr) (ln2 lc2 : Nat) (sl2 : List Sx), j ≤ n14 ∧ n14 - j ≤ gg ∧ s18 = .int .i64 j ∧ s10 = .slice la2 ln2 lc2 ∧ Hid (Ls wr w.heap.size (.slice la2 ln2 lc2) sl2) ∧ Hid (sl2.map Sx.sa = sayAll (askF ws a) (sl.map Sx.sa) (r.2.2.take j)) ∧ Hid (sl2.length ≤ sl.length + j) ∧ Hid (Tch (TSs w.heap.size w8) w8 wr))
        case atStart => exact ⟨0, la, ln, lc, sl, Nat.zero_le _, by omega, rfl, rfl, HLS7, hid rfl, hid (Nat.le_refl _), hid (Tch.refl _ _)⟩
        case round =>
          obtain ⟨j, la2, ln2, lc2, sl2, hj, hgg2, rfl, rfl, HL2, HEQ, HLL, HT2⟩ := hrel
          have HBw2 : Hid (Below w.heap.size w8 wr) := hid (HT2.out.below (fun k hk => hk.1) HB8.out.size)
          by_cases hjt : j < n14
          · as_aux_lemma =>
              have hjti : ((j : Int) < n14) := by omega
              obtain ⟨o, ho⟩ : ∃ o, os[j]? = some o := ⟨os[j]'(by rw [← HN14.out]; exact hjt), List.getElem?_eq_getElem (by rw [← HN14.out]; exact hjt)⟩
              have hoa : r.2.2[j]? = some o.an := by rw [← HAN6.out, List.getElem?_map, ho]; rfl
              have HOA := hid hoa
              clear hoa
              have HWFo : Hid ((Lit.int .i64 o.m.c.i).wf = true) := hid (by have hoh := HSM.out o (List.mem_of_getElem? HOA.out); have h := lkE_mem hoh; have := ok_wf (right_ok (HPN.out.iv.gd _ h.1)); rw [show (lkE r.1.xs o.m.c.i).e.c.i = o.m.c.i from h.2] at this; exact this)
              have HOF : Hid (o.atF (Bd.mk1 w.heap.size) wr) := hid (by have h := HAT7.out o (List.mem_of_getElem? ho); exact ⟨h.1.said HT2.out, h.2.1.said HT2.out, h.2.2.said HT2.out⟩)
              have hsl7 : SlM w8 (.slice a14 n14 c14) (mgs os) := HS7.out
              have hmt : MsgT w8 (.slice a14 n14 c14) := by rcases HMT7.out with h | h; rw [h] at ho; simp at ho; exact h
              obtain ⟨bb, oo, cc, aa2, e0, ha0, hr0, hl0⟩ := hsl7
              have hlo : (mgs os).length = n14 := by unfold mgs; rw [List.length_map]; exact HN14.out.symm
              rw [hlo] at e0 ha0 hl0
              injection e0 with e01 e02 e03
              subst e01
              obtain rfl := ha0 (by omega)
              have HCO : Hid (wr.rangeAt bb (oo + j * 20) o.m.list) := hid (by
                have h1 := hr0 j o.m (at_mgs ho)
                obtain ⟨c9, f9, hc9⟩ := hmt bb rfl
                intro i u hu
                have := h1 i u hu
                rw [World.cell?] at this ⊢
                rw [HT2.out.block bb (hl0 (by omega)) (tss_msg hc9)]; exact this)
              have hbbl : bb < wr.heap.size := Nat.lt_of_lt_of_le (hl0 (by omega)) HT2.out.size
              have HBBL := hid hbbl
              clear ho e02 e03 ha0 hr0 hl0 hlo hmt hbbl
              obtain ⟨so, hso⟩ : ∃ z, z = o.m.so := ⟨_, rfl⟩
              have HSO := hid hso
              clear hso
              have HFR : Hid (∀ W, Below wr.heap.size wr W → W.rangeAt bb (oo + j * 20) o.m.list) := hid (fun W hW i u hu => (hW.cell HBBL.out).trans (HCO.out i u hu))
              have HF1 : Hid (∀ W, Below wr.heap.size wr W → W.cell? ⟨bb, oo + j * 20 + 4, none⟩ = some (.int .i64 o.m.c.i) ∧ W.cell? ⟨bb, oo + j * 20 + 5, none⟩ = some (.int .i64 o.m.c.k) ∧ W.cell? ⟨bb, oo + j * 20 + 6, none⟩ = some (.int .i64 o.m.c.s) ∧ W.cell? ⟨bb, oo + j * 20 + 7, none⟩ = some (.int .i64 o.m.c.t) ∧ W.cell? ⟨bb, oo + j * 20 + 8, none⟩ = some (.int .i64 o.m.c.d) ∧ W.cell? ⟨bb, oo + j * 20 + 9, none⟩ = some (.int .i64 o.m.c.p) ∧ W.cell? ⟨bb, oo + j * 20 + 10, none⟩ = some (.int .i64 o.m.c.q) ∧ W.cell? ⟨bb, oo + j * 20 + 11, none⟩ = some (.int .i64 o.m.vt)) := hid (fun W hW => by
                have h := HFR.out W hW
                exact ⟨h 4 _ rfl, h 5 _ rfl, h 6 _ rfl, h 7 _ rfl, h 8 _ rfl, h 9 _ rfl, h 10 _ rfl, h 11 _ rfl⟩)
              obtain ⟨fb, hfb⟩ : ∃ z, z = firstB (sl2.map Sx.sa) o.m.c.i o.m.vt := ⟨_, rfl⟩
              have HFC : Hid (∀ W, Below wr.heap.size wr W → Calls Tryz.prog 22 #[.slice la2 ln2 lc2, o.m.c.v, .int .i64 o.m.vt] W fun e w' => e = .returned (.bool fb) ∧ Below W.heap.size W w') := hid (fun W hW => by rw [hfb]; exact cFirst (OwnG.slG kSm (HL2.out.on hW).ow) (by have := HLL.out; have := HSL8.out; have := H40.out; omega) o.m.c o.m.vt)
              have HFB := hid hfb
              clear hfb
              go_upto_region 21 with fail
              refine rh_start (S := fun W => Below wr.heap.size wr W) (n := 14) (listed := #[false, false, false, false, false, false, false, false, false, false, false, false, false, false]) (by kernel_rfl) rfl rfl ?_
              have HS0 : Hid (Below wr.heap.size wr wr.drew) := hid (belowDrew (Below.refl _ wr))
              generalize wr.drew = wd at HS0 ⊢
              refine rh_takeS (i := 0) (o := ?o50) (v := ?v50) (listed' := ?l50) (a' := ?a50) ?hi50 (by kernel_rfl) (by kernel_rfl) (by kernel_rfl) ?hq50 ?hl50 ?hw50 ?hv50 ?ha50 HS0.out ?hh50
              case hi50 => (simp only [List.getElem?_toArray, List.getElem?_cons_zero]; try rfl)
              case hq50 => exact fun _ _ _ h => h
              case hl50 => (simp only [List.setIfInBounds_toArray, List.set_cons_zero]; try rfl)
              case hw50 => rfl
              case hv50 =>
                intro W hW
                obtain ⟨d0, d1, d2, d3, d4, d5, d6, d7⟩ := HF1.out W hW
                go_simp
                try with_reducible rfl
              case ha50 => (simp only [Act.put, List.setIfInBounds_toArray, List.set_cons_succ, List.set_cons_zero]; try rfl)
              refine rh_takeS (i := 1) (o := ?o51) (v := ?v51) (listed' := ?l51) (a' := ?a51) ?hi51 (by kernel_rfl) (by kernel_rfl) (by kernel_rfl) ?hq51 ?hl51 ?hw51 ?hv51 ?ha51 HS0.out ?hh51
              case hi51 => (simp only [List.getElem?_toArray, List.getElem?_cons_succ, List.getElem?_cons_zero]; try rfl)
              case hq51 => exact fun _ _ _ h => h
              case hl51 => (simp only [List.setIfInBounds_toArray, List.set_cons_succ, List.set_cons_zero]; try rfl)
              case hw51 => rfl
              case hv51 =>
                intro W hW
                obtain ⟨d0, d1, d2, d3, d4, d5, d6, d7⟩ := HF1.out W hW
                go_simp
                try with_reducible rfl
              case ha51 => (simp only [Act.put, List.setIfInBounds_toArray, List.set_cons_succ, List.set_cons_zero]; try rfl)
              refine rh_takeS (i := 2) (o := ?o52) (v := ?v52) (listed' := ?l52) (a' := ?a52) ?hi52 (by kernel_rfl) (by kernel_rfl) (by kernel_rfl) ?hq52 ?hl52 ?hw52 ?hv52 ?ha52 HS0.out ?hh52
              case hi52 => (simp only [List.getElem?_toArray, List.getElem?_cons_succ, List.getElem?_cons_zero]; try rfl)
              case hq52 => exact fun _ _ _ h => h
              case hl52 => (simp only [List.setIfInBounds_toArray, List.set_cons_succ, List.set_cons_zero]; try rfl)
              case hw52 => rfl
              case hv52 =>
                intro W hW
                obtain ⟨d0, d1, d2, d3, d4, d5, d6, d7⟩ := HF1.out W hW
                go_simp
                try with_reducible rfl
              case ha52 => (simp only [Act.put, List.setIfInBounds_toArray, List.set_cons_succ, List.set_cons_zero]; try rfl)
              refine rh_takeS (i := 3) (o := ?o53) (v := ?v53) (listed' := ?l53) (a' := ?a53) ?hi53 (by kernel_rfl) (by kernel_rfl) (by kernel_rfl) ?hq53 ?hl53 ?hw53 ?hv53 ?ha53 HS0.out ?hh53
              case hi53 => (simp only [List.getElem?_toArray, List.getElem?_cons_succ, List.getElem?_cons_zero]; try rfl)
              case hq53 => exact fun _ _ _ h => h
              case hl53 => (simp only [List.setIfInBounds_toArray, List.set_cons_succ, List.set_cons_zero]; try rfl)
              case hw53 => rfl
              case hv53 =>
                intro W hW
                obtain ⟨d0, d1, d2, d3, d4, d5, d6, d7⟩ := HF1.out W hW
                go_simp
                try with_reducible rfl
              case ha53 => (simp only [Act.put, List.setIfInBounds_toArray, List.set_cons_succ, List.set_cons_zero]; try rfl)
              refine rh_takeS (i := 4) (o := ?o54) (v := ?v54) (listed' := ?l54) (a' := ?a54) ?hi54 (by kernel_rfl) (by kernel_rfl) (by kernel_rfl) ?hq54 ?hl54 ?hw54 ?hv54 ?ha54 HS0.out ?hh54
              case hi54 => (simp only [List.getElem?_toArray, List.getElem?_cons_succ, List.getElem?_cons_zero]; try rfl)
              case hq54 => exact fun _ _ _ h => h
              case hl54 => (simp only [List.setIfInBounds_toArray, List.set_cons_succ, List.set_cons_zero]; try rfl)
              case hw54 => rfl
              case hv54 =>
                intro W hW
                obtain ⟨d0, d1, d2, d3, d4, d5, d6, d7⟩ := HF1.out W hW
                go_simp
                try with_reducible rfl
              case ha54 => (simp only [Act.put, List.setIfInBounds_toArray, List.set_cons_succ, List.set_cons_zero]; try rfl)
              refine rh_takeS (i := 5) (o := ?o55) (v := ?v55) (listed' := ?l55) (a' := ?a55) ?hi55 (by kernel_rfl) (by kernel_rfl) (by kernel_rfl) ?hq55 ?hl55 ?hw55 ?hv55 ?ha55 HS0.out ?hh55
              case hi55 => (simp only [List.getElem?_toArray, List.getElem?_cons_succ, List.getElem?_cons_zero]; try rfl)
              case hq55 => exact fun _ _ _ h => h
              case hl55 => (simp only [List.setIfInBounds_toArray, List.set_cons_succ, List.set_cons_zero]; try rfl)
              case hw55 => rfl
              case hv55 =>
                intro W hW
                obtain ⟨d0, d1, d2, d3, d4, d5, d6, d7⟩ := HF1.out W hW
                go_simp
                try with_reducible rfl
              case ha55 => (simp only [Act.put, List.setIfInBounds_toArray, List.set_cons_succ, List.set_cons_zero]; try rfl)
              refine rh_takeS (i := 6) (o := ?o56) (v := ?v56) (listed' := ?l56) (a' := ?a56) ?hi56 (by kernel_rfl) (by kernel_rfl) (by kernel_rfl) ?hq56 ?hl56 ?hw56 ?hv56 ?ha56 HS0.out ?hh56
              case hi56 => (simp only [List.getElem?_toArray, List.getElem?_cons_succ, List.getElem?_cons_zero]; try rfl)
              case hq56 => exact fun _ _ _ h => h
              case hl56 => (simp only [List.setIfInBounds_toArray, List.set_cons_succ, List.set_cons_zero]; try rfl)
              case hw56 => rfl
              case hv56 =>
                intro W hW
                obtain ⟨d0, d1, d2, d3, d4, d5, d6, d7⟩ := HF1.out W hW
                go_simp
                try with_reducible rfl
              case ha56 => (simp only [Act.put, List.setIfInBounds_toArray, List.set_cons_succ, List.set_cons_zero]; try rfl)
              refine rh_takeS (i := 7) (o := ?o57) (v := ?v57) (listed' := ?l57) (a' := ?a57) ?hi57 (by kernel_rfl) (by kernel_rfl) (by kernel_rfl) ?hq57 ?hl57 ?hw57 ?hv57 ?ha57 HS0.out ?hh57
              case hi57 => (simp only [List.getElem?_toArray, List.getElem?_cons_succ, List.getElem?_cons_zero]; try rfl)
              case hq57 => exact fun _ _ _ h => h
              case hl57 => (simp only [List.setIfInBounds_toArray, List.set_cons_succ, List.set_cons_zero]; try rfl)
              case hw57 => rfl
              case hv57 =>
                intro W hW
                obtain ⟨d0, d1, d2, d3, d4, d5, d6, d7⟩ := HF1.out W hW
                go_simp
                try with_reducible rfl
              case ha57 => (simp only [Act.put, List.setIfInBounds_toArray, List.set_cons_succ, List.set_cons_zero]; try rfl)
              refine rh_takeS (i := 8) (o := ?o58) (v := ?v58) (listed' := ?l58) (a' := ?a58) ?hi58 (by kernel_rfl) (by kernel_rfl) (by kernel_rfl) ?hq58 ?hl58 ?hw58 ?hv58 ?ha58 HS0.out ?hh58
              case hi58 => (simp only [List.getElem?_toArray, List.getElem?_cons_succ, List.getElem?_cons_zero]; try rfl)
              case hq58 => exact fun _ _ _ h => h
              case hl58 => (simp only [List.setIfInBounds_toArray, List.set_cons_succ, List.set_cons_zero]; try rfl)
              case hw58 => rfl
              case hv58 =>
                intro W hW
                obtain ⟨d0, d1, d2, d3, d4, d5, d6, d7⟩ := HF1.out W hW
                go_simp
                try with_reducible rfl
              case ha58 => (simp only [Act.put, List.setIfInBounds_toArray, List.set_cons_succ, List.set_cons_zero]; try rfl)
              refine rh_takeS (i := 9) (o := ?o59) (v := ?v59) (listed' := ?l59) (a' := ?a59) ?hi59 (by kernel_rfl) (by kernel_rfl) (by kernel_rfl) ?hq59 ?hl59 ?hw59 ?hv59 ?ha59 HS0.out ?hh59
              case hi59 => (simp only [List.getElem?_toArray, List.getElem?_cons_succ, List.getElem?_cons_zero]; try rfl)
              case hq59 => exact fun _ _ _ h => h
              case hl59 => (simp only [List.setIfInBounds_toArray, List.set_cons_succ, List.set_cons_zero]; try rfl)
              case hw59 => rfl
              case hv59 =>
                intro W hW
                obtain ⟨d0, d1, d2, d3, d4, d5, d6, d7⟩ := HF1.out W hW
                go_simp
                try with_reducible rfl
              case ha59 => (simp only [Act.put, List.setIfInBounds_toArray, List.set_cons_succ, List.set_cons_zero]; try rfl)
              refine rh_takeS (i := 10) (o := ?o60) (v := ?v60) (listed' := ?l60) (a' := ?a60) ?hi60 (by kernel_rfl) (by kernel_rfl) (by kernel_rfl) ?hq60 ?hl60 ?hw60 ?hv60 ?ha60 HS0.out ?hh60
              case hi60 => (simp only [List.getElem?_toArray, List.getElem?_cons_succ, List.getElem?_cons_zero]; try rfl)
              case hq60 => exact fun _ _ _ h => h
              case hl60 => (simp only [List.setIfInBounds_toArray, List.set_cons_succ, List.set_cons_zero]; try rfl)
              case hw60 => rfl
              case hv60 =>
                intro W hW
                obtain ⟨d0, d1, d2, d3, d4, d5, d6, d7⟩ := HF1.out W hW
                go_simp
                try with_reducible rfl
              case ha60 => (simp only [Act.put, List.setIfInBounds_toArray, List.set_cons_succ, List.set_cons_zero]; try rfl)
              refine rh_takeS (i := 11) (o := ?o61) (v := ?v61) (listed' := ?l61) (a' := ?a61) ?hi61 (by kernel_rfl) (by kernel_rfl) (by kernel_rfl) ?hq61 ?hl61 ?hw61 ?hv61 ?ha61 HS0.out ?hh61
              case hi61 => (simp only [List.getElem?_toArray, List.getElem?_cons_succ, List.getElem?_cons_zero]; try rfl)
              case hq61 => exact fun _ _ _ h => h
              case hl61 => (simp only [List.setIfInBounds_toArray, List.set_cons_succ, List.set_cons_zero]; try rfl)
              case hw61 => rfl
              case hv61 =>
                intro W hW
                obtain ⟨d0, d1, d2, d3, d4, d5, d6, d7⟩ := HF1.out W hW
                go_simp
                try with_reducible rfl
              case ha61 => (simp only [Act.put, List.setIfInBounds_toArray, List.set_cons_succ, List.set_cons_zero]; try rfl)
              refine wpAnyH_ready (rs := [12]) (by kernel_rfl) (by simp) ?_
              refine rh_cons (i := 12) (o := ?o62) (listed' := ?l62) ?hi62 ?hl62 ?hg62 ?hh62 ?hs62
              case hi62 => (simp only [List.getElem?_toArray, List.getElem?_cons_succ, List.getElem?_cons_zero]; try rfl)
              case hl62 => (simp only [List.setIfInBounds_toArray, List.set_cons_succ, List.set_cons_zero]; try rfl)
              case hg62 => rfl
              case hs62 => exact AllReadyH.nil
              intro K hK
              go_simp
              refine (HFC.out _ HS0.out).mono ?_
              rintro z w10 ⟨rfl, hB⟩
              have HS1 := hid (HS0.out.trans (hB.mono HS0.out.size))
              refine hK.out _ _ HS1.out ?_
              clear hK K
              refine rh_takeS (i := 13) (o := ?o63) (v := ?v63) (listed' := ?l63) (a' := ?a63) ?hi63 (by kernel_rfl) (by kernel_rfl) (by kernel_rfl) ?hq63 ?hl63 ?hw63 ?hv63 ?ha63 HS1.out ?hh63
              case hi63 => (simp only [List.getElem?_toArray, List.getElem?_cons_succ, List.getElem?_cons_zero]; try rfl)
              case hq63 => exact fun _ _ _ h => h
              case hl63 => (simp only [List.setIfInBounds_toArray, List.set_cons_succ, List.set_cons_zero]; try rfl)
              case hw63 => rfl
              case hv63 =>
                intro W hW
                skip
                go_simp
                try with_reducible rfl
              case ha63 => (simp only [Act.put, List.setIfInBounds_toArray, List.set_cons_succ, List.set_cons_zero]; try rfl)
              refine wpAnyH_done (by kernel_rfl) ?_ _
              have g0 : w10.cell? ⟨bb, oo + j * 20, none⟩ = some (.int .i64 so) := by rw [HSO.out]; exact HFR.out w10 HS1.out 0 _ rfl
              have HL10 := hid (HL2.out.on HS1.out)
              have HT10 := hid (tss_below HT2.out HS1.out)
              by_cases h1 : so = 1
              · have s1b : (so != 1) = false := by simp [h1]
                have HS1' := hid h1
                clear h1
                rcases fb with _ | _
                · have HNO : Hid (¬ (o.an.so = 1 ∧ firstB (sl2.map Sx.sa) o.an.c.i o.an.vt = true)) := hid (fun h => by have e : firstB (sl2.map Sx.sa) o.m.c.i o.m.vt = true := h.2; rw [← HFB.out] at e; cases e)
                  go_wp2_with fail
                  go_roundg (n14 - (j + 1))
                  case measure => omega
                  case rel => exact ⟨j + 1, la2, ln2, lc2, sl2, by omega, by omega, by go_num, rfl, HL10, hid (by rw [sayAll_next _ _ HOA.out, ← HEQ.out]; unfold sayF; rw [if_neg (fun h => HNO.out h)]), hid (by have := HLL.out; omega), HT10⟩
                · as_aux_lemma =>
                    go_wp2_with fail
                    have hk := askF_some HSS.out.1 HOA.out (HSO.out.symm.trans HS1'.out) (by rw [← HEQ.out]; exact HFB.out.symm)
                    rw [← HEQ.out] at hk
                    obtain ⟨hk1, hk2⟩ := hk
                    obtain ⟨lq, hlq⟩ := Option.isSome_iff_exists.1 hk1
                    rw [hlq] at hk2
                    have HLQ := hid hlq
                    have HFP : Hid (∀ was ∈ sl2.map Sx.sa, FairP r.1.xs was ⟨o.m.c, o.m.vt, lq ++ o.v⟩) := hid hk2
                    have HLQL : Hid (lq.length ≤ 1024) := hid (ask_len hlq (fun x hx => (HIU.out.1.wt x hx).short.1) (by have := HAS.out.1; omega))
                    have HOL : Hid (o.v.length ≤ 20000) := hid (by have h1 := HVL.out o.an (List.mem_of_getElem? HOA.out) (HSO.out.symm.trans HS1'.out); have h2 := HV7.out.len; have h3 : o.an.vl.length = o.v.length := rfl; have := HWL.out; have := HAS.out.1; have := H40.out; omega)
                    clear hk1 hk2 hlq
                    have HBwA : Hid (Below w.heap.size w8 w10) := hid (HBw2.out.trans (HS1.out.mono (Nat.le_trans HB8.out.size HBw2.out.size)))
                    have HFM : Hid (∀ W, Below w10.heap.size w10 W → W.rangeAt ab (ao + k * 20) a.m.list) := hid (fun W hW i u hu => (((HBwA.out.trans (hW.mono (Nat.le_trans HB8.out.size HBwA.out.size))).cell HABw.out)).trans (HC8.out i u hu))
                    have HFO : Hid (∀ W, Below w10.heap.size w10 W → W.rangeAt bb (oo + j * 20) o.m.list) := hid (fun W hW => HFR.out W (HS1.out.trans (hW.mono HS1.out.size)))
                    have HOW : Hid (OwnM w10 0 (.slice a13 n13 c13) (mgs ws)) := hid (own_monoB (OwnG.on (own_tch HO7.out HT2.out fun k hk => by obtain ⟨_, c9, hc9⟩ := own_typ HO7.out hk; exact tss_msg hc9) HS1.out) (Nat.zero_le _))
                    have HAK : Hid (∀ W, Below w10.heap.size w10 W → Calls Tryz.prog 23 #[.agg a.m.arr, .slice a13 n13 c13, .agg o.m.arr] W fun e w' => ∃ u, e = .returned (.tuple #[u, .bool true]) ∧ Sl w' u lq ∧ Below W.heap.size W w') := hid (fun W hW => by
                      have hb : Below w.heap.size w8 W := HBwA.out.trans (hW.mono (Nat.le_trans HB8.out.size HBwA.out.size))
                      exact cAsked (OwnG.on HOW.out hW) (by have := HWL.out; have := H40.out; omega) (fun x hx => at_low (HWA8.out x hx) (HWL8.out x hx) hb) (at_low HAA8.out HAI.out.1.lowB hb) HLQ.out)
                    go_upto_region 23 with fail
                    go_cut [20, 21] from 96 to 182 (fun u20 u21 wx => ∃ (ua : Option Addr) (un uc : Nat), u20 = .slice ua un uc ∧ u21 = .bool true ∧ Hid (Below w10.heap.size w10 wx ∧ Sl wx (.slice ua un uc) lq))
                    case first =>
                      as_aux_lemma =>
                        refine rh_start (S := fun W => Below w10.heap.size w10 W) (n := 15) (listed := #[false, false, false, false, false, false, false, false, false, false, false, false, false, false, false]) (by kernel_rfl) rfl rfl ?_
                        have HS0' : Hid (Below w10.heap.size w10 w10.drew) := hid (belowDrew (Below.refl _ w10))
                        generalize w10.drew = wd at HS0' ⊢
                        refine rh_takeS (i := 0) (o := ?o64) (v := ?v64) (listed' := ?l64) (a' := ?a64) ?hi64 (by kernel_rfl) (by kernel_rfl) (by kernel_rfl) ?hq64 ?hl64 ?hw64 ?hv64 ?ha64 HS0'.out ?hh64
                        case hi64 => (simp only [List.getElem?_toArray, List.getElem?_cons_zero]; try rfl)
                        case hq64 => exact fun _ _ _ h => h
                        case hl64 => (simp only [List.setIfInBounds_toArray, List.set_cons_zero]; try rfl)
                        case hw64 => rfl
                        case hv64 =>
                          intro W hW
                          skip
                          go_simp
                          try with_reducible rfl
                        case ha64 => (simp only [Act.put, List.setIfInBounds_toArray, List.set_cons_succ, List.set_cons_zero]; try rfl)
                        refine rh_takeS (i := 1) (o := ?o65) (v := ?v65) (listed' := ?l65) (a' := ?a65) ?hi65 (by kernel_rfl) (by kernel_rfl) (by kernel_rfl) ?hq65 ?hl65 ?hw65 ?hv65 ?ha65 HS0'.out ?hh65
                        case hi65 => (simp only [List.getElem?_toArray, List.getElem?_cons_succ, List.getElem?_cons_zero]; try rfl)
                        case hq65 => exact fun _ _ _ h => h
                        case hl65 => (simp only [List.setIfInBounds_toArray, List.set_cons_succ, List.set_cons_zero]; try rfl)
                        case hw65 => rfl
                        case hv65 =>
                          intro W hW
                          skip
                          go_simp
                          try with_reducible rfl
                        case ha65 => (simp only [Act.put, List.setIfInBounds_toArray, List.set_cons_succ, List.set_cons_zero]; try rfl)
                        refine rh_takeS (i := 2) (o := ?o66) (v := ?v66) (listed' := ?l66) (a' := ?a66) ?hi66 (by kernel_rfl) (by kernel_rfl) (by kernel_rfl) ?hq66 ?hl66 ?hw66 ?hv66 ?ha66 HS0'.out ?hh66
                        case hi66 => (simp only [List.getElem?_toArray, List.getElem?_cons_succ, List.getElem?_cons_zero]; try rfl)
                        case hq66 => exact fun _ _ _ h => h
                        case hl66 => (simp only [List.setIfInBounds_toArray, List.set_cons_succ, List.set_cons_zero]; try rfl)
                        case hw66 => rfl
                        case hv66 =>
                          intro W hW
                          skip
                          go_simp
                          try with_reducible rfl
                        case ha66 => (simp only [Act.put, List.setIfInBounds_toArray, List.set_cons_succ, List.set_cons_zero]; try rfl)
                        refine rh_load (i := 3) (o := ?o67) (cs := a.m.list) (T := 50) (x := ?x67) (b := ?b67) (q := ?q67) (listed' := ?l67) (a' := ?a67) ?hi67 (by kernel_rfl) (by kernel_rfl) (by kernel_rfl) ?hq67 ?hl67 ?hg67 ?ho67 ?hx67 ?hc67 Tryz.underlying50 rfl (infoM a.m) ?ha67 HS0'.out ?hh67
                        case hi67 => (simp only [List.getElem?_toArray, List.getElem?_cons_succ, List.getElem?_cons_zero]; try rfl)
                        case hq67 => exact fun _ _ _ h => h
                        case hl67 => (simp only [List.setIfInBounds_toArray, List.set_cons_succ, List.set_cons_zero]; try rfl)
                        case hg67 => rfl
                        case ho67 => rfl
                        case hx67 => rfl
                        case hc67 => exact fun W hW => HFM.out W hW
                        case ha67 => (show Act.put _ _ (Value.agg a.m.arr) = _); (simp only [Act.put, List.setIfInBounds_toArray, List.set_cons_succ, List.set_cons_zero]; try rfl)
                        refine rh_takeS (i := 4) (o := ?o68) (v := ?v68) (listed' := ?l68) (a' := ?a68) ?hi68 (by kernel_rfl) (by kernel_rfl) (by kernel_rfl) ?hq68 ?hl68 ?hw68 ?hv68 ?ha68 HS0'.out ?hh68
                        case hi68 => (simp only [List.getElem?_toArray, List.getElem?_cons_succ, List.getElem?_cons_zero]; try rfl)
                        case hq68 => exact fun _ _ _ h => h
                        case hl68 => (simp only [List.setIfInBounds_toArray, List.set_cons_succ, List.set_cons_zero]; try rfl)
                        case hw68 => rfl
                        case hv68 =>
                          intro W hW
                          skip
                          go_simp
                          try with_reducible rfl
                        case ha68 => (simp only [Act.put, List.setIfInBounds_toArray, List.set_cons_succ, List.set_cons_zero]; try rfl)
                        refine rh_takeS (i := 5) (o := ?o69) (v := ?v69) (listed' := ?l69) (a' := ?a69) ?hi69 (by kernel_rfl) (by kernel_rfl) (by kernel_rfl) ?hq69 ?hl69 ?hw69 ?hv69 ?ha69 HS0'.out ?hh69
                        case hi69 => (simp only [List.getElem?_toArray, List.getElem?_cons_succ, List.getElem?_cons_zero]; try rfl)
                        case hq69 => exact fun _ _ _ h => h
                        case hl69 => (simp only [List.setIfInBounds_toArray, List.set_cons_succ, List.set_cons_zero]; try rfl)
                        case hw69 => rfl
                        case hv69 =>
                          intro W hW
                          skip
                          go_simp
                          try with_reducible rfl
                        case ha69 => (simp only [Act.put, List.setIfInBounds_toArray, List.set_cons_succ, List.set_cons_zero]; try rfl)
                        refine rh_takeS (i := 6) (o := ?o70) (v := ?v70) (listed' := ?l70) (a' := ?a70) ?hi70 (by kernel_rfl) (by kernel_rfl) (by kernel_rfl) ?hq70 ?hl70 ?hw70 ?hv70 ?ha70 HS0'.out ?hh70
                        case hi70 => (simp only [List.getElem?_toArray, List.getElem?_cons_succ, List.getElem?_cons_zero]; try rfl)
                        case hq70 => exact fun _ _ _ h => h
                        case hl70 => (simp only [List.setIfInBounds_toArray, List.set_cons_succ, List.set_cons_zero]; try rfl)
                        case hw70 => rfl
                        case hv70 =>
                          intro W hW
                          skip
                          go_simp
                          try with_reducible rfl
                        case ha70 => (simp only [Act.put, List.setIfInBounds_toArray, List.set_cons_succ, List.set_cons_zero]; try rfl)
                        refine rh_takeS (i := 7) (o := ?o71) (v := ?v71) (listed' := ?l71) (a' := ?a71) ?hi71 (by kernel_rfl) (by kernel_rfl) (by kernel_rfl) ?hq71 ?hl71 ?hw71 ?hv71 ?ha71 HS0'.out ?hh71
                        case hi71 => (simp only [List.getElem?_toArray, List.getElem?_cons_succ, List.getElem?_cons_zero]; try rfl)
                        case hq71 => exact fun _ _ _ h => h
                        case hl71 => (simp only [List.setIfInBounds_toArray, List.set_cons_succ, List.set_cons_zero]; try rfl)
                        case hw71 => rfl
                        case hv71 =>
                          intro W hW
                          skip
                          go_simp
                          try with_reducible rfl
                        case ha71 => (simp only [Act.put, List.setIfInBounds_toArray, List.set_cons_succ, List.set_cons_zero]; try rfl)
                        refine rh_load (i := 8) (o := ?o72) (cs := o.m.list) (T := 50) (x := ?x72) (b := ?b72) (q := ?q72) (listed' := ?l72) (a' := ?a72) ?hi72 (by kernel_rfl) (by kernel_rfl) (by kernel_rfl) ?hq72 ?hl72 ?hg72 ?ho72 ?hx72 ?hc72 Tryz.underlying50 rfl (infoM o.m) ?ha72 HS0'.out ?hh72
                        case hi72 => (simp only [List.getElem?_toArray, List.getElem?_cons_succ, List.getElem?_cons_zero]; try rfl)
                        case hq72 => exact fun _ _ _ h => h
                        case hl72 => (simp only [List.setIfInBounds_toArray, List.set_cons_succ, List.set_cons_zero]; try rfl)
                        case hg72 => rfl
                        case ho72 => rfl
                        case hx72 => rfl
                        case hc72 => exact fun W hW => HFO.out W hW
                        case ha72 => (show Act.put _ _ (Value.agg o.m.arr) = _); (simp only [Act.put, List.setIfInBounds_toArray, List.set_cons_succ, List.set_cons_zero]; try rfl)
                        refine wpAnyH_ready (rs := [9]) (by kernel_rfl) (by simp) ?_
                        refine rh_cons (i := 9) (o := ?o73) (listed' := ?l73) ?hi73 ?hl73 ?hg73 ?hh73 ?hs73
                        case hi73 => (simp only [List.getElem?_toArray, List.getElem?_cons_succ, List.getElem?_cons_zero]; try rfl)
                        case hl73 => (simp only [List.setIfInBounds_toArray, List.set_cons_succ, List.set_cons_zero]; try rfl)
                        case hg73 => rfl
                        case hs73 => exact AllReadyH.nil
                        intro K hK
                        go_simp
                        refine (HAK.out _ HS0'.out).mono ?_
                        rintro z w11 ⟨u, rfl, hu, hB⟩
                        obtain ⟨ub, uo, ucap, ua, rfl, -, -, -, -⟩ := id hu
                        have HSu := hid (HS0'.out.trans (hB.mono HS0'.out.size))
                        have HU := hid hu
                        clear hu hB
                        refine hK.out _ _ HSu.out ?_
                        clear hK K
                        refine rh_takeS (i := 10) (o := ?o74) (v := ?v74) (listed' := ?l74) (a' := ?a74) ?hi74 (by kernel_rfl) (by kernel_rfl) (by kernel_rfl) ?hq74 ?hl74 ?hw74 ?hv74 ?ha74 HSu.out ?hh74
                        case hi74 => (simp only [List.getElem?_toArray, List.getElem?_cons_succ, List.getElem?_cons_zero]; try rfl)
                        case hq74 => exact fun _ _ _ h => h
                        case hl74 => (simp only [List.setIfInBounds_toArray, List.set_cons_succ, List.set_cons_zero]; try rfl)
                        case hw74 => rfl
                        case hv74 =>
                          intro W hW
                          skip
                          go_simp
                          try with_reducible rfl
                        case ha74 => (simp only [Act.put, List.setIfInBounds_toArray, List.set_cons_succ, List.set_cons_zero]; try rfl)
                        refine rh_takeS (i := 11) (o := ?o75) (v := ?v75) (listed' := ?l75) (a' := ?a75) ?hi75 (by kernel_rfl) (by kernel_rfl) (by kernel_rfl) ?hq75 ?hl75 ?hw75 ?hv75 ?ha75 HSu.out ?hh75
                        case hi75 => (simp only [List.getElem?_toArray, List.getElem?_cons_succ, List.getElem?_cons_zero]; try rfl)
                        case hq75 => exact fun _ _ _ h => h
                        case hl75 => (simp only [List.setIfInBounds_toArray, List.set_cons_succ, List.set_cons_zero]; try rfl)
                        case hw75 => rfl
                        case hv75 =>
                          intro W hW
                          skip
                          go_simp
                          try with_reducible rfl
                        case ha75 => (simp only [Act.put, List.setIfInBounds_toArray, List.set_cons_succ, List.set_cons_zero]; try rfl)
                        refine rh_takeS (i := 12) (o := ?o76) (v := ?v76) (listed' := ?l76) (a' := ?a76) ?hi76 (by kernel_rfl) (by kernel_rfl) (by kernel_rfl) ?hq76 ?hl76 ?hw76 ?hv76 ?ha76 HSu.out ?hh76
                        case hi76 => (simp only [List.getElem?_toArray, List.getElem?_cons_succ, List.getElem?_cons_zero]; try rfl)
                        case hq76 => exact fun _ _ _ h => h
                        case hl76 => (simp only [List.setIfInBounds_toArray, List.set_cons_succ, List.set_cons_zero]; try rfl)
                        case hw76 => rfl
                        case hv76 =>
                          intro W hW
                          skip
                          go_simp
                          try with_reducible rfl
                        case ha76 => (simp only [Act.put, List.setIfInBounds_toArray, List.set_cons_succ, List.set_cons_zero]; try rfl)
                        refine rh_takeS (i := 13) (o := ?o77) (v := ?v77) (listed' := ?l77) (a' := ?a77) ?hi77 (by kernel_rfl) (by kernel_rfl) (by kernel_rfl) ?hq77 ?hl77 ?hw77 ?hv77 ?ha77 HSu.out ?hh77
                        case hi77 => (simp only [List.getElem?_toArray, List.getElem?_cons_succ, List.getElem?_cons_zero]; try rfl)
                        case hq77 => exact fun _ _ _ h => h
                        case hl77 => (simp only [List.setIfInBounds_toArray, List.set_cons_succ, List.set_cons_zero]; try rfl)
                        case hw77 => rfl
                        case hv77 =>
                          intro W hW
                          skip
                          go_simp
                          try with_reducible rfl
                        case ha77 => (simp only [Act.put, List.setIfInBounds_toArray, List.set_cons_succ, List.set_cons_zero]; try rfl)
                        refine rh_takeS (i := 14) (o := ?o78) (v := ?v78) (listed' := ?l78) (a' := ?a78) ?hi78 (by kernel_rfl) (by kernel_rfl) (by kernel_rfl) ?hq78 ?hl78 ?hw78 ?hv78 ?ha78 HSu.out ?hh78
                        case hi78 => (simp only [List.getElem?_toArray, List.getElem?_cons_succ, List.getElem?_cons_zero]; try rfl)
                        case hq78 => exact fun _ _ _ h => h
                        case hl78 => (simp only [List.setIfInBounds_toArray, List.set_cons_succ, List.set_cons_zero]; try rfl)
                        case hw78 => rfl
                        case hv78 =>
                          intro W hW
                          skip
                          go_simp
                          try with_reducible rfl
                        case ha78 => (simp only [Act.put, List.setIfInBounds_toArray, List.set_cons_succ, List.set_cons_zero]; try rfl)
                        refine wpAnyH_done (by kernel_rfl) ?_ _
                        go_wp2_with fail
                        go_meet
                        exact ⟨_, _, _, rfl, rfl, hid ⟨HSu.out, HU.out⟩⟩
                    obtain ⟨ua, un, uc, rfl, rfl, HH⟩ := hcut
                    have HB11 := hid HH.out.1
                    have HU11 := hid HH.out.2
                    clear HH HAK
                    have c12 : wc.cell? ⟨bb, oo + j * 20 + 12, none⟩ = some (.slice o.m.vp.a o.m.vp.n o.m.vp.c) := HFO.out wc HB11.out 12 _ rfl
                    go_upto_region 27 with (first
                      | (at_builtin; refine wpList_append_slC rfl _ _ rfl wc.heap.size _ [] rfl (own_madeC wc) _ lq rfl (HU11.out.on ((Below.refl _ wc).alloc (Nat.le_refl _) _)) (by have := HLQL.out; simp; omega) (by simp) ?_; intro v22 w12 ho22 hg22; obtain ⟨a22, c22, n22, rfl, hn22⟩ := Own.asSlice ho22; have HO22 := hid ho22; have HB12 : Hid (Below wc.heap.size wc w12) := hid (((Below.refl wc.heap.size wc).alloc (Nat.le_refl _) _).grown hg22 (by simp) fun k hk => by injection hk with hk; subst hk; exact Nat.le_refl _); have c12' : w12.cell? ⟨bb, oo + j * 20 + 12, none⟩ = some (.slice o.m.vp.a o.m.vp.n o.m.vp.c) := HFO.out w12 (HB11.out.trans (HB12.out.mono HB11.out.size)) 12 _ rfl; clear ho22 hg22 hn22)
                      | fail)
                    have HOS12 : Hid (Sl w12 o.m.vp.v o.v) := hid (HOF.out.1.1.on (HS1.out.trans ((HB11.out.trans (HB12.out.mono HB11.out.size)).mono HS1.out.size)))
                    go_upto_region 28 with (first
                      | (at_builtin; have hq2 : lq.length + o.v.length ≤ 100000 := (by have := HLQL.out; have := HOL.out; omega); have hq1 : Own w12 wc.heap.size (.slice a22 n22 c22) lq := HO22.out; refine wpList_append_slC rfl _ _ rfl wc.heap.size _ lq rfl hq1 _ o.v rfl HOS12.out hq2 HB12.out.size ?_; clear hq1 hq2; intro v23 w13 ho23 hg23; obtain ⟨a23, c23, n23, rfl, hn23⟩ := Own.asSlice ho23; have HO23 := hid ho23; have HB13 : Hid (Below wc.heap.size wc w13) := hid (HB12.out.grown hg23 HB12.out.size fun k hk => (HO22.out.lt k hk).1); clear ho23 hg23 hn23)
                      | fail)
                    obtain ⟨w11, hw11⟩ : ∃ z, z = wc := ⟨_, rfl⟩
                    subst hw11
                    obtain ⟨nm, hnm⟩ : ∃ z : Sm, z = ⟨o.m.c, o.m.vt, ⟨a23, n23, c23⟩⟩ := ⟨_, rfl⟩
                    have HNM := hid hnm
                    clear hnm
                    have HB1x : Hid (Below w10.heap.size w10 w13) := hid (HB11.out.trans (HB13.out.mono HB11.out.size))
                    have HBrx : Hid (Below wr.heap.size wr w13) := hid (HS1.out.trans (HB1x.out.mono HS1.out.size))
                    skip
                    go_cut [23] from 96 to 182 (fun u wx => ∃ g : Nat, u = .pointer (some ⟨g, 0, none⟩) ∧ Hid (Below w13.heap.size w13 wx ∧ OSm wx g nm ∧ w13.heap.size ≤ g))
                    case first =>
                      as_aux_lemma =>
                        refine rh_start (S := fun W => Below w13.heap.size w13 W) (n := 15) (listed := #[false, false, false, false, false, false, false, false, false, false, false, false, false, false, false]) (by kernel_rfl) rfl rfl ?_
                        have HS5 : Hid (Below w13.heap.size w13 w13.drew) := hid (belowDrew (Below.refl _ w13))
                        generalize w13.drew = wd at HS5 ⊢
                        refine rh_takeS (i := 0) (o := ?o79) (v := ?v79) (listed' := ?l79) (a' := ?a79) ?hi79 (by kernel_rfl) (by kernel_rfl) (by kernel_rfl) ?hq79 ?hl79 ?hw79 ?hv79 ?ha79 HS5.out ?hh79
                        case hi79 => (simp only [List.getElem?_toArray, List.getElem?_cons_zero]; try rfl)
                        case hq79 => exact fun _ _ _ h => h
                        case hl79 => (simp only [List.setIfInBounds_toArray, List.set_cons_zero]; try rfl)
                        case hw79 => rfl
                        case hv79 =>
                          intro W hW
                          obtain ⟨d0, d1, d2, d3, d4, d5, d6, d7⟩ := HF1.out W (HBrx.out.trans (hW.mono HBrx.out.size))
                          go_simp
                          try with_reducible rfl
                        case ha79 => (simp only [Act.put, List.setIfInBounds_toArray, List.set_cons_succ, List.set_cons_zero]; try rfl)
                        refine rh_takeS (i := 1) (o := ?o80) (v := ?v80) (listed' := ?l80) (a' := ?a80) ?hi80 (by kernel_rfl) (by kernel_rfl) (by kernel_rfl) ?hq80 ?hl80 ?hw80 ?hv80 ?ha80 HS5.out ?hh80
                        case hi80 => (simp only [List.getElem?_toArray, List.getElem?_cons_succ, List.getElem?_cons_zero]; try rfl)
                        case hq80 => exact fun _ _ _ h => h
                        case hl80 => (simp only [List.setIfInBounds_toArray, List.set_cons_succ, List.set_cons_zero]; try rfl)
                        case hw80 => rfl
                        case hv80 =>
                          intro W hW
                          obtain ⟨d0, d1, d2, d3, d4, d5, d6, d7⟩ := HF1.out W (HBrx.out.trans (hW.mono HBrx.out.size))
                          go_simp
                          try with_reducible rfl
                        case ha80 => (simp only [Act.put, List.setIfInBounds_toArray, List.set_cons_succ, List.set_cons_zero]; try rfl)
                        refine rh_takeS (i := 2) (o := ?o81) (v := ?v81) (listed' := ?l81) (a' := ?a81) ?hi81 (by kernel_rfl) (by kernel_rfl) (by kernel_rfl) ?hq81 ?hl81 ?hw81 ?hv81 ?ha81 HS5.out ?hh81
                        case hi81 => (simp only [List.getElem?_toArray, List.getElem?_cons_succ, List.getElem?_cons_zero]; try rfl)
                        case hq81 => exact fun _ _ _ h => h
                        case hl81 => (simp only [List.setIfInBounds_toArray, List.set_cons_succ, List.set_cons_zero]; try rfl)
                        case hw81 => rfl
                        case hv81 =>
                          intro W hW
                          obtain ⟨d0, d1, d2, d3, d4, d5, d6, d7⟩ := HF1.out W (HBrx.out.trans (hW.mono HBrx.out.size))
                          go_simp
                          try with_reducible rfl
                        case ha81 => (simp only [Act.put, List.setIfInBounds_toArray, List.set_cons_succ, List.set_cons_zero]; try rfl)
                        refine rh_takeS (i := 3) (o := ?o82) (v := ?v82) (listed' := ?l82) (a' := ?a82) ?hi82 (by kernel_rfl) (by kernel_rfl) (by kernel_rfl) ?hq82 ?hl82 ?hw82 ?hv82 ?ha82 HS5.out ?hh82
                        case hi82 => (simp only [List.getElem?_toArray, List.getElem?_cons_succ, List.getElem?_cons_zero]; try rfl)
                        case hq82 => exact fun _ _ _ h => h
                        case hl82 => (simp only [List.setIfInBounds_toArray, List.set_cons_succ, List.set_cons_zero]; try rfl)
                        case hw82 => rfl
                        case hv82 =>
                          intro W hW
                          obtain ⟨d0, d1, d2, d3, d4, d5, d6, d7⟩ := HF1.out W (HBrx.out.trans (hW.mono HBrx.out.size))
                          go_simp
                          try with_reducible rfl
                        case ha82 => (simp only [Act.put, List.setIfInBounds_toArray, List.set_cons_succ, List.set_cons_zero]; try rfl)
                        refine rh_takeS (i := 4) (o := ?o83) (v := ?v83) (listed' := ?l83) (a' := ?a83) ?hi83 (by kernel_rfl) (by kernel_rfl) (by kernel_rfl) ?hq83 ?hl83 ?hw83 ?hv83 ?ha83 HS5.out ?hh83
                        case hi83 => (simp only [List.getElem?_toArray, List.getElem?_cons_succ, List.getElem?_cons_zero]; try rfl)
                        case hq83 => exact fun _ _ _ h => h
                        case hl83 => (simp only [List.setIfInBounds_toArray, List.set_cons_succ, List.set_cons_zero]; try rfl)
                        case hw83 => rfl
                        case hv83 =>
                          intro W hW
                          obtain ⟨d0, d1, d2, d3, d4, d5, d6, d7⟩ := HF1.out W (HBrx.out.trans (hW.mono HBrx.out.size))
                          go_simp
                          try with_reducible rfl
                        case ha83 => (simp only [Act.put, List.setIfInBounds_toArray, List.set_cons_succ, List.set_cons_zero]; try rfl)
                        refine rh_takeS (i := 5) (o := ?o84) (v := ?v84) (listed' := ?l84) (a' := ?a84) ?hi84 (by kernel_rfl) (by kernel_rfl) (by kernel_rfl) ?hq84 ?hl84 ?hw84 ?hv84 ?ha84 HS5.out ?hh84
                        case hi84 => (simp only [List.getElem?_toArray, List.getElem?_cons_succ, List.getElem?_cons_zero]; try rfl)
                        case hq84 => exact fun _ _ _ h => h
                        case hl84 => (simp only [List.setIfInBounds_toArray, List.set_cons_succ, List.set_cons_zero]; try rfl)
                        case hw84 => rfl
                        case hv84 =>
                          intro W hW
                          obtain ⟨d0, d1, d2, d3, d4, d5, d6, d7⟩ := HF1.out W (HBrx.out.trans (hW.mono HBrx.out.size))
                          go_simp
                          try with_reducible rfl
                        case ha84 => (simp only [Act.put, List.setIfInBounds_toArray, List.set_cons_succ, List.set_cons_zero]; try rfl)
                        refine rh_takeS (i := 6) (o := ?o85) (v := ?v85) (listed' := ?l85) (a' := ?a85) ?hi85 (by kernel_rfl) (by kernel_rfl) (by kernel_rfl) ?hq85 ?hl85 ?hw85 ?hv85 ?ha85 HS5.out ?hh85
                        case hi85 => (simp only [List.getElem?_toArray, List.getElem?_cons_succ, List.getElem?_cons_zero]; try rfl)
                        case hq85 => exact fun _ _ _ h => h
                        case hl85 => (simp only [List.setIfInBounds_toArray, List.set_cons_succ, List.set_cons_zero]; try rfl)
                        case hw85 => rfl
                        case hv85 =>
                          intro W hW
                          obtain ⟨d0, d1, d2, d3, d4, d5, d6, d7⟩ := HF1.out W (HBrx.out.trans (hW.mono HBrx.out.size))
                          go_simp
                          try with_reducible rfl
                        case ha85 => (simp only [Act.put, List.setIfInBounds_toArray, List.set_cons_succ, List.set_cons_zero]; try rfl)
                        refine rh_takeS (i := 7) (o := ?o86) (v := ?v86) (listed' := ?l86) (a' := ?a86) ?hi86 (by kernel_rfl) (by kernel_rfl) (by kernel_rfl) ?hq86 ?hl86 ?hw86 ?hv86 ?ha86 HS5.out ?hh86
                        case hi86 => (simp only [List.getElem?_toArray, List.getElem?_cons_succ, List.getElem?_cons_zero]; try rfl)
                        case hq86 => exact fun _ _ _ h => h
                        case hl86 => (simp only [List.setIfInBounds_toArray, List.set_cons_succ, List.set_cons_zero]; try rfl)
                        case hw86 => rfl
                        case hv86 =>
                          intro W hW
                          obtain ⟨d0, d1, d2, d3, d4, d5, d6, d7⟩ := HF1.out W (HBrx.out.trans (hW.mono HBrx.out.size))
                          go_simp
                          try with_reducible rfl
                        case ha86 => (simp only [Act.put, List.setIfInBounds_toArray, List.set_cons_succ, List.set_cons_zero]; try rfl)
                        refine rh_takeS (i := 8) (o := ?o87) (v := ?v87) (listed' := ?l87) (a' := ?a87) ?hi87 (by kernel_rfl) (by kernel_rfl) (by kernel_rfl) ?hq87 ?hl87 ?hw87 ?hv87 ?ha87 HS5.out ?hh87
                        case hi87 => (simp only [List.getElem?_toArray, List.getElem?_cons_succ, List.getElem?_cons_zero]; try rfl)
                        case hq87 => exact fun _ _ _ h => h
                        case hl87 => (simp only [List.setIfInBounds_toArray, List.set_cons_succ, List.set_cons_zero]; try rfl)
                        case hw87 => rfl
                        case hv87 =>
                          intro W hW
                          obtain ⟨d0, d1, d2, d3, d4, d5, d6, d7⟩ := HF1.out W (HBrx.out.trans (hW.mono HBrx.out.size))
                          go_simp
                          try with_reducible rfl
                        case ha87 => (simp only [Act.put, List.setIfInBounds_toArray, List.set_cons_succ, List.set_cons_zero]; try rfl)
                        refine rh_takeS (i := 9) (o := ?o88) (v := ?v88) (listed' := ?l88) (a' := ?a88) ?hi88 (by kernel_rfl) (by kernel_rfl) (by kernel_rfl) ?hq88 ?hl88 ?hw88 ?hv88 ?ha88 HS5.out ?hh88
                        case hi88 => (simp only [List.getElem?_toArray, List.getElem?_cons_succ, List.getElem?_cons_zero]; try rfl)
                        case hq88 => exact fun _ _ _ h => h
                        case hl88 => (simp only [List.setIfInBounds_toArray, List.set_cons_succ, List.set_cons_zero]; try rfl)
                        case hw88 => rfl
                        case hv88 =>
                          intro W hW
                          obtain ⟨d0, d1, d2, d3, d4, d5, d6, d7⟩ := HF1.out W (HBrx.out.trans (hW.mono HBrx.out.size))
                          go_simp
                          try with_reducible rfl
                        case ha88 => (simp only [Act.put, List.setIfInBounds_toArray, List.set_cons_succ, List.set_cons_zero]; try rfl)
                        refine rh_takeS (i := 10) (o := ?o89) (v := ?v89) (listed' := ?l89) (a' := ?a89) ?hi89 (by kernel_rfl) (by kernel_rfl) (by kernel_rfl) ?hq89 ?hl89 ?hw89 ?hv89 ?ha89 HS5.out ?hh89
                        case hi89 => (simp only [List.getElem?_toArray, List.getElem?_cons_succ, List.getElem?_cons_zero]; try rfl)
                        case hq89 => exact fun _ _ _ h => h
                        case hl89 => (simp only [List.setIfInBounds_toArray, List.set_cons_succ, List.set_cons_zero]; try rfl)
                        case hw89 => rfl
                        case hv89 =>
                          intro W hW
                          obtain ⟨d0, d1, d2, d3, d4, d5, d6, d7⟩ := HF1.out W (HBrx.out.trans (hW.mono HBrx.out.size))
                          go_simp
                          try with_reducible rfl
                        case ha89 => (simp only [Act.put, List.setIfInBounds_toArray, List.set_cons_succ, List.set_cons_zero]; try rfl)
                        refine rh_takeS (i := 11) (o := ?o90) (v := ?v90) (listed' := ?l90) (a' := ?a90) ?hi90 (by kernel_rfl) (by kernel_rfl) (by kernel_rfl) ?hq90 ?hl90 ?hw90 ?hv90 ?ha90 HS5.out ?hh90
                        case hi90 => (simp only [List.getElem?_toArray, List.getElem?_cons_succ, List.getElem?_cons_zero]; try rfl)
                        case hq90 => exact fun _ _ _ h => h
                        case hl90 => (simp only [List.setIfInBounds_toArray, List.set_cons_succ, List.set_cons_zero]; try rfl)
                        case hw90 => rfl
                        case hv90 =>
                          intro W hW
                          obtain ⟨d0, d1, d2, d3, d4, d5, d6, d7⟩ := HF1.out W (HBrx.out.trans (hW.mono HBrx.out.size))
                          go_simp
                          try with_reducible rfl
                        case ha90 => (simp only [Act.put, List.setIfInBounds_toArray, List.set_cons_succ, List.set_cons_zero]; try rfl)
                        refine rh_takeS (i := 12) (o := ?o92) (v := ?v92) (listed' := ?l92) (a' := ?a92) ?hi92 (by kernel_rfl) (by kernel_rfl) (by kernel_rfl) ?hq92 ?hl92 ?hw92 ?hv92 ?ha92 HS5.out ?hh92
                        case hi92 => (simp only [List.getElem?_toArray, List.getElem?_cons_succ, List.getElem?_cons_zero]; try rfl)
                        case hq92 => exact fun _ _ _ h => h
                        case hl92 => (simp only [List.setIfInBounds_toArray, List.set_cons_succ, List.set_cons_zero]; try rfl)
                        case hw92 => rfl
                        case hv92 =>
                          intro W hW
                          refine exec_buildSd (x := ?bsx) (y := ?bsy) (z := ?bsz) o.m.c o.m.vt a23 n23 c23 W ?bso ?bs1 ?bs2 ?bs3
                          case bso => rfl
                          case bs1 => rfl
                          case bs2 => rfl
                          case bs3 => rfl
                        case ha92 => (simp only [Act.put, List.setIfInBounds_toArray, List.set_cons_succ, List.set_cons_zero]; try rfl)
                        refine wpAnyH_ready (rs := [13]) (by kernel_rfl) (by simp) ?_
                        refine rh_cons (i := 13) (o := ?o93) (listed' := ?l93) ?hi93 ?hl93 ?hg93 ?hh93 ?hs93
                        case hi93 => (simp only [List.getElem?_toArray, List.getElem?_cons_succ, List.getElem?_cons_zero]; try rfl)
                        case hl93 => (simp only [List.setIfInBounds_toArray, List.set_cons_succ, List.set_cons_zero]; try rfl)
                        case hg93 => rfl
                        case hs93 => exact AllReadyH.nil
                        intro K hK
                        go_simp
                        have HS6 : Hid (Below w13.heap.size w13 (wd.alloc (.cells #[.int .i64 0, .int .i64 0, .int .i64 0, .int .i64 0, .int .i64 0, .int .i64 0, .int .i64 0, .int .i64 0, .slice Option.none 0 0] 74))) := hid (HS5.out.trans ((laid1_b wd (.cells #[.int .i64 0, .int .i64 0, .int .i64 0, .int .i64 0, .int .i64 0, .int .i64 0, .int .i64 0, .int .i64 0, .slice Option.none 0 0] 74)).mono HS5.out.size))
                        have HZ6 : Hid ((wd.alloc (.cells #[.int .i64 0, .int .i64 0, .int .i64 0, .int .i64 0, .int .i64 0, .int .i64 0, .int .i64 0, .int .i64 0, .slice Option.none 0 0] 74)).heap[wd.heap.size]? = some (.cells #[.int .i64 0, .int .i64 0, .int .i64 0, .int .i64 0, .int .i64 0, .int .i64 0, .int .i64 0, .int .i64 0, .slice Option.none 0 0] 74)) := hid (laid1_0 wd (.cells #[.int .i64 0, .int .i64 0, .int .i64 0, .int .i64 0, .int .i64 0, .int .i64 0, .int .i64 0, .int .i64 0, .slice Option.none 0 0] 74))
                        have HLB6 : Hid (w13.heap.size ≤ wd.heap.size) := hid HS5.out.size
                        refine hK.out _ _ HS6.out ?_
                        clear hK K
                        refine wpAnyH_ready (rs := [14]) (by kernel_rfl) (by simp) ?_
                        refine rh_storeN (i := 14) (o := ?o94) (listed' := ?l94) (x := ?x94) (y := ?y94) (b := wd.heap.size) (T := 74) nm.arr (infoSm' nm) nm.one ?hi94 ?hl94 ?hg94 ?ho94 ?hx94 ?hy94 ?hd94 HZ6.out (by rw [Sm.size]; rfl) ?hh94 ?hs94
                        case hi94 => (simp only [List.getElem?_toArray, List.getElem?_cons_succ, List.getElem?_cons_zero]; try rfl)
                        case hl94 => (simp only [List.setIfInBounds_toArray, List.set_cons_succ, List.set_cons_zero]; try rfl)
                        case hg94 => rfl
                        case ho94 => rfl
                        case hx94 => rfl
                        case hd94 => rfl
                        case hy94 => rw [HNM.out]; rfl
                        case hs94 => exact AllReadyH.nil
                        intro wq hO hU
                        have HSq := hid (HS6.out.trans (hU.below _ HLB6.out))
                        refine ⟨HSq.out, ?_⟩
                        refine wpAnyH_done (by kernel_rfl) ?_ _
                        go_wp2_with fail
                        go_meet
                        exact ⟨_, rfl, hid ⟨HSq.out, hO, HLB6.out⟩⟩
                    obtain ⟨w14, hw14⟩ : ∃ z, z = wc := ⟨_, rfl⟩
                    subst hw14
                    obtain ⟨g, rfl, HH⟩ := hcut
                    have HBg := hid HH.out.1
                    have HGN := hid HH.out.2.1
                    have HGL := hid HH.out.2.2
                    clear HH
                    go_wp2_with fail
                    have HBr4 := hid (HBrx.out.trans (HBg.out.mono HBrx.out.size))
                    have HL14 := hid (HL2.out.on HBr4.out)
                    have HV14 := hid ((HV7.out.said HT2.out).on HBr4.out)
                    have HO14 : Hid (Own w14 w11.heap.size (.slice a23 n23 c23) (lq ++ o.v)) := hid (own_sl_below HO23.out HBg.out)
                    have HNS : Hid (∀ W, Below w14.heap.size w14 W → Sl W nm.p.v (lq ++ o.v)) := hid (fun W hW => by rw [HNM.out]; exact (own_sl_below HO14.out hW).sl)
                    have HNF : Hid (∀ y ∈ sl2, FairP r.1.xs y.sa (Sx.sa ⟨nm, lq ++ o.v⟩)) := hid (fun y hy => by rw [HNM.out]; exact HFP.out _ (List.mem_map_of_mem hy))
                    have HLL2 : Hid ((lq ++ o.v).length ≤ 90000) := hid (by rw [List.length_append]; have := HLQL.out; have := HOL.out; omega)
                    obtain ⟨b9, o9, cap9, a9, e9, ha9, hr9, hl9⟩ := OwnG.slG kSm HL14.out.ow
                    have hlm : (sms sl2).length = sl2.length := by unfold sms; rw [List.length_map]
                    rw [hlm] at e9 ha9 hl9
                    injection e9 with e91 e92 e93
                    subst e91 e93
                    have HN9 := hid e92
                    have HA9 := hid ha9
                    have HR9 := hid hr9
                    have HLT9 := hid hl9
                    clear e92 ha9 hr9 hl9 hlm
                    have hln2 : ln2 ≤ 100000 := by have := HN9.out; have := HLL.out; have := HSL8.out; have := H40.out; omega
                    go_loopg [24, 25] ln2 (fun gg s24 s25 w2 => ∃ i : Nat, i ≤ ln2 ∧ ln2 - i ≤ gg ∧ s24 = .int .i64 i ∧ Hid (Below w14.heap.size w14 w2))
                    case atStart => exact ⟨0, Nat.zero_le _, by omega, rfl, hid (Below.refl _ _)⟩
                    case round =>
                    obtain ⟨i, hi9, hgg4, rfl, HB2⟩ := hrel
                    skip
                    by_cases hin : i < ln2
                    · as_aux_lemma =>
                        have hini : ((i : Int) < ln2) := by omega
                        obtain ⟨y, hy⟩ : ∃ y, sl2[i]? = some y := ⟨sl2[i]'(by rw [← HN9.out]; exact hin), List.getElem?_eq_getElem (by rw [← HN9.out]; exact hin)⟩
                        have hym := List.mem_of_getElem? hy
                        have HYM := hid hym
                        obtain rfl := HA9.out (by have := HN9.out; omega)
                        have hb9 := HLT9.out (by have := HN9.out; omega)
                        have HFY : Hid (∀ W, Below wr.heap.size wr W → W.rangeAt b9 (o9 + i * 9) y.m.list) := hid (fun W hW q9 u hu => ((HB2.out.trans (hW.mono HB2.out.size)).cell hb9).trans (HR9.out i y.m (at_sms hy) q9 u hu))
                        clear hy hym hb9
                        have HFN : Hid (∀ W, Below wr.heap.size wr W → W.rangeAt g 0 nm.list) := hid (fun W hW => OSm.range (show OSm W g nm from heapB HGN.out (HB2.out.trans (hW.mono HB2.out.size)) (Array.getElem?_eq_some_iff.1 HGN.out).1))
                        have HFF : Hid (∀ W, Below wr.heap.size wr W → Calls Tryz.prog 24 #[ptr q, .agg y.m.arr, .agg nm.arr] W fun e w' => e = .returned (.bool true) ∧ Below W.heap.size W w') := hid (fun W hW => cFair (was := y) (now := ⟨nm, lq ++ o.v⟩) (HV14.out.on (HB2.out.trans (hW.mono HB2.out.size))) (HL14.out.wf y HYM.out) (HNS.out W (HB2.out.trans (hW.mono HB2.out.size))) (Nat.le_trans HLL2.out (by decide)) (HNF.out y HYM.out))
                        go_upto_region 32 with fail
                        refine rh_start (S := fun W => Below wr.heap.size wr W) (n := 8) (listed := #[false, false, false, false, false, false, false, false]) (by kernel_rfl) rfl rfl ?_
                        have HS7x : Hid (Below wr.heap.size wr (wr).drew) := hid (belowDrew (Below.refl _ _))
                        generalize World.drew wr = wd at HS7x ⊢
                        refine rh_takeS (i := 0) (o := ?o95) (v := ?v95) (listed' := ?l95) (a' := ?a95) ?hi95 (by kernel_rfl) (by kernel_rfl) (by kernel_rfl) ?hq95 ?hl95 ?hw95 ?hv95 ?ha95 HS7x.out ?hh95
                        case hi95 => (simp only [List.getElem?_toArray, List.getElem?_cons_zero]; try rfl)
                        case hq95 => exact fun _ _ _ h => h
                        case hl95 => (simp only [List.setIfInBounds_toArray, List.set_cons_zero]; try rfl)
                        case hw95 => rfl
                        case hv95 =>
                          intro W hW
                          skip
                          go_simp
                          try with_reducible rfl
                        case ha95 => (simp only [Act.put, List.setIfInBounds_toArray, List.set_cons_succ, List.set_cons_zero]; try rfl)
                        refine rh_takeS (i := 1) (o := ?o96) (v := ?v96) (listed' := ?l96) (a' := ?a96) ?hi96 (by kernel_rfl) (by kernel_rfl) (by kernel_rfl) ?hq96 ?hl96 ?hw96 ?hv96 ?ha96 HS7x.out ?hh96
                        case hi96 => (simp only [List.getElem?_toArray, List.getElem?_cons_succ, List.getElem?_cons_zero]; try rfl)
                        case hq96 => exact fun _ _ _ h => h
                        case hl96 => (simp only [List.setIfInBounds_toArray, List.set_cons_succ, List.set_cons_zero]; try rfl)
                        case hw96 => rfl
                        case hv96 =>
                          intro W hW
                          skip
                          go_simp
                          try with_reducible rfl
                        case ha96 => (simp only [Act.put, List.setIfInBounds_toArray, List.set_cons_succ, List.set_cons_zero]; try rfl)
                        refine rh_takeS (i := 2) (o := ?o97) (v := ?v97) (listed' := ?l97) (a' := ?a97) ?hi97 (by kernel_rfl) (by kernel_rfl) (by kernel_rfl) ?hq97 ?hl97 ?hw97 ?hv97 ?ha97 HS7x.out ?hh97
                        case hi97 => (simp only [List.getElem?_toArray, List.getElem?_cons_succ, List.getElem?_cons_zero]; try rfl)
                        case hq97 => exact fun _ _ _ h => h
                        case hl97 => (simp only [List.setIfInBounds_toArray, List.set_cons_succ, List.set_cons_zero]; try rfl)
                        case hw97 => rfl
                        case hv97 =>
                          intro W hW
                          skip
                          go_simp
                          try with_reducible rfl
                        case ha97 => (simp only [Act.put, List.setIfInBounds_toArray, List.set_cons_succ, List.set_cons_zero]; try rfl)
                        refine rh_takeS (i := 3) (o := ?o98) (v := ?v98) (listed' := ?l98) (a' := ?a98) ?hi98 (by kernel_rfl) (by kernel_rfl) (by kernel_rfl) ?hq98 ?hl98 ?hw98 ?hv98 ?ha98 HS7x.out ?hh98
                        case hi98 => (simp only [List.getElem?_toArray, List.getElem?_cons_succ, List.getElem?_cons_zero]; try rfl)
                        case hq98 => exact fun _ _ _ h => h
                        case hl98 => (simp only [List.setIfInBounds_toArray, List.set_cons_succ, List.set_cons_zero]; try rfl)
                        case hw98 => rfl
                        case hv98 =>
                          intro W hW
                          skip
                          go_simp
                          try with_reducible rfl
                        case ha98 => (simp only [Act.put, List.setIfInBounds_toArray, List.set_cons_succ, List.set_cons_zero]; try rfl)
                        refine rh_load (i := 4) (o := ?o99) (cs := y.m.list) (T := 74) (x := ?x99) (b := ?b99) (q := ?q99) (listed' := ?l99) (a' := ?a99) ?hi99 (by kernel_rfl) (by kernel_rfl) (by kernel_rfl) ?hq99 ?hl99 ?hg99 ?ho99 ?hx99 ?hc99 Tryz.underlying74 rfl (infoSm y.m) ?ha99 HS7x.out ?hh99
                        case hi99 => (simp only [List.getElem?_toArray, List.getElem?_cons_succ, List.getElem?_cons_zero]; try rfl)
                        case hq99 => exact fun _ _ _ h => h
                        case hl99 => (simp only [List.setIfInBounds_toArray, List.set_cons_succ, List.set_cons_zero]; try rfl)
                        case hg99 => rfl
                        case ho99 => rfl
                        case hx99 => rfl
                        case hc99 => exact fun W hW => HFY.out W hW
                        case ha99 => (show Act.put _ _ (Value.agg y.m.arr) = _); (simp only [Act.put, List.setIfInBounds_toArray, List.set_cons_succ, List.set_cons_zero]; try rfl)
                        refine rh_load (i := 5) (o := ?o100) (cs := nm.list) (T := 74) (x := ?x100) (b := ?b100) (q := ?q100) (listed' := ?l100) (a' := ?a100) ?hi100 (by kernel_rfl) (by kernel_rfl) (by kernel_rfl) ?hq100 ?hl100 ?hg100 ?ho100 ?hx100 ?hc100 Tryz.underlying74 rfl (infoSm nm) ?ha100 HS7x.out ?hh100
                        case hi100 => (simp only [List.getElem?_toArray, List.getElem?_cons_succ, List.getElem?_cons_zero]; try rfl)
                        case hq100 => exact fun _ _ _ h => h
                        case hl100 => (simp only [List.setIfInBounds_toArray, List.set_cons_succ, List.set_cons_zero]; try rfl)
                        case hg100 => rfl
                        case ho100 => rfl
                        case hx100 => rfl
                        case hc100 => exact fun W hW => HFN.out W hW
                        case ha100 => (show Act.put _ _ (Value.agg nm.arr) = _); (simp only [Act.put, List.setIfInBounds_toArray, List.set_cons_succ, List.set_cons_zero]; try rfl)
                        refine wpAnyH_ready (rs := [6]) (by kernel_rfl) (by simp) ?_
                        refine rh_cons (i := 6) (o := ?o101) (listed' := ?l101) ?hi101 ?hl101 ?hg101 ?hh101 ?hs101
                        case hi101 => (simp only [List.getElem?_toArray, List.getElem?_cons_succ, List.getElem?_cons_zero]; try rfl)
                        case hl101 => (simp only [List.setIfInBounds_toArray, List.set_cons_succ, List.set_cons_zero]; try rfl)
                        case hg101 => rfl
                        case hs101 => exact AllReadyH.nil
                        intro K hK
                        go_simp
                        refine (HFF.out _ HS7x.out).mono ?_
                        rintro z w15 ⟨rfl, hB⟩
                        have HS8 := hid (HS7x.out.trans (hB.mono HS7x.out.size))
                        refine hK.out _ _ HS8.out ?_
                        clear hK K
                        refine rh_takeS (i := 7) (o := ?o102) (v := ?v102) (listed' := ?l102) (a' := ?a102) ?hi102 (by kernel_rfl) (by kernel_rfl) (by kernel_rfl) ?hq102 ?hl102 ?hw102 ?hv102 ?ha102 HS8.out ?hh102
                        case hi102 => (simp only [List.getElem?_toArray, List.getElem?_cons_succ, List.getElem?_cons_zero]; try rfl)
                        case hq102 => exact fun _ _ _ h => h
                        case hl102 => (simp only [List.setIfInBounds_toArray, List.set_cons_succ, List.set_cons_zero]; try rfl)
                        case hw102 => rfl
                        case hv102 =>
                          intro W hW
                          skip
                          go_simp
                          try with_reducible rfl
                        case ha102 => (simp only [Act.put, List.setIfInBounds_toArray, List.set_cons_succ, List.set_cons_zero]; try rfl)
                        refine wpAnyH_done (by kernel_rfl) ?_ _
                        go_wp2_with fail
                        go_roundg (ln2 - (i + 1))
                        case measure => omega
                        case rel => exact ⟨i + 1, by omega, by omega, by go_num, hid (HB2.out.trans (HS8.out.mono HB2.out.size))⟩
                    · as_aux_lemma =>
                        have hini : ¬ ((i : Int) < ln2) := by omega
                        have HG2 : Hid (OSm wr g nm) := hid (heapB HGN.out HB2.out (Array.getElem?_eq_some_iff.1 HGN.out).1)
                        have HL15 := hid (HL14.out.on HB2.out)
                        have hsz15 : w.heap.size ≤ wr.heap.size := Nat.le_trans (Nat.le_trans HB8.out.size HBwA.out.size) (Nat.le_trans HB1x.out.size (Nat.le_trans HBg.out.size HB2.out.size))
                        have tk1 : Hid (0 = 0) := hid rfl
                        have tk2 : Hid (0 = 0) := hid rfl
                        have tk3 : Hid (0 = 0) := hid rfl
                        go_upto_region 35 with fail
                        go_wp2_with (first
                          | (clear tk1; (refine loadSd (x := ?lx103) (b := g) nm ?lg103 ?lo103 ?lxx103 ?lc103 ?lh103); (case lg103 => rfl); (case lo103 => rfl); (case lxx103 => rfl); (case lc103 => exact HG2.out))
                          | (clear tk2; (refine wpList_bsSd (x := ?bx104) nm ?bg104 ?bo104 ?be104 ?bh104); (case bg104 => rfl); (case bo104 => rfl); (case be104 => rfl); intro w16 hO hBb hWb; have HO16 := hid hO; have HB16 := hid hBb; have HL16 := hid (HL15.out.on hBb); clear hO hBb hWb)
                          | (clear tk3; at_builtin; refine wpList_append_ss rfl _ _ rfl w.heap.size _ (sms sl2) rfl HL16.out.ow _ [nm] rfl (HO16.out.sl 1) (fun h => absurd h (by simp)) (by have := HLL.out; have := HSL8.out; have := H40.out; unfold sms; simp; omega) (Nat.le_trans hsz15 HB16.out.size) ?_; intro v17 w17 ho17 hg17; obtain ⟨a17, c17, n17, rfl, hn17⟩ := OwnG.asSlice ho17; have HO17 := hid ho17; have HG17 := hid hg17; have hjb : j ≤ 100000 := (by omega); have HGI := hid (And.intro hgg4 hi9); clear ho17 hg17 hn17 hin hini hgg4 hi9 hln2 hsz15)
                          | fail)
                        have hs1 : SetF (Bd.mk1 w.heap.size) w16 nm.p.v (lq ++ o.v) := by rw [HNM.out]; exact (Own.slT (own_sl_below HO14.out (HB2.out.trans (HB16.out.mono HB2.out.size)))).setF
                        have hs2 : (Lit.int .i64 nm.c.i).wf = true := by rw [HNM.out]; exact HWFo.out
                        have HMO := Ls.more (w0 := w16) (w := w16) (w' := w17) (B := w.heap.size) (l := sl2) (y := ⟨nm, lq ++ o.v⟩) HL16.out HO17.out HG17.out hs1 hs2 HLL2.out
                        clear hs1 hs2
                        have HLN17 := hid HMO.1
                        have HT17 := hid HMO.2
                        clear HMO
                        go_roundg (n14 - (j + 1))
                        case measure => omega
                        case rel => exact ⟨j + 1, a17, n17, c17, sl2 ++ [⟨nm, lq ++ o.v⟩], by omega, by omega, by go_num, rfl, HLN17, hid (by rw [sayAll_next _ _ HOA.out, ← HEQ.out]; unfold sayF; rw [if_pos ⟨HSO.out.symm.trans HS1'.out, HFB.out.symm⟩, HLQ.out, List.map_append, HNM.out]; rfl), hid (by rw [List.length_append]; have := HLL.out; simp; omega), hid (tss_seq (tss_below (tss_below (tss_below HT10.out (HB1x.out.trans (HBg.out.mono HB1x.out.size))) HB2.out) HB16.out) HT17.out)⟩
              · as_aux_lemma =>
                  have s1b : (so != 1) = true := by simpa using h1
                  have HNO : Hid (¬ (o.an.so = 1 ∧ firstB (sl2.map Sx.sa) o.an.c.i o.an.vt = true)) := hid (fun h => h1 (HSO.out.trans h.1))
                  clear h1
                  go_wp2_with fail
                  go_roundg (n14 - (j + 1))
                  case measure => omega
                  case rel => exact ⟨j + 1, la2, ln2, lc2, sl2, by omega, by omega, by go_num, rfl, HL10, hid (by rw [sayAll_next _ _ HOA.out, ← HEQ.out]; unfold sayF; rw [if_neg (fun h => HNO.out h)]), hid (by have := HLL.out; omega), HT10⟩
          · as_aux_lemma =>
              have hjj : ¬ ((j : Int) < n14) := by omega
              have hjn : j = r.2.2.length := by rw [HRL.out]; omega
              have HJN := hid hjn
              clear hjn
              go_wp2_with fail
              go_roundg (m - (k + 1))
              case measure => omega
              case rel => exact ⟨k + 1, r.1, r.2.1, wv6, la2, ln2, lc2, sl2, by omega, by omega, by go_num, rfl, hid ((HV7.out.said HT2.out).mono (by have := HWL.out; have := HAS.out.1; have := H40.out; omega)), hid ⟨HPN.out.iv, HSS.out.2.1⟩, hid (by have := HLN.out; have := HWL.out; omega), hid (HB8.out.trans HBw2.out), HL2, hid (by have h := HSS.out.2.2; rw [HEQ.out, HJN.out, List.take_length]; exact h), hid (by have := HLL.out; have := HSL.out; omega)⟩
    · have hkk : k = m := by omega
      subst hkk
      go_wp2_with fail
      go_at_call 8
      refine (cVAlive wr).mono ?_
      rintro e wz ⟨rfl, hBz⟩
      have HBz := hid (HB.out.trans (hBz.mono HB.out.size))
      clear hBz
      go_wp2_with fail
      go_ret
      exact ⟨rfl, HBz.out⟩
end Go.Proofs.YtlehcaacfgocaaaGreat

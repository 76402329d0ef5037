import Derived.Test.YtpkkmfppdhjpkaaGreatGa37
import Derived.Test.YtpkkmfppdhjpkaaGreatJMathM
import Derived.Carry
/- The program's Open, of a disk whose log has records that were put. -/
namespace Go.Proofs.YtpkkmfppdhjpkaaGreat
set_option linter.unusedVariables false
open Go.RowKit Go.Maps
open Go.Lib (hid)

/-- The last record's clock. -/
def lastC (rs : List (Nat × En)) : Nat := (rs.map Prod.fst).getLast?.getD 0
theorem lastC_nil : lastC [] = 0 := rfl
theorem lastC_snoc (rs : List (Nat × En)) (r : Nat × En) : lastC (rs ++ [r]) = r.1 := by simp [lastC]
theorem take_snocG {α : Type} {l : List α} {k : Nat} {x : α} (h : l[k]? = some x) : l.take (k + 1) = l.take k ++ [x] := by rw [List.take_add_one, h]; rfl
set_option maxHeartbeats 4000000 in
set_option maxRecDepth 100000 in
theorem cJOpen {w : World} {p B whole : Nat} {room s : Int} {v : Value} {l : List UInt8} {rs : List (Nat × En)} (hd : Dk w p room v s) (hv : OwnB w B v l) (hl : l.length ≤ 1000000) (hsc : scanN l = (rs.map fun r => recB r.1 r.2, whole)) (hwh : whole ≤ l.length) (hn : rs.length ≤ 1000)
    (hr : ∀ (k : Nat) r, rs[k]? = some r → r.2.right = true ∧ r.2.short 80 ∧ r.1 ≤ 65535 ∧ lastC (rs.take k) ≤ r.1) :
    Calls Tryz.prog 7 #[ptr p] w fun z w' => ∃ j b xs, z = .returned (.tuple #[ptr j, .int .i64 0]) ∧ Jn w' j (ptr p) b (lastC rs) ∧ Mp w' b rs.length xs ∧ (∃ v', Dk w' p room v' whole ∧ OwnB w' B v' (l.take whole)) ∧ xs.map En.ct = rs.map (fun r => r.2.ct) ∧ AllAt w' xs ∧ Tch (fun k => k = p) w w' ∧ w.heap.size ≤ j ∧ w.heap.size ≤ b := by
  have HD := hid hd
  have HV := hid hv
  have HR := hid hr
  have HSC := hid hsc
  have hC := cBytes hd hv.slb hl
  clear hd hv hr hsc
  go_enter Tryz.func7, Tryz.ntmps7
  go_wp2_with fail
  go_at_call 20
  refine hC.mono ?_
  rintro z w1 ⟨r1, rfl, hO1, hB1⟩
  have HB1 := hid hB1
  have HO1 := hid hO1.slb
  obtain ⟨g1, c1, n1, rfl, -⟩ := hO1.asSlice
  clear hO1 hB1 hC
  go_wp2_with fail
  go_at_call 19
  refine (cScan HO1.out hl).mono ?_
  rintro z w2 ⟨r2, ps, rfl, hO2, hps, hB2⟩
  rw [HSC.out] at hps ⊢
  have HB2 := hid (HB1.out.trans (hB2.mono HB1.out.size))
  have hS2 := hO2.sl
  rw [hps] at hS2
  obtain ⟨b2, o2, cap2, a2, qs, hq, rfl, hcap, ha, hrow, hbl⟩ := hS2
  rw [List.length_map] at hcap ha hbl ⊢
  have HQ := hid hq
  have HROW := hid hrow
  clear hO2 hps hB2 HB1 HO1 hq hrow
  have hmk : Sem.run Tryz.prog (Instr.makeMap 70 none) w2 = .ok (.map (some w2.heap.size)) (w2.alloc (.map #[] 0)) := run_makeMap _ _
  go_wp2_with fail
  obtain ⟨W3, hW3⟩ : ∃ W3, W3 = (w2.alloc (.map #[] 0)).alloc (.cells #[ptr p, .map (some w2.heap.size), .int .i64 0] 72) := ⟨_, rfl⟩
  have hal1 : Below w2.heap.size w2 (w2.alloc (.map #[] 0)) := (Below.refl _ w2).alloc (Nat.le_refl _) _
  have HB3 : Hid (Below w2.heap.size w2 W3) := hid (by rw [hW3]; exact hal1.alloc hal1.size _)
  have HM3 : Hid (Mp W3 w2.heap.size 0 []) := hid (by rw [hW3]; exact (Mp.made w2).on ((Below.refl _ _).alloc (Nat.le_refl _) _))
  have HJ3 : Hid (Jn W3 (w2.heap.size + 1) (ptr p) w2.heap.size 0) := hid (by rw [hW3]; have := heap_alloc_new (w2.alloc (.map #[] 0)) (.cells #[ptr p, .map (some w2.heap.size), .int .i64 0] 72); rwa [World.size_alloc] at this)
  clear hal1
  first | rw [← hW3] | trace_state
  clear hW3
  go_loopw [26] (fun i wr => ∃ (k : Nat) (xs : List En), k ≤ rs.length ∧ i = .int .i64 k ∧ Jn wr (w2.heap.size + 1) (ptr p) w2.heap.size (lastC (rs.take k)) ∧ Mp wr w2.heap.size k xs ∧ AllAt wr xs ∧ xs.map En.ct = (rs.take k).map (fun r => r.2.ct) ∧ Below w2.heap.size w2 wr) (fun i _ => rs.length - (intOf i).toNat)
  case atStart => exact ⟨0, [], Nat.zero_le _, rfl, HJ3.out, HM3.out, fun x hx => by simp at hx, rfl, HB3.out⟩
  case round =>
    obtain ⟨k, xs, hk, rfl, hj, hm, hat, hct, hB⟩ := hrel
    have HJ := hid hj
    have HM := hid hm
    have HA := hid hat
    have HC := hid hct
    have HB := hid hB
    clear hj hm hat hct hB
    by_cases hlt : k < rs.length
    · obtain rfl := ha (by omega)
      obtain ⟨r, hrk⟩ : ∃ r, rs[k]? = some r := ⟨rs[k], List.getElem?_eq_getElem hlt⟩
      obtain ⟨hr1, hr2, hr3, hr4⟩ := HR.out k r hrk
      obtain ⟨⟨⟨pa, pn, pc⟩, lb⟩, hqk⟩ : ∃ q, qs[k]? = some q := by
        have hlq : qs.length = rs.length := by have := congrArg List.length HQ.out; simpa using this
        exact ⟨qs[k]'(by omega), List.getElem?_eq_getElem (by omega)⟩
      have hlb : lb = recB r.1 r.2 := by
        have h1 := congrArg (fun l => l[k]?) HQ.out
        simp only [List.getElem?_map, hqk, hrk, Option.map_some, Option.some.injEq] at h1
        exact h1
      subst hlb
      have h0 := HROW.out k _ hqk
      have hbl2 := hbl (by omega)
      have k0 : wr.cell? ⟨b2, o2 + k, none⟩ = some (.slice pa pn pc) := (HB.out.cell (p := ⟨b2, o2 + k, none⟩) hbl2).trans h0.1
      have HS := hid (h0.2.on HB.out)
      have HLN := hid (rec_len hr1 hr2 hr3)
      have HRK := hid hrk
      have c0 : ¬ (r.1 : Int) < (lastC (rs.take k) : Int) := by omega
      have c1 : decide ((r.1 : Int) < (lastC (rs.take k) : Int)) = false := decide_eq_false c0
      have c2 : decide (r.1 < lastC (rs.take k)) = false := decide_eq_false (by omega)
      clear hqk h0 hrk
      go_wp2_with fail
      go_at_call 21
      refine (cJDecode HS.out hr3 hr1 (by have := HLN.out.2; omega)).mono ?_
      rintro z w4 ⟨y, rfl, hy, hya, hB4⟩
      have HY := hid hy
      have HJ4 := hid (show Jn w4 (w2.heap.size + 1) (ptr p) w2.heap.size (lastC (rs.take k)) from obOn HJ.out hB4 (Array.getElem?_eq_some_iff.1 HJ.out).1)
      have HM4 := hid (HM.out.on hB4)
      have HA4 := hid (HA.out.on hB4)
      have HYA := hid hya
      have HB4 := hid (HB.out.trans (hB4.mono HB.out.size))
      clear hy hya hB4 HJ HM HA HB HS k0
      have hroom : Room (w4.alloc zeroEc) w4.heap.size 48 := ⟨_, heap_alloc_new w4 zeroEc, rfl⟩
      go_wp2_with (first
        | ((with_reducible refine uponStore (e := y.e) (q := w4.heap.size) (T := 48) hroom ?_); intro W5 hO5 hU5; have hb5 : Below w4.heap.size w4 W5 := ((Below.refl _ w4).alloc (Nat.le_refl _) _).trans (hU5.below _ (Nat.le_refl _)); have HJ5 := hid (show Jn W5 (w2.heap.size + 1) (ptr p) w2.heap.size (lastC (rs.take k)) from obOn HJ4.out hb5 (Array.getElem?_eq_some_iff.1 HJ4.out).1); have HM5 := hid (HM4.out.on hb5); have HA5 := hid (HA4.out.on hb5); have HYA5 := hid (HYA.out.on hb5); have HB5 := hid (HB4.out.trans (hb5.mono HB4.out.size)); have HO5 := hid hO5; have k5 : W5.cell? ⟨w2.heap.size + 1, 2, none⟩ = some (.int .i64 (lastC (rs.take k))) := (cellAt' HJ5.out 2).trans rfl; clear hO5 hU5 hb5)
        | ((with_reducible refine loadC (x := ?cx1) (b := ?cb1) (T := 48) y.e ?cg1 ?co1 ?cxx1 ?cc1 ?_); (case cg1 => rfl); (case co1 => rfl); (case cxx1 => rfl); (case cc1 => exact HO5.out))
        | fail)
      go_at_call 22
      have hyr : (Lit.int .i64 y.id).wf = true := by
        have h1 : y.id = r.2.id := congrArg (fun t : Ev × List C7 × List C7 × List C7 => t.1.c.i) HY.out
        rw [h1]; exact id_wf hr1
      refine (cKeep HJ5.out HM5.out (by unfold maxLen; omega) hyr).mono ?_
      rintro z w6 ⟨rfl, hj6, hm6, hT⟩
      have hno : ∀ q, (q = w2.heap.size + 1 ∨ q = w2.heap.size) → ∀ i, 6 ≤ i → W5.cell? ⟨q, i, none⟩ = none := fun q e i hi => e.elim (fun e => e ▸ HJ5.out.nocell i hi) (fun e => e ▸ HM5.out.nocell i)
      have HA6 := hid (HA5.out.tch hT hno)
      have HY6 := hid (HYA5.out.tch hT hno)
      have HB6 := hid (HB5.out.trans (hT.below (fun q e => e.elim (fun e => by omega) (fun e => by omega)) HB5.out.size))
      have HJ6 := hid hj6
      have HM6 := hid hm6
      have HLC := hid (show (lastC (rs.take (k + 1)) : Int) = (r.1 : Int) by rw [take_snocG HRK.out, lastC_snoc])
      clear hj6 hm6 hT hno hyr c0 c1 c2 k5
      go_wp2_with fail
      go_roundw
      case rel => exact ⟨k + 1, xs ++ [y], by omega, rfl, by rw [HLC.out]; exact HJ6.out, HM6.out, fun x hx => by
        rcases List.mem_append.1 hx with h | h
        · exact HA6.out x h
        · rw [List.mem_singleton.1 h]; exact HY6.out, by rw [List.map_append, take_snocG HRK.out, List.map_append, HC.out]; simp [HY.out], HB6.out⟩
      case measure => simp [intOf]; omega
    · have hkk : k = rs.length := by omega
      subst hkk
      rw [List.take_length] at HJ HC
      have hBW : Below w.heap.size w wr := HB2.out.trans (HB.out.mono HB2.out.size)
      have hpl := (Array.getElem?_eq_some_iff.1 HD.out).1
      have hdr : Dk wr p room v s := obOn HD.out hBW hpl
      have hvr : OwnB wr B v l := own_below HV.out hBW fun k hk => (HV.out.lt k hk).2
      have hCut := cCut_yes hdr hvr whole hwh
      have HBW := hid hBW
      have HSZ := hid HB2.out.size
      have HDR := hid hdr
      clear hBW hdr hvr ha hbl
      go_wp2_with (go_at_call 23; refine hCut.mono ?_; rintro z w7 ⟨rfl, ⟨v7, hd7, hv7, -⟩, hg7⟩)
      have hT := Tch.ofGrown (S := fun k => k = p) hg7 fun k e => (Option.some.inj e).symm
      obtain ⟨es, clk, hm⟩ := HM.out.obj
      have nj : ¬ (w2.heap.size + 1 = p) := Tri.ne HDR.out HJ.out (fun cur e => by cases e)
      have nb : ¬ (w2.heap.size = p) := Tri.ne HDR.out hm (fun cur e => by cases e)
      have hno : ∀ q, q = p → ∀ i, 6 ≤ i → wr.cell? ⟨q, i, none⟩ = none := fun q e i hi => by
        subst e
        have h' : wr.heap[q]? = some (.cells #[.int .i64 room, v, .int .i64 s] 65 (0, 0)) := HDR.out
        rw [cellAt' h', Array.getElem?_eq_none (by simp; omega)]
      go_ret2
      exact ⟨w2.heap.size + 1, w2.heap.size, xs, rfl, hT.ob HJ.out nj, HM.out.keptT hT nb, ⟨v7, hd7, hv7⟩, HC.out, HA.out.tch hT hno, (Tch.ofBelow HBW.out).trans hT, by have := HSZ.out; omega, HSZ.out⟩
end Go.Proofs.YtpkkmfppdhjpkaaGreat

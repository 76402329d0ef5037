/- The walk of the law PredsUnion: whatever the commands, it returns true. -/
import Derived.Test.YtpocfhcdffobhaaAlive
import Derived.Test.YtpocfhcdffobhaaUnion
import Derived.Test.YtpocfhcdffobhaaEqual
namespace Go.Proofs.Ytpocfhcdffobhaa
set_option linter.unusedVariables false
open Go.RowKit
open Go.Lib (hid)

theorem cUnionE {g : Nat} {v v' : Value} {xs ys l : List C7} {E : Int} {w : World} (hg : g < w.heap.size) (h0 : w.cell? ⟨g, 0, none⟩ = some v) (h1 : w.cell? ⟨g, 1, none⟩ = some v') (ha : Sl w v xs) (hb : Sl w v' ys) (hl : xs.length ≤ 500) (hl' : ys.length ≤ 500) (hE : ofE (xs ++ ys) = E) (hL : ofL (xs ++ ys) = l) :
    Calls Try.prog 8 #[.slice (some ⟨g, 0, none⟩) 2 2] w fun e w' => ∃ r, e = .returned (.tuple #[r, .int .i64 E]) ∧ Own w' w.heap.size r l ∧ Below w.heap.size w w' := by
  subst hE hL
  exact cUnion hg h0 h1 ha hb hl hl'
theorem cSame_self {v v' : Value} {l : List C7} {w : World} (h : Sl w v l) (h' : Sl w v' l) (hl : l.length ≤ 100000) : Calls Try.prog 20 #[v, v'] w fun e w' => e = .returned (.bool true) ∧ Below w.heap.size w w' := by
  have := cSame h h' hl hl
  rwa [show sameB l l = true from decide_eq_true rfl] at this
theorem has_sure {v : Value} {l : List C7} {w : World} (h : Sl w v l) (hl : l.length ≤ 100000) {c : C7} (hc : c ∈ l) : Calls Try.prog 21 #[v, c.v] w fun e w' => e = .returned (.bool true) ∧ Below w.heap.size w w' := by
  have := rHas h hl c
  rwa [has_iff.2 hc] at this
theorem right_sure {v : Value} {cs : List C7} {w : World} (h : Sl w v (ofL cs)) (hE : ofE cs = 0) (hl : cs.length ≤ 1024) : Calls Try.prog 18 #[v] w fun e w' => e = .returned (.bool true) ∧ Below w.heap.size w w' := by
  have := cSetRight h (Nat.le_trans (ofL_len cs) hl)
  rwa [setB_of hE hl] at this
theorem not_both {a b : List C7} {x : C7} (h : x ∈ a ∨ x ∈ b) : ¬ (hasB a x = false ∧ hasB b x = false) := fun ⟨h1, h2⟩ => by
  rcases h with h' | h'
  · rw [has_iff.2 h'] at h1; simp at h1
  · rw [has_iff.2 h'] at h2; simp at h2
theorem cells_on {w w' : World} {a0 a1 a2 a3 a4 a5 a6 : Addr} {v0 v1 v2 v3 v4 v5 v6 : Value} (h : Below w.heap.size w w') (h0 : w.cell? a0 = some v0) (h1 : w.cell? a1 = some v1) (h2 : w.cell? a2 = some v2) (h3 : w.cell? a3 = some v3) (h4 : w.cell? a4 = some v4) (h5 : w.cell? a5 = some v5) (h6 : w.cell? a6 = some v6) :
    w'.cell? a0 = some v0 ∧ w'.cell? a1 = some v1 ∧ w'.cell? a2 = some v2 ∧ w'.cell? a3 = some v3 ∧ w'.cell? a4 = some v4 ∧ w'.cell? a5 = some v5 ∧ w'.cell? a6 = some v6 := by
  have k : ∀ {a : Addr} {v : Value}, w.cell? a = some v → w'.cell? a = some v := fun {a v} ha => (h.cell (World.block_lt_of_cell? w a ha)).trans ha
  exact ⟨k h0, k h1, k h2, k h3, k h4, k h5, k h6⟩

set_option maxHeartbeats 4000000 in
set_option maxRecDepth 100000 in
theorem wUnion_wrong {va vb : Value} {cs ds : List C7} {w : World} (ha : Sl w va cs) (hb : Sl w vb ds) (hl : cs.length ≤ 120) (hl2 : ds.length ≤ 120) {E : Int} (hE : ofE (cs ++ ds) = E) (hn : ¬ E = 0) (hnil : ofL (cs ++ ds) = []) : Calls Try.prog 4 #[va, vb] w fun e w' => e = .returned (.bool true) ∧ Below w.heap.size w w' := by
  have hA := hid ha
  have hB := hid hb
  have HW := hid (Below.refl w.heap.size w)
  obtain ⟨_, _, capa, aa, rfl, _⟩ := ha
  obtain ⟨_, _, capb, ab, rfl, _⟩ := hb
  go_enter Try.func4, Try.ntmps4
  go_wp2_with fail
  try go_at_call 8
  refine (cUnionE (by simp) (by simp) (by simp) (hA.out.on ((Below.refl w.heap.size w).alloc (Nat.le_refl _) _)) (hB.out.on ((Below.refl w.heap.size w).alloc (Nat.le_refl _) _)) (by omega) (by omega) hE hnil).mono ?_
  rintro e w1 ⟨r1, rfl, ho1, hb1⟩; obtain ⟨bu, ou, cu, au, rfl, _⟩ := ho1.sl.open
  have hU := hid (ho1.sl)
  clear ho1
  have hq : Below w.heap.size w w1 := ((Below.refl w.heap.size w).alloc (Nat.le_refl _) _).trans (hb1.mono (by simp))
  clear hb1
  replace hA := hid (hA.out.on hq)
  replace hB := hid (hB.out.on hq)
  replace HW := hid (HW.out.trans (hq.mono HW.out.size))
  clear hq
  go_wp2_with fail
  try go_at_call 8
  refine (cUnionE (by simp) (by simp) (by simp) (hB.out.on ((Below.refl w1.heap.size w1).alloc (Nat.le_refl _) _)) (hA.out.on ((Below.refl w1.heap.size w1).alloc (Nat.le_refl _) _)) (by omega) (by omega) ((union_back cs ds).1 ▸ hE) ((union_back cs ds).2.symm.trans hnil)).mono ?_
  rintro e w2 ⟨r2, rfl, ho2, hb2⟩
  have hV := hid (ho2.sl)
  clear ho2
  have hq : Below w1.heap.size w1 w2 := ((Below.refl w1.heap.size w1).alloc (Nat.le_refl _) _).trans (hb2.mono (by simp))
  clear hb2
  replace hA := hid (hA.out.on hq)
  replace hB := hid (hB.out.on hq)
  replace hU := hid (hU.out.on hq)
  replace HW := hid (HW.out.trans (hq.mono HW.out.size))
  clear hq
  go_wp2_with fail
  try go_at_call 20
  refine (cSame_self hU.out hV.out (by simp)).mono ?_
  rintro e w3 ⟨rfl, hb3⟩
  replace hA := hid (hA.out.on hb3)
  replace hB := hid (hB.out.on hb3)
  replace hU := hid (hU.out.on hb3)
  replace hV := hid (hV.out.on hb3)
  replace HW := hid (HW.out.trans (hb3.mono HW.out.size))
  clear hb3
  clear hV
  go_wp2_with fail
  try go_at_call 5
  refine (cAlive w3).mono ?_
  rintro e w4 ⟨rfl, hb4⟩
  replace hA := hid (hA.out.on hb4)
  replace hB := hid (hB.out.on hb4)
  replace hU := hid (hU.out.on hb4)
  replace HW := hid (HW.out.trans (hb4.mono HW.out.size))
  clear hb4
  go_wp2
  go_ret
  exact ⟨rfl, HW.out⟩

set_option maxHeartbeats 8000000 in
set_option maxRecDepth 100000 in
theorem wUnion_right {va vb : Value} {cs ds : List C7} {w : World} (ha : Sl w va cs) (hb : Sl w vb ds) (hl : cs.length ≤ 120) (hl2 : ds.length ≤ 120) (hE : ofE (cs ++ ds) = 0) : Calls Try.prog 4 #[va, vb] w fun e w' => e = .returned (.bool true) ∧ Below w.heap.size w w' := by
  have hA := hid ha
  have hB := hid hb
  have HW := hid (Below.refl w.heap.size w)
  obtain ⟨_, _, capa, aa, rfl, _⟩ := ha
  obtain ⟨_, _, capb, ab, rfl, _⟩ := hb
  have hlu := ofL_len (cs ++ ds)
  rw [List.length_append] at hlu
  go_enter Try.func4, Try.ntmps4
  go_wp2_with fail
  try go_at_call 8
  refine (cUnionE (by simp) (by simp) (by simp) (hA.out.on ((Below.refl w.heap.size w).alloc (Nat.le_refl _) _)) (hB.out.on ((Below.refl w.heap.size w).alloc (Nat.le_refl _) _)) (by omega) (by omega) hE rfl).mono ?_
  rintro e w1 ⟨r1, rfl, ho1, hb1⟩; obtain ⟨bu, ou, cu, au, rfl, _⟩ := ho1.sl.open
  have hU := hid (ho1.sl)
  clear ho1
  have hq : Below w.heap.size w w1 := ((Below.refl w.heap.size w).alloc (Nat.le_refl _) _).trans (hb1.mono (by simp))
  clear hb1
  replace hA := hid (hA.out.on hq)
  replace hB := hid (hB.out.on hq)
  replace HW := hid (HW.out.trans (hq.mono HW.out.size))
  clear hq
  go_wp2_with fail
  try go_at_call 8
  refine (cUnionE (by simp) (by simp) (by simp) (hB.out.on ((Below.refl w1.heap.size w1).alloc (Nat.le_refl _) _)) (hA.out.on ((Below.refl w1.heap.size w1).alloc (Nat.le_refl _) _)) (by omega) (by omega) ((union_back cs ds).1 ▸ hE) ((union_back cs ds).2.symm)).mono ?_
  rintro e w2 ⟨r2, rfl, ho2, hb2⟩
  have hV := hid (ho2.sl)
  clear ho2
  have hq : Below w1.heap.size w1 w2 := ((Below.refl w1.heap.size w1).alloc (Nat.le_refl _) _).trans (hb2.mono (by simp))
  clear hb2
  replace hA := hid (hA.out.on hq)
  replace hB := hid (hB.out.on hq)
  replace hU := hid (hU.out.on hq)
  replace HW := hid (HW.out.trans (hq.mono HW.out.size))
  clear hq
  go_wp2_with fail
  try go_at_call 20
  refine (cSame_self hU.out hV.out (by omega)).mono ?_
  rintro e w3 ⟨rfl, hb3⟩
  replace hA := hid (hA.out.on hb3)
  replace hB := hid (hB.out.on hb3)
  replace hU := hid (hU.out.on hb3)
  replace hV := hid (hV.out.on hb3)
  replace HW := hid (HW.out.trans (hb3.mono HW.out.size))
  clear hb3
  clear hV
  go_wp2_with fail
  go_loopw [9] (fun i wr => ∃ k : Nat, k ≤ cs.length ∧ i = .int .i64 k ∧ Below w3.heap.size w3 wr) (fun i _ => cs.length - (intOf i).toNat)
  case atStart => exact ⟨0, Nat.zero_le _, rfl, Below.refl _ _⟩
  case round =>
    obtain ⟨k, hk, rfl, hq⟩ := hrel
    replace hA := hid (hA.out.on hq)
    replace hB := hid (hB.out.on hq)
    replace hU := hid (hU.out.on hq)
    replace HW := hid (HW.out.trans (hq.mono HW.out.size))
    have HQ := hid hq
    clear hq
    by_cases hlt : k < cs.length
    · obtain ⟨x, hx⟩ : ∃ x, cs[k]? = some x := ⟨cs[k], List.getElem?_eq_getElem hlt⟩
      obtain ⟨ba, oa, capx, ax, hvx, hha, hca, hba⟩ := hA.out.open
      cases hvx
      obtain rfl := hha (by omega)
      obtain ⟨c0, c1, c2, c3, c4, c5, c6⟩ := hca.at hx
      have HX := hid hx
      clear hx hca hba hha
      have hH := has_sure hU.out (by omega) ((union_mem hE x).2 (.inl (List.mem_of_getElem? HX.out)))
      go_wp2_with (go_at_call 21; refine hH.mono ?_; rintro e w1 ⟨rfl, hb1⟩)
      go_roundw
      case rel => exact ⟨k + 1, by omega, by go_num, HQ.out.trans (hb1.mono HQ.out.size)⟩
      case measure => simp [intOf]; omega
    · obtain ⟨wa, hnw⟩ : ∃ q, q = wr := ⟨_, rfl⟩
      subst hnw
      clear HQ
      go_wp2_with fail
      go_loopw [11] (fun i wr => ∃ k : Nat, k ≤ ds.length ∧ i = .int .i64 k ∧ Below wa.heap.size wa wr) (fun i _ => ds.length - (intOf i).toNat)
      case atStart => exact ⟨0, Nat.zero_le _, rfl, Below.refl _ _⟩
      case round =>
        obtain ⟨k, hk, rfl, hq⟩ := hrel
        replace hA := hid (hA.out.on hq)
        replace hB := hid (hB.out.on hq)
        replace hU := hid (hU.out.on hq)
        replace HW := hid (HW.out.trans (hq.mono HW.out.size))
        have HQ := hid hq
        clear hq
        by_cases hlt : k < ds.length
        · obtain ⟨x, hx⟩ : ∃ x, ds[k]? = some x := ⟨ds[k], List.getElem?_eq_getElem hlt⟩
          obtain ⟨ba, oa, capx, ax, hvx, hha, hca, hba⟩ := hB.out.open
          cases hvx
          obtain rfl := hha (by omega)
          obtain ⟨c0, c1, c2, c3, c4, c5, c6⟩ := hca.at hx
          have HX := hid hx
          clear hx hca hba hha
          have hH := has_sure hU.out (by omega) ((union_mem hE x).2 (.inr (List.mem_of_getElem? HX.out)))
          go_wp2_with (go_at_call 21; refine hH.mono ?_; rintro e w1 ⟨rfl, hb1⟩)
          go_roundw
          case rel => exact ⟨k + 1, by omega, by go_num, HQ.out.trans (hb1.mono HQ.out.size)⟩
          case measure => simp [intOf]; omega
        · obtain ⟨wb, hnw⟩ : ∃ q, q = wr := ⟨_, rfl⟩
          subst hnw
          clear HQ
          go_wp2_with fail
          go_loopw [13] (fun i wr => ∃ k : Nat, k ≤ (ofL (cs ++ ds)).length ∧ i = .int .i64 k ∧ Below wb.heap.size wb wr) (fun i _ => (ofL (cs ++ ds)).length - (intOf i).toNat)
          case atStart => exact ⟨0, Nat.zero_le _, rfl, Below.refl _ _⟩
          case round =>
            obtain ⟨k, hk, rfl, hq⟩ := hrel
            replace hA := hid (hA.out.on hq)
            replace hB := hid (hB.out.on hq)
            replace hU := hid (hU.out.on hq)
            replace HW := hid (HW.out.trans (hq.mono HW.out.size))
            have HQ := hid hq
            clear hq
            by_cases hlt : k < (ofL (cs ++ ds)).length
            · obtain ⟨x, hx⟩ : ∃ x, (ofL (cs ++ ds))[k]? = some x := ⟨(ofL (cs ++ ds))[k], List.getElem?_eq_getElem hlt⟩
              obtain ⟨ba, oa, capx, ax, hvx, hha, hca, hba⟩ := hU.out.open
              cases hvx
              obtain rfl := hha (by omega)
              obtain ⟨c0, c1, c2, c3, c4, c5, c6⟩ := hca.at hx
              have HX := hid hx
              clear hx hca hba hha
              have hx2 := (union_mem hE x).1 (List.mem_of_getElem? HX.out)
              have hH1 := rHas hA.out (by omega) x
              have hH2 := fun W (hb : Below wr.heap.size wr W) => rHas (hB.out.on hb) (by omega) x
              have hno := hid (not_both hx2)
              clear hx2
              rcases hv1 : hasB cs x with _ | _
              · rw [hv1] at hH1
                rcases hv2 : hasB ds x with _ | _
                · exact absurd ⟨hv1, hv2⟩ hno.out
                · rw [hv2] at hH2
                  clear hv1 hv2 hno
                  go_wp2_with fail
                  go_at_call 21
                  refine hH1.mono ?_
                  rintro e w1 ⟨rfl, hb1⟩
                  obtain ⟨e0, e1, e2, e3, e4, e5, e6⟩ := cells_on hb1 c0 c1 c2 c3 c4 c5 c6
                  have hH3 := hH2 _ hb1
                  have HB1 := hid hb1
                  clear hb1 hH1 hH2 c0 c1 c2 c3 c4 c5 c6
                  go_wp2_with fail
                  go_at_call 21
                  refine hH3.mono ?_
                  rintro e w2 ⟨rfl, hb2⟩
                  have HB2 := hid (HB1.out.trans (hb2.mono HB1.out.size))
                  clear hb2 hH3
                  go_wp2
                  go_roundw
                  case rel => exact ⟨k + 1, by omega, by go_num, HQ.out.trans (HB2.out.mono HQ.out.size)⟩
                  case measure => simp [intOf]; omega
              · rw [hv1] at hH1
                rcases hv2 : hasB ds x with _ | _
                · rw [hv2] at hH2
                  clear hv1 hv2 hno
                  go_wp2_with fail
                  go_at_call 21
                  refine hH1.mono ?_
                  rintro e w1 ⟨rfl, hb1⟩
                  obtain ⟨e0, e1, e2, e3, e4, e5, e6⟩ := cells_on hb1 c0 c1 c2 c3 c4 c5 c6
                  have hH3 := hH2 _ hb1
                  have HB1 := hid hb1
                  clear hb1 hH1 hH2 c0 c1 c2 c3 c4 c5 c6
                  go_wp2_with fail
                  go_at_call 21
                  refine hH3.mono ?_
                  rintro e w2 ⟨rfl, hb2⟩
                  have HB2 := hid (HB1.out.trans (hb2.mono HB1.out.size))
                  clear hb2 hH3
                  go_wp2
                  go_roundw
                  case rel => exact ⟨k + 1, by omega, by go_num, HQ.out.trans (HB2.out.mono HQ.out.size)⟩
                  case measure => simp [intOf]; omega
                · rw [hv2] at hH2
                  clear hv1 hv2 hno
                  go_wp2_with fail
                  go_at_call 21
                  refine hH1.mono ?_
                  rintro e w1 ⟨rfl, hb1⟩
                  obtain ⟨e0, e1, e2, e3, e4, e5, e6⟩ := cells_on hb1 c0 c1 c2 c3 c4 c5 c6
                  have hH3 := hH2 _ hb1
                  have HB1 := hid hb1
                  clear hb1 hH1 hH2 c0 c1 c2 c3 c4 c5 c6
                  go_wp2_with fail
                  go_at_call 21
                  refine hH3.mono ?_
                  rintro e w2 ⟨rfl, hb2⟩
                  have HB2 := hid (HB1.out.trans (hb2.mono HB1.out.size))
                  clear hb2 hH3
                  go_wp2
                  go_roundw
                  case rel => exact ⟨k + 1, by omega, by go_num, HQ.out.trans (HB2.out.mono HQ.out.size)⟩
                  case measure => simp [intOf]; omega
            · obtain ⟨wc, hnw⟩ : ∃ q, q = wr := ⟨_, rfl⟩
              subst hnw
              clear HQ
              go_wp2_with fail
              try go_at_call 13
              refine (cMinus hU.out hB.out (by omega) (by omega)).mono ?_
              rintro e w11 ⟨r11, rfl, ho11, hb11⟩; obtain ⟨_, _, cr, ar, rfl, _⟩ := ho11.sl.open
              have hR := hid (ho11.sl)
              clear ho11
              replace hA := hid (hA.out.on hb11)
              replace hB := hid (hB.out.on hb11)
              replace hU := hid (hU.out.on hb11)
              replace HW := hid (HW.out.trans (hb11.mono HW.out.size))
              clear hb11
              have hml := minus_len (ofL (cs ++ ds)) ds
              go_wp2_with fail
              try go_at_call 8
              refine (cUnionE (by simp) (by simp) (by simp) (hR.out.on ((Below.refl w11.heap.size w11).alloc (Nat.le_refl _) _)) (hB.out.on ((Below.refl w11.heap.size w11).alloc (Nat.le_refl _) _)) (by omega) (by omega) (union_rest hE).1 (union_rest hE).2).mono ?_
              rintro e w12 ⟨r12, rfl, ho12, hb12⟩
              have hZ := hid (ho12.sl)
              clear ho12
              have hq : Below w11.heap.size w11 w12 := ((Below.refl w11.heap.size w11).alloc (Nat.le_refl _) _).trans (hb12.mono (by simp))
              clear hb12
              replace hA := hid (hA.out.on hq)
              replace hB := hid (hB.out.on hq)
              replace hU := hid (hU.out.on hq)
              replace hR := hid (hR.out.on hq)
              replace HW := hid (HW.out.trans (hq.mono HW.out.size))
              clear hq
              go_wp2_with fail
              try go_at_call 5
              refine (cAlive w12).mono ?_
              rintro e w13 ⟨rfl, hb13⟩
              replace hA := hid (hA.out.on hb13)
              replace hB := hid (hB.out.on hb13)
              replace hU := hid (hU.out.on hb13)
              replace hR := hid (hR.out.on hb13)
              replace hZ := hid (hZ.out.on hb13)
              replace HW := hid (HW.out.trans (hb13.mono HW.out.size))
              clear hb13
              go_wp2_with fail
              try go_at_call 18
              refine (right_sure hU.out hE (by simp; omega)).mono ?_
              rintro e w14 ⟨rfl, hb14⟩
              replace hA := hid (hA.out.on hb14)
              replace hB := hid (hB.out.on hb14)
              replace hU := hid (hU.out.on hb14)
              replace hR := hid (hR.out.on hb14)
              replace hZ := hid (hZ.out.on hb14)
              replace HW := hid (HW.out.trans (hb14.mono HW.out.size))
              clear hb14
              go_wp2_with fail
              try go_at_call 20
              refine (cSame_self hZ.out hU.out (by omega)).mono ?_
              rintro e w15 ⟨rfl, hb15⟩
              replace hA := hid (hA.out.on hb15)
              replace hB := hid (hB.out.on hb15)
              replace hU := hid (hU.out.on hb15)
              replace hR := hid (hR.out.on hb15)
              replace hZ := hid (hZ.out.on hb15)
              replace HW := hid (HW.out.trans (hb15.mono HW.out.size))
              clear hb15
              go_wp2
              go_ret
              exact ⟨rfl, HW.out⟩

end Go.Proofs.Ytpocfhcdffobhaa


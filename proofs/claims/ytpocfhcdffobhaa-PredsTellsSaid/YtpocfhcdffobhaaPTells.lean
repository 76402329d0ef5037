/- The walk of the law PredsTells: whatever the commands and the number, it returns true. -/
import Derived.Test.YtpocfhcdffobhaaAlive
import Derived.Test.YtpocfhcdffobhaaUnion
import Derived.Test.YtpocfhcdffobhaaEqual
namespace Go.Proofs.Ytpocfhcdffobhaa
set_option linter.unusedVariables false
open Go.RowKit
open Go.Lib (hid)

theorem c7_zero : (default : C7) = ⟨0, 0, 0, 0, 0, 0, 0⟩ := rfl
theorem same_self {v v' : Value} {l : List C7} {w : World} (h : Sl w v l) (h' : Sl w v' l) (hl : l.length ≤ 100000) : Calls Try.prog 10 #[v, v'] w fun e w' => e = .returned (.bool true) ∧ Below w.heap.size w w' := by
  have := rSame h h' hl hl
  rwa [show sameB l l = true from decide_eq_true rfl] at this
theorem cFind_none {v : Value} {cs : List C7} {w : World} (h : Sl w v cs) (hl : cs.length ≤ 100000) {id : Int} (hp : placeI cs id = none) : Calls Try.prog 11 #[v, .int .i64 id] w fun e w' => e = .returned (.tuple #[cmV 0 0 0 0 0 0 0, .bool false]) ∧ Below w.heap.size w w' := by
  have := cFind h hl id
  rwa [(found_none hp).1, (found_none hp).2] at this
theorem cFind_some {v : Value} {cs : List C7} {w : World} (h : Sl w v cs) (hl : cs.length ≤ 100000) {id : Int} {j : Nat} {c : C7} (hp : placeI cs id = some j) (hc : cs[j]? = some c) : Calls Try.prog 11 #[v, .int .i64 id] w fun e w' => e = .returned (.tuple #[cmV c.i c.k c.s c.t c.d c.p c.q, .bool true]) ∧ Below w.heap.size w w' := by
  have := cFind h hl id
  rwa [(found_some hp hc).1, (found_some hp hc).2] at this
theorem rFind_none {cs : List C7} {id : Int} (hp : placeI cs id = none) {v : Value} {w : World} (h : Sl w v cs) (hl : cs.length ≤ 100000) : Calls Try.prog 12 #[v, .int .i64 id] w fun e w' => e = .returned (.int .i64 (-1)) ∧ w = w' := by
  have := rFind h hl id
  rwa [placeV_none hp] at this
theorem rFind_some {cs : List C7} {id : Int} {j : Nat} (hp : placeI cs id = some j) {v : Value} {w : World} (h : Sl w v cs) (hl : cs.length ≤ 100000) : Calls Try.prog 12 #[v, .int .i64 id] w fun e w' => e = .returned (.int .i64 j) ∧ w = w' := by
  have := rFind h hl id
  rwa [placeV_some hp] at this

set_option maxHeartbeats 4000000 in
set_option maxRecDepth 100000 in
theorem wTells {va vb : Value} {cs ds : List C7} {w : World} (ha : Sl w va cs) (hb : Sl w vb ds) (hl : cs.length ≤ 120) (hl2 : ds.length ≤ 120) (id : Int) : Calls Try.prog 3 #[va, vb, .int .i64 id] w fun e w' => e = .returned (.bool true) ∧ Below w.heap.size w w' := by
  have hA := hid ha
  have hB := hid hb
  have HW := hid (Below.refl w.heap.size w)
  obtain ⟨_, _, capa, aa, rfl, _⟩ := ha
  obtain ⟨_, _, capb, ab, rfl, _⟩ := hb
  have hlo := ofL_len cs
  have hlu := ofL_len (cs ++ ds)
  rw [List.length_append] at hlu
  have hml := minus_len cs ds
  have hil : (idsL cs).length ≤ 100000 := by unfold idsL; rw [List.length_map]; omega
  go_enter Try.func3, Try.ntmps3
  go_wp2_with fail
  go_at_call 6
  refine (cOf hA.out (by omega)).mono ?_
  rintro e w1 ⟨r1, rfl, ho1, hb1⟩
  have hX := hid (ho1.sl)
  clear ho1
  replace hA := hid (hA.out.on hb1)
  replace hB := hid (hB.out.on hb1)
  replace HW := hid (HW.out.trans (hb1.mono HW.out.size))
  clear hb1
  go_wp2_with fail
  go_at_call 7
  refine (rOf hA.out (by omega)).mono ?_
  rintro e w2 ⟨r2, rfl, ho2, hb2⟩
  have hY := hid (ho2.sl)
  clear ho2
  replace hA := hid (hA.out.on hb2)
  replace hB := hid (hB.out.on hb2)
  replace hX := hid (hX.out.on hb2)
  replace HW := hid (HW.out.trans (hb2.mono HW.out.size))
  clear hb2
  go_wp2_with fail
  go_at_call 8
  refine (cUnion (by simp) (by simp) (by simp) (hA.out.on ((Below.refl w2.heap.size w2).alloc (Nat.le_refl _) _)) (hB.out.on ((Below.refl w2.heap.size w2).alloc (Nat.le_refl _) _)) (by omega) (by omega)).mono ?_
  rintro e w3 ⟨r3, rfl, ho3, hb3⟩
  have hU := hid (ho3.sl)
  clear ho3
  have hq : Below w2.heap.size w2 w3 := ((Below.refl w2.heap.size w2).alloc (Nat.le_refl _) _).trans (hb3.mono (by simp))
  clear hb3
  replace hA := hid (hA.out.on hq)
  replace hB := hid (hB.out.on hq)
  replace hX := hid (hX.out.on hq)
  replace hY := hid (hY.out.on hq)
  replace HW := hid (HW.out.trans (hq.mono HW.out.size))
  clear hq
  go_wp2_with fail
  go_at_call 9
  refine (rUnion hA.out hB.out (by omega) (by omega)).mono ?_
  rintro e w4 ⟨r4, rfl, ho4, hb4⟩
  have hV := hid (ho4.sl)
  clear ho4
  replace hA := hid (hA.out.on hb4)
  replace hB := hid (hB.out.on hb4)
  replace hX := hid (hX.out.on hb4)
  replace hY := hid (hY.out.on hb4)
  replace hU := hid (hU.out.on hb4)
  replace HW := hid (HW.out.trans (hb4.mono HW.out.size))
  clear hb4
  go_wp2_with fail
  go_at_call 10
  refine (same_self hX.out hY.out (by omega)).mono ?_
  rintro e w5 ⟨rfl, hb5⟩
  replace hA := hid (hA.out.on hb5)
  replace hB := hid (hB.out.on hb5)
  replace hX := hid (hX.out.on hb5)
  replace hY := hid (hY.out.on hb5)
  replace hU := hid (hU.out.on hb5)
  replace hV := hid (hV.out.on hb5)
  replace HW := hid (HW.out.trans (hb5.mono HW.out.size))
  clear hb5
  go_wp2_with fail
  go_at_call 10
  refine (same_self hU.out hV.out (by omega)).mono ?_
  rintro e w6 ⟨rfl, hb6⟩
  replace hA := hid (hA.out.on hb6)
  replace hB := hid (hB.out.on hb6)
  replace hU := hid (hU.out.on hb6)
  replace hV := hid (hV.out.on hb6)
  replace HW := hid (HW.out.trans (hb6.mono HW.out.size))
  clear hb6
  clear hX hY hU hV hlo hlu
  rcases hp : placeI cs id with _ | j
  · have hF := cFind_none hA.out (by omega) hp
    have hE := neqC (show (default : C7).same default = true from C7.same_iff.2 rfl)
    have hG := fun op p q W => guardC op p q default default W
    simp only [C7.v, cmV, c7_zero] at hE hG
    have HP := hid hp
    clear hp
    go_wp2_with fail
    go_at_call 11
    refine (hF).mono ?_
    rintro e w7 ⟨rfl, hb7⟩
    replace hA := hid (hA.out.on hb7)
    replace hB := hid (hB.out.on hb7)
    replace HW := hid (HW.out.trans (hb7.mono HW.out.size))
    clear hb7
    go_wp2_with fail
    go_at_call 12
    have hal : Below w7.heap.size w7 (w7.alloc (.cells #[.int .i64 0, .int .i64 0, .int .i64 0, .int .i64 0, .int .i64 0, .int .i64 0, .int .i64 0] 34)) := (Below.refl _ _).alloc (Nat.le_refl _) _
    refine (rFind_none HP.out (hA.out.on hal) (by omega)).mono ?_
    rintro e wz ⟨rfl, rfl⟩
    replace hA := hid (hA.out.on hal)
    replace hB := hid (hB.out.on hal)
    replace HW := hid (HW.out.trans (hal.mono HW.out.size))
    clear hal hF
    go_wp2_with fail
    go_quiet (fail)
    replace hA := hid (hA.out.drewN nq)
    replace hB := hid (hB.out.drewN nq)
    replace HW := hid (Below.drewN' HW.out nq)
    go_wp2_with fail
    go_at_call 13
    refine (cMinus hA.out hB.out (by omega) (by omega)).mono ?_
    rintro e w8 ⟨r8, rfl, ho8, hb8⟩
    have hX := hid (ho8.sl)
    clear ho8
    replace hA := hid (hA.out.on hb8)
    replace hB := hid (hB.out.on hb8)
    replace HW := hid (HW.out.trans (hb8.mono HW.out.size))
    clear hb8
    go_wp2_with fail
    go_at_call 14
    refine (rMinus hA.out hB.out (by omega) (by omega)).mono ?_
    rintro e w9 ⟨r9, rfl, ho9, hb9⟩
    have hY := hid (ho9.sl)
    clear ho9
    replace hA := hid (hA.out.on hb9)
    replace hB := hid (hB.out.on hb9)
    replace hX := hid (hX.out.on hb9)
    replace HW := hid (HW.out.trans (hb9.mono HW.out.size))
    clear hb9
    go_wp2_with fail
    go_at_call 10
    refine (same_self hX.out hY.out (by omega)).mono ?_
    rintro e w10 ⟨rfl, hb10⟩
    replace hA := hid (hA.out.on hb10)
    replace hB := hid (hB.out.on hb10)
    replace hX := hid (hX.out.on hb10)
    replace hY := hid (hY.out.on hb10)
    replace HW := hid (HW.out.trans (hb10.mono HW.out.size))
    clear hb10
    go_wp2_with fail
    go_at_call 16
    refine (cIds hA.out (by omega)).mono ?_
    rintro e w11 ⟨r11, rfl, ho11, hb11⟩
    have hI := hid (OwnI.sl ho11)
    clear ho11
    replace hA := hid (hA.out.on hb11)
    replace hB := hid (hB.out.on hb11)
    replace HW := hid (HW.out.trans (hb11.mono HW.out.size))
    clear hb11
    go_wp2_with fail
    go_at_call 17
    refine (rIds hA.out (by omega)).mono ?_
    rintro e w12 ⟨r12, rfl, ho12, hb12⟩
    have hJ := hid (OwnI.sl ho12)
    clear ho12
    replace hA := hid (hA.out.on hb12)
    replace hB := hid (hB.out.on hb12)
    replace hI := hid (hI.out.on hb12)
    replace HW := hid (HW.out.trans (hb12.mono HW.out.size))
    clear hb12
    go_wp2_with fail
    go_at_call 15
    refine (rSameIds hI.out hJ.out (by omega)).mono ?_
    rintro e w13 ⟨rfl, hb13⟩
    replace hA := hid (hA.out.on hb13)
    replace hB := hid (hB.out.on hb13)
    replace hI := hid (hI.out.on hb13)
    replace hJ := hid (hJ.out.on hb13)
    replace HW := hid (HW.out.trans (hb13.mono HW.out.size))
    clear hb13
    go_wp2_with fail
    go_at_call 5
    refine (cAlive w13).mono ?_
    rintro e w14 ⟨rfl, hb14⟩
    replace hA := hid (hA.out.on hb14)
    replace hB := hid (hB.out.on hb14)
    replace HW := hid (HW.out.trans (hb14.mono HW.out.size))
    clear hb14
    go_wp2_with fail
    go_at_call 18
    refine (cSetRight hA.out (by omega)).mono ?_
    rintro e w15 ⟨rfl, hb15⟩
    replace hA := hid (hA.out.on hb15)
    replace hB := hid (hB.out.on hb15)
    replace HW := hid (HW.out.trans (hb15.mono HW.out.size))
    clear hb15
    go_wp2_with fail
    go_at_call 19
    refine (rSetRight hA.out (by omega)).mono ?_
    rintro e w16 ⟨rfl, hb16⟩
    replace hA := hid (hA.out.on hb16)
    replace hB := hid (hB.out.on hb16)
    replace HW := hid (HW.out.trans (hb16.mono HW.out.size))
    clear hb16
    go_wp2_with fail
    go_at_call 20
    refine (cSame hA.out hB.out (by omega) (by omega)).mono ?_
    rintro e w17 ⟨rfl, hb17⟩
    replace hA := hid (hA.out.on hb17)
    replace hB := hid (hB.out.on hb17)
    replace HW := hid (HW.out.trans (hb17.mono HW.out.size))
    clear hb17
    go_wp2_with fail
    go_at_call 10
    refine (rSame hA.out hB.out (by omega) (by omega)).mono ?_
    rintro e w18 ⟨rfl, hb18⟩
    replace hA := hid (hA.out.on hb18)
    replace hB := hid (hB.out.on hb18)
    replace HW := hid (HW.out.trans (hb18.mono HW.out.size))
    clear hb18
    go_wp2
    go_ret
    exact ⟨rfl, HW.out⟩
  · obtain ⟨hjl, c, hj, hci⟩ := placeI_some hp
    clear hci
    have hF := cFind_some hA.out (by omega) hp hj
    have hj0 : decide ((j : Int) ≥ 0) = true := decide_eq_true (by omega)
    have HJ := hid hj
    have HP := hid hp
    clear hp hj
    go_wp2_with fail
    go_at_call 11
    refine (hF).mono ?_
    rintro e w7 ⟨rfl, hb7⟩
    replace hA := hid (hA.out.on hb7)
    replace hB := hid (hB.out.on hb7)
    replace HW := hid (HW.out.trans (hb7.mono HW.out.size))
    clear hb7
    go_wp2_with fail
    go_at_call 12
    have hal : Below w7.heap.size w7 (w7.alloc (.cells #[.int .i64 c.i, .int .i64 c.k, .int .i64 c.s, .int .i64 c.t, .int .i64 c.d, .int .i64 c.p, .int .i64 c.q] 34)) := (Below.refl _ _).alloc (Nat.le_refl _) _
    refine (rFind_some HP.out (hA.out.on hal) (by omega)).mono ?_
    rintro e wz ⟨rfl, rfl⟩
    replace hA := hid (hA.out.on hal)
    replace hB := hid (hB.out.on hal)
    replace HW := hid (HW.out.trans (hal.mono HW.out.size))
    obtain ⟨ba, oa, capa', aa', hva, hha, hca, hba⟩ := hA.out.open
    cases hva
    obtain rfl := hha (by omega)
    obtain ⟨c0, c1, c2, c3, c4, c5, c6⟩ := hca.at HJ.out
    have hE := neqC (show c.same c = true from C7.same_iff.2 rfl)
    have hG := fun op p q W => guardC op p q c c W
    clear hca hba hha
    clear hal hF
    go_wp2_with fail
    go_quiet (fail)
    replace hA := hid (hA.out.drewN nq)
    replace hB := hid (hB.out.drewN nq)
    replace HW := hid (Below.drewN' HW.out nq)
    go_wp2_with fail
    go_at_call 13
    refine (cMinus hA.out hB.out (by omega) (by omega)).mono ?_
    rintro e w8 ⟨r8, rfl, ho8, hb8⟩
    have hX := hid (ho8.sl)
    clear ho8
    replace hA := hid (hA.out.on hb8)
    replace hB := hid (hB.out.on hb8)
    replace HW := hid (HW.out.trans (hb8.mono HW.out.size))
    clear hb8
    go_wp2_with fail
    go_at_call 14
    refine (rMinus hA.out hB.out (by omega) (by omega)).mono ?_
    rintro e w9 ⟨r9, rfl, ho9, hb9⟩
    have hY := hid (ho9.sl)
    clear ho9
    replace hA := hid (hA.out.on hb9)
    replace hB := hid (hB.out.on hb9)
    replace hX := hid (hX.out.on hb9)
    replace HW := hid (HW.out.trans (hb9.mono HW.out.size))
    clear hb9
    go_wp2_with fail
    go_at_call 10
    refine (same_self hX.out hY.out (by omega)).mono ?_
    rintro e w10 ⟨rfl, hb10⟩
    replace hA := hid (hA.out.on hb10)
    replace hB := hid (hB.out.on hb10)
    replace hX := hid (hX.out.on hb10)
    replace hY := hid (hY.out.on hb10)
    replace HW := hid (HW.out.trans (hb10.mono HW.out.size))
    clear hb10
    go_wp2_with fail
    go_at_call 16
    refine (cIds hA.out (by omega)).mono ?_
    rintro e w11 ⟨r11, rfl, ho11, hb11⟩
    have hI := hid (OwnI.sl ho11)
    clear ho11
    replace hA := hid (hA.out.on hb11)
    replace hB := hid (hB.out.on hb11)
    replace HW := hid (HW.out.trans (hb11.mono HW.out.size))
    clear hb11
    go_wp2_with fail
    go_at_call 17
    refine (rIds hA.out (by omega)).mono ?_
    rintro e w12 ⟨r12, rfl, ho12, hb12⟩
    have hJ := hid (OwnI.sl ho12)
    clear ho12
    replace hA := hid (hA.out.on hb12)
    replace hB := hid (hB.out.on hb12)
    replace hI := hid (hI.out.on hb12)
    replace HW := hid (HW.out.trans (hb12.mono HW.out.size))
    clear hb12
    go_wp2_with fail
    go_at_call 15
    refine (rSameIds hI.out hJ.out (by omega)).mono ?_
    rintro e w13 ⟨rfl, hb13⟩
    replace hA := hid (hA.out.on hb13)
    replace hB := hid (hB.out.on hb13)
    replace hI := hid (hI.out.on hb13)
    replace hJ := hid (hJ.out.on hb13)
    replace HW := hid (HW.out.trans (hb13.mono HW.out.size))
    clear hb13
    go_wp2_with fail
    go_at_call 5
    refine (cAlive w13).mono ?_
    rintro e w14 ⟨rfl, hb14⟩
    replace hA := hid (hA.out.on hb14)
    replace hB := hid (hB.out.on hb14)
    replace HW := hid (HW.out.trans (hb14.mono HW.out.size))
    clear hb14
    go_wp2_with fail
    go_at_call 18
    refine (cSetRight hA.out (by omega)).mono ?_
    rintro e w15 ⟨rfl, hb15⟩
    replace hA := hid (hA.out.on hb15)
    replace hB := hid (hB.out.on hb15)
    replace HW := hid (HW.out.trans (hb15.mono HW.out.size))
    clear hb15
    go_wp2_with fail
    go_at_call 19
    refine (rSetRight hA.out (by omega)).mono ?_
    rintro e w16 ⟨rfl, hb16⟩
    replace hA := hid (hA.out.on hb16)
    replace hB := hid (hB.out.on hb16)
    replace HW := hid (HW.out.trans (hb16.mono HW.out.size))
    clear hb16
    go_wp2_with fail
    go_at_call 20
    refine (cSame hA.out hB.out (by omega) (by omega)).mono ?_
    rintro e w17 ⟨rfl, hb17⟩
    replace hA := hid (hA.out.on hb17)
    replace hB := hid (hB.out.on hb17)
    replace HW := hid (HW.out.trans (hb17.mono HW.out.size))
    clear hb17
    go_wp2_with fail
    go_at_call 10
    refine (rSame hA.out hB.out (by omega) (by omega)).mono ?_
    rintro e w18 ⟨rfl, hb18⟩
    replace hA := hid (hA.out.on hb18)
    replace hB := hid (hB.out.on hb18)
    replace HW := hid (HW.out.trans (hb18.mono HW.out.size))
    clear hb18
    go_wp2
    go_ret
    exact ⟨rfl, HW.out⟩

end Go.Proofs.Ytpocfhcdffobhaa

/- The walk of the law OctetPuts: whatever the numbers, the commands and the timestamp, it returns true. -/
import Derived.Test.YtioajkblgcpfaaaOAlive
namespace Go.Proofs.Ytioajkblgcpfaaa
set_option linter.unusedVariables false
open Go.RowKit
open Go.Lib (hid)

theorem putE_big {l : List Int} : (putE l = 0 ∨ putE l = 1) := by unfold putE; split <;> simp

set_option maxHeartbeats 1600000 in
set_option maxRecDepth 100000 in
theorem wPuts {va vb : Value} {l : List Int} {cs : List C7} {w : World} (ha : SlN w va l) (hb : Sl w vb cs) (hl : l.length ≤ 150) (hl2 : cs.length ≤ 150) (t : Int) : Calls Try.prog 3 #[va, vb, .int .i64 t] w fun e w' => e = .returned (.bool true) ∧ Below w.heap.size w w' := by
  have hA := hid ha
  have hB := hid hb
  have HW := hid (Below.refl w.heap.size w)
  obtain ⟨_, _, capa, aa, rfl, _⟩ := ha
  obtain ⟨_, _, capb, ab, rfl, _⟩ := hb
  obtain ⟨e0, he0⟩ : ∃ e0, e0 = putE l := ⟨_, rfl⟩
  obtain ⟨e1, he1⟩ : ∃ e1, e1 = putCE cs := ⟨_, rfl⟩
  obtain ⟨e2, he2⟩ : ∃ e2, e2 = putVE t cs := ⟨_, rfl⟩
  have hP := hid (fun (W : World) (h : SlN W (.slice aa l.length capa) l) => cPutN h (by omega))
  have hPr := hid (fun (W : World) (h : SlN W (.slice aa l.length capa) l) => rPutN h (by omega))
  have hC := hid (fun (W : World) (h : Sl W (.slice ab cs.length capb) cs) => cPutCmds h (by omega))
  have hCr := hid (fun (W : World) (h : Sl W (.slice ab cs.length capb) cs) => rPutCmds h (by omega) (fun _ => .inl (by omega)))
  have hV := hid (fun (W : World) (h : Sl W (.slice ab cs.length capb) cs) => cPutValue t h (by omega))
  have hVr := hid (fun (W : World) (h : Sl W (.slice ab cs.length capb) cs) => rPutValue t h (by omega))
  rw [← he0] at hP hPr
  rw [← he1] at hC hCr
  rw [← he2] at hV hVr
  clear he0 he1 he2
  go_enter Try.func3, Try.ntmps3
  go_wp2_with fail
  go_at_call 7
  refine (hP.out _ hA.out).mono ?_
  rintro e w1 ⟨r1, rfl, ho, hb⟩
  obtain ⟨g1, cap1, n1, rfl, hn1⟩ := ho.asSlice
  clear hn1
  have h1 := hid ho.slb
  clear ho
  replace hA := hid (hA.out.on hb)
  replace hB := hid (hB.out.on hb)
  replace HW := hid (HW.out.trans (hb.mono HW.out.size))
  clear hb
  go_wp2_with fail
  go_at_call 8
  refine (hPr.out _ hA.out).mono ?_
  rintro e w2 ⟨r2, rfl, ho, hb⟩
  obtain ⟨g2, cap2, n2, rfl, hn2⟩ := ho.asSlice
  clear hn2
  have h2 := hid ho.slb
  clear ho
  replace hA := hid (hA.out.on hb)
  replace hB := hid (hB.out.on hb)
  replace HW := hid (HW.out.trans (hb.mono HW.out.size))
  replace h1 := hid (h1.out.on hb)
  clear hb
  go_wp2_with fail
  go_at_call 9
  refine (hC.out _ hB.out).mono ?_
  rintro e w3 ⟨r3, rfl, ho, hb⟩
  obtain ⟨g3, cap3, n3, rfl, hn3⟩ := ho.asSlice
  clear hn3
  have h3 := hid ho.slb
  clear ho
  replace hA := hid (hA.out.on hb)
  replace hB := hid (hB.out.on hb)
  replace HW := hid (HW.out.trans (hb.mono HW.out.size))
  replace h1 := hid (h1.out.on hb)
  replace h2 := hid (h2.out.on hb)
  clear hb
  go_wp2_with fail
  go_at_call 10
  refine (hCr.out _ hB.out).mono ?_
  rintro e w4 ⟨r4, rfl, ho, hb⟩
  obtain ⟨g4, cap4, n4, rfl, hn4⟩ := ho.asSlice
  clear hn4
  have h4 := hid ho.slb
  clear ho
  replace hA := hid (hA.out.on hb)
  replace hB := hid (hB.out.on hb)
  replace HW := hid (HW.out.trans (hb.mono HW.out.size))
  replace h1 := hid (h1.out.on hb)
  replace h2 := hid (h2.out.on hb)
  replace h3 := hid (h3.out.on hb)
  clear hb
  go_wp2_with fail
  go_at_call 11
  refine (hV.out _ hB.out).mono ?_
  rintro e w5 ⟨r5, rfl, ho, hb⟩
  obtain ⟨g5, cap5, n5, rfl, hn5⟩ := ho.asSlice
  clear hn5
  have h5 := hid ho.slb
  clear ho
  replace hA := hid (hA.out.on hb)
  replace hB := hid (hB.out.on hb)
  replace HW := hid (HW.out.trans (hb.mono HW.out.size))
  replace h1 := hid (h1.out.on hb)
  replace h2 := hid (h2.out.on hb)
  replace h3 := hid (h3.out.on hb)
  replace h4 := hid (h4.out.on hb)
  clear hb
  go_wp2_with fail
  go_at_call 12
  refine (hVr.out _ hB.out).mono ?_
  rintro e w6 ⟨r6, rfl, ho, hb⟩
  obtain ⟨g6, cap6, n6, rfl, hn6⟩ := ho.asSlice
  clear hn6
  have h6 := hid ho.slb
  clear ho
  replace hA := hid (hA.out.on hb)
  replace hB := hid (hB.out.on hb)
  replace HW := hid (HW.out.trans (hb.mono HW.out.size))
  replace h1 := hid (h1.out.on hb)
  replace h2 := hid (h2.out.on hb)
  replace h3 := hid (h3.out.on hb)
  replace h4 := hid (h4.out.on hb)
  replace h5 := hid (h5.out.on hb)
  clear hb
  go_wp2_with fail
  go_at_call 6
  refine (oAlive _).mono ?_
  rintro e w7 ⟨rfl, hb⟩
  replace h1 := hid (h1.out.on hb)
  replace h2 := hid (h2.out.on hb)
  replace h3 := hid (h3.out.on hb)
  replace h4 := hid (h4.out.on hb)
  replace h5 := hid (h5.out.on hb)
  replace h6 := hid (h6.out.on hb)
  replace HW := hid (HW.out.trans (hb.mono HW.out.size))
  clear hb
  have q1 := convB h1.out
  have q2 := convB h2.out
  have q3 := convB h3.out
  have q4 := convB h4.out
  have q5 := convB h5.out
  have q6 := convB h6.out
  go_wp2_with fail
  go_ret
  exact ⟨rfl, HW.out⟩
end Go.Proofs.Ytioajkblgcpfaaa

/- The live question of layer 4; the string of bytes; a reader that is nil. -/
import Derived.Test.YtioajkblgcpfaaaCValue
import Derived.Test.YtioajkblgcpfaaaCPutC
import Derived.Laws.BytesArg
import Derived.Laws.IdiomStrings
namespace Go.Proofs.Ytioajkblgcpfaaa
set_option linter.unusedVariables false
open Go.RowKit
open Go.Lib (hid)

abbrev strB (l : List UInt8) : Value := .string ⟨l.toArray⟩
theorem convB {w : World} {v : Value} {l : List UInt8} (h : SlB w v l) : (convert 25 9 v).run Try.prog w = .ok (strB l) w := by
  rcases h.src with ⟨rfl, rfl⟩ | ⟨ad, cap, rfl, hc, _⟩
  · exact run_convert_bytes_nil (P := Try.prog) (w := w) _ 5 Try.underlying25 Try.underlying5 0 0 _ Try.underlying9
  · exact run_convert_bytes_back w _ _ 5 ad cap l Try.underlying25 Try.underlying5 Try.underlying9 fun j hj => hc j _ (by simp [octs, List.getElem?_eq_getElem hj])
theorem Sl.one' {w : World} {c : C7} {T : TypeId} {q : Nat} (hq : q = w.heap.size) : Sl (w.alloc (.cells #[.int .i64 c.i, .int .i64 c.k, .int .i64 c.s, .int .i64 c.t, .int .i64 c.d, .int .i64 c.p, .int .i64 c.q] T)) (.slice (Option.some ⟨q, 0, none⟩) 1 1) [c] := by
  subst hq; exact Sl.one

theorem SlN.three {w : World} {T : TypeId} {q : Nat} (hq : q = w.heap.size) : SlN (w.alloc (.cells #[.int .i64 5, .int .i64 300, .int .i64 0] T)) (.slice (Option.some ⟨q, 0, none⟩) 3 3) [5, 300, 0] := by
  subst hq
  refine ⟨w.heap.size, 0, 3, _, rfl, fun _ => rfl, fun j x hx => ?_, fun _ => by simp⟩
  rw [World.cell?_alloc_new, Nat.zero_add, List.getElem?_toArray]
  match j, hx with
  | 0, hx => cases hx; rfl
  | 1, hx => cases hx; rfl
  | 2, hx => cases hx; rfl
  | _ + 3, hx => cases hx
theorem SlB.three {w : World} {T : TypeId} {q : Nat} (hq : q = w.heap.size) : SlB (w.alloc (.cells #[.int .u8 172, .int .u8 2, .int .u8 9] T)) (.slice (Option.some ⟨q, 0, none⟩) 3 3) [172, 2, 9] := by
  subst hq
  refine ⟨w.heap.size, 0, 3, _, rfl, fun h => by simp at h, Nat.le_refl _, fun _ => rfl, fun j x hx => ?_, fun _ => by simp⟩
  rw [World.cell?_alloc_new, Nat.zero_add, List.getElem?_toArray]
  match j, hx with
  | 0, hx => cases hx; rfl
  | 1, hx => cases hx; rfl
  | 2, hx => cases hx; rfl
  | _ + 3, hx => cases hx
theorem put_three : putE [5, 300, 0] = 0 ∧ putB [5, 300, 0] = [5, 172, 2, 0] := by
  have h := put_ok (l := [5, 300, 0]) (by decide)
  refine ⟨h.1, h.2.trans ?_⟩
  have h300 : oneN 300 = [172, 2] := by
    rw [oneN_big (by omega), oneN_small (n := 300 / 128) (by omega)]; rfl
  show oneN (5 : Int).toNat ++ (oneN (300 : Int).toNat ++ (oneN (0 : Int).toNat ++ [])) = _
  rw [show (5 : Int).toNat = 5 from rfl, show (300 : Int).toNat = 300 from rfl, show (0 : Int).toNat = 0 from rfl, h300, oneN_small (n := 5) (by omega), oneN_small (n := 0) (by omega)]
  rfl
theorem num_three : numS ([172, 2, 9], 0) = (300, ([9], 0)) := by decide +kernel
theorem putC_bad : putCE [⟨16, 1, 0, 300, 0, 0, 0⟩] = 1 ∧ putCB [⟨16, 1, 0, 300, 0, 0, 0⟩] = [] := putC_no (by decide)

set_option maxHeartbeats 1600000 in
set_option maxRecDepth 100000 in
theorem oAlive (w : World) : Calls Try.prog 6 #[] w fun e w' => e = .returned (.bool true) ∧ Below w.heap.size w w' := by
  go_enter Try.func6, Try.ntmps6
  go_wp2_with fail
  go_at_call 7
  refine (cPutN (SlN.three rfl) (by simp)).mono ?_
  rw [put_three.1, put_three.2]
  rintro e w1 ⟨r1, rfl, ho1, hb1⟩
  obtain ⟨g1, cap1, rfl⟩ := ho1.some (by simp)
  have HW : Hid (Below w.heap.size w w1) := hid (((Below.refl _ w).alloc (Nat.le_refl _) _).trans (hb1.mono (by simp)))
  have HO := hid ho1.slb
  have hb1s : w.heap.size ≤ w1.heap.size := HW.out.size
  have hg1 : g1 < w1.heap.size := (ho1.lt g1 rfl).2
  clear ho1 hb1
  go_wp2_with fail
  go_at_call 13
  refine (cRead (SlB.three rfl) (by simp)).mono ?_
  rintro e w2 ⟨p, rfl, hp1, hp2, hR, hb2⟩
  replace HO := hid (HO.out.on (((Below.refl _ w1).alloc (Nat.le_refl _) _).trans (hb2.mono (by simp))))
  replace HW := hid ((HW.out.alloc HW.out.size _).trans (hb2.mono (by have := HW.out.size; simp; omega)))
  have HP := hid (show w1.heap.size < p by simp at hp1; omega)
  have HR := hid hR
  clear hR hb2
  go_wp2_with fail
  go_at_call 14
  refine (cNum HR.out).mono ?_
  rw [num_three]
  rintro e w3 ⟨rfl, hR, hg⟩
  have hpw := HP.out
  have hw2 := HW.out.size
  have hpB : w.heap.size ≤ p := by have := hb1s; omega
  replace HW := hid (HW.out.grown hg hw2 (fun k hk => by cases hk; exact hpB))
  replace HO := hid (HO.out.same hg.size fun k hk hlt => hg.block k hlt fun e => by obtain rfl : g1 = k := Option.some.inj hk; obtain rfl : g1 = p := Option.some.inj e; omega)
  replace HR := hid hR
  clear hR hg
  go_wp2_with fail
  go_at_call 24
  refine (cRest HR.out (by simp)).mono ?_
  rintro e w4 ⟨r4, rfl, ho4, hb4⟩
  obtain ⟨g4, cap4, rfl⟩ := ho4.some (by simp)
  have hw3 := HW.out.size
  replace HO := hid (HO.out.on hb4)
  replace HR := hid (HR.out.on hb4)
  replace HW := hid (HW.out.trans (hb4.mono hw3))
  clear ho4 hb4
  go_wp2_with fail
  go_at_call 9
  refine (cPutCmds (Sl.one' (c := ⟨16, 1, 0, 300, 0, 0, 0⟩) rfl) (by simp)).mono ?_
  rw [putC_bad.1, putC_bad.2]
  rintro e w5 ⟨r5, rfl, ho5, hb5⟩
  obtain ⟨g5, cap5, _, rfl, rfl⟩ := ho5.asSlice
  have hw4 := HW.out.size
  have hb : ∀ o, Below w4.heap.size w4 (w4.alloc o) := fun o => (Below.refl _ w4).alloc (Nat.le_refl _) o
  replace HO := hid (HO.out.on ((hb _).trans (hb5.mono (by simp))))
  replace HR := hid (HR.out.on ((hb _).trans (hb5.mono (by simp))))
  replace HW := hid ((HW.out.alloc hw4 _).trans (hb5.mono (by simp; omega)))
  clear ho5 hb5 hb
  have hcv : (convert 25 9 (.slice (Option.some ⟨g1, 0, none⟩) 4 cap1)).run Try.prog w5 = .ok (.string ⟨#[5, 172, 2, 0]⟩) w5 := convB HO.out
  go_wp2_with (go_at_call 25; refine (cErr HR.out).mono ?_; rintro e w' ⟨rfl, rfl⟩)
  go_ret
  exact ⟨rfl, HW.out⟩
end Go.Proofs.Ytioajkblgcpfaaa

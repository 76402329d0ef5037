import Derived.Test.YtpkkmfppdhjpkaaGreatGa33
import Derived.Test.YtpkkmfppdhjpkaaGreatJMapM
import Derived.Test.YtpkkmfppdhjpkaaGreatGa36
import Derived.Shelf.SlIter.Collect
import Derived.Test.YtpkkmfppdhjpkaaGreatGa32
import Derived.ScopeJumps
/- The program's Put, of one entry. -/
namespace Go.Proofs.YtpkkmfppdhjpkaaGreat
set_option linter.unusedVariables false
open Go.RowKit Go.Maps
open Go.Lib (hid)

theorem apartB {w : World} {B k : Nat} {v : Value} {l : List UInt8} {o : Obj} (h : OwnB w B v l) (hk : w.heap[k]? = some o) (hno : ∀ cur, o ≠ .cells cur 5 (0, 0)) : v.ownBlock ≠ some k := by
  rcases ownsRow_ne_a h hk hno with e | e
  · rw [e]; simp
  · exact e
theorem Tch.two {w W w' : World} {row : Option Nat} {p : Nat} (h1 : w.grownBy W row) (h2 : W.grownBy w' (some p)) : Tch (fun k => row = some k ∨ k = p) w w' :=
  (Tch.ofGrown h1 fun k e => .inl e).trans (Tch.ofGrown h2 fun k e => .inr (Option.some.inj e).symm)
theorem ownTch {S : Nat → Prop} {w w' : World} {B : Nat} {v : Value} {l : List UInt8} (h : OwnB w B v l) (ht : Tch S w w') (hS : ∀ k, v.ownBlock = some k → ¬ S k) : OwnB w' B v l := by
  rcases h.2 with e | ⟨g, cap, cur, rfl, hb, hg, r⟩
  · exact ⟨h.1, .inl e⟩
  · exact ⟨h.1, .inr ⟨g, cap, cur, rfl, hb, ht.ob hg (hS g rfl), r⟩⟩
theorem Mp.obj {w : World} {b n : Nat} {xs : List En} (h : Mp w b n xs) : ∃ es clock, w.heap[b]? = some (.map es clock) := by
  obtain ⟨D, ⟨es, clock, hb, _⟩, _⟩ := h
  exact ⟨_, _, hb⟩
theorem Tri.ne {T : TypeId} {w : World} {p k : Nat} {room s : Int} {v : Value} {o : Obj} (h : Tri T w p room v s) (hk : w.heap[k]? = some o) (hno : ∀ cur, o ≠ .cells cur T (0, 0)) : k ≠ p := fun e => by
  subst e
  have h' : w.heap[k]? = some (.cells #[.int .i64 room, v, .int .i64 s] T (0, 0)) := h
  rw [h'] at hk
  exact hno _ (Option.some.inj hk).symm
/-- Entries in blocks of their own stand. -/
def KeepsE (w w' : World) : Prop := ∀ (k : Nat) cur, w.heap[k]? = some (.cells cur 48 (0, 0)) → w'.heap[k]? = some (.cells cur 48 (0, 0))
theorem KeepsE.trans {a b c : World} (h : KeepsE a b) (k : KeepsE b c) : KeepsE a c := fun i cur hi => k i cur (h i cur hi)
theorem KeepsE.below {a b : World} (h : Below a.heap.size a b) : KeepsE a b := fun i cur hi => (h.5 i (Array.getElem?_eq_some_iff.1 hi).1).trans hi
theorem KeepsE.tch {S : Nat → Prop} {a b : World} (h : Tch S a b) (hS : ∀ (k : Nat) cur, a.heap[k]? = some (.cells cur 48 (0, 0)) → ¬ S k) : KeepsE a b := fun i cur hi => h.ob hi (hS i cur hi)
/-- A journal on a disk, all of whose blocks lie from B on. -/
structure JSt (w : World) (B j p b n : Nat) (room c : Int) (xs : List En) (s : Nat) (log : List UInt8) : Prop where
  jn : Jn w j (ptr p) b c
  mp : Mp w b n xs
  dk : ∃ v, Dk w p room v s ∧ OwnB w B v log
  hj : B ≤ j
  hb : B ≤ b
  hp : B ≤ p
theorem JSt.on {w w' : World} {B j p b n s : Nat} {room c : Int} {xs : List En} {log : List UInt8} (h : JSt w B j p b n room c xs s log) (hb : Below w.heap.size w w') : JSt w' B j p b n room c xs s log := by
  obtain ⟨v, h1, h2⟩ := h.dk
  exact ⟨obOn h.jn hb (Array.getElem?_eq_some_iff.1 h.jn).1, h.mp.on hb, ⟨v, obOn h1 hb (Array.getElem?_eq_some_iff.1 h1).1, own_below h2 hb fun k hk => (h2.lt k hk).2⟩, h.hj, h.hb, h.hp⟩
theorem id_wf {x : En} (h : x.right = true) : (Lit.int .i64 x.id).wf = true := by
  have hc := (right_fine h).c
  have : -9223372036854775808 ≤ x.id ∧ x.id ≤ 9223372036854775807 := by
    obtain ⟨⟨⟨i, a1, a2, a3, a4, a5, a6⟩, b1, b2, b3, b4, b5, b6, b7, b8, b9, b10, b11, b12⟩, f, a, v⟩ := x
    simp [C7.ok, oneB] at hc
    have := hc.1.1
    unfold namedB at this
    simp at this
    show _ ≤ i ∧ i ≤ _
    omega
  exact i64_wf this
set_option maxHeartbeats 4000000 in
set_option maxRecDepth 100000 in
theorem cJPut {w : World} {B j p b n s c q : Nat} {room c0 : Int} {xs : List En} {log : List UInt8} {x : En} (h : JSt w B j p b n room c0 xs s log) (hB : B ≤ w.heap.size) (hq : Ob w q 48 x.e) (hx : x.at w) (hr : x.right = true) (hs : x.short 80)
    (hc0 : c0 ≤ c) (hc : c ≤ 65535) (hn : n ≤ 100000) (hrm : roomB room = true) (hl : (log ++ frameB (recB c x)).length ≤ 1000000) (hf : ((log ++ frameB (recB c x)).length : Int) ≤ room) :
    Calls Tryz.prog 11 #[ptr j, .int .i64 c, .slice (some ⟨q, 0, none⟩) 1 1] w fun z w' => z = .returned (.int .i64 0) ∧ JSt w' B j p b (n + 1) room c (xs ++ [x]) s (log ++ frameB (recB c x)) ∧ Below B w w' ∧ KeepsE w w' := by
  have k0 : w.cell? ⟨j, 2, none⟩ = some (.int .i64 c0) := (cellAt' h.jn 2).trans rfl
  have hc1 : ¬ (c : Int) < c0 := by omega
  have hc2 : ¬ (65535 : Int) < (c : Int) := by omega
  have d1 : decide ((c : Int) < c0) = false := decide_eq_false hc1
  have d2 : decide ((65535 : Int) < (c : Int)) = false := decide_eq_false hc2
  have d3 : decide (65535 < c) = false := decide_eq_false (by omega)
  have HJ := hid h
  have HQ := hid hq
  have HX := hid hx
  have HRL := hid (rec_len hr hs hc)
  have HL := hid hl
  have HF := hid hf
  have HBB := hid hB
  have HQS := hid (Array.getElem?_eq_some_iff.1 hq).1
  have HWF := hid (id_wf hr)
  clear h hq hx hl hf hB
  go_enter Tryz.func11, Tryz.ntmps11
  go_wp2_with fail
  go_at_call 31
  refine (cJEnc HQ.out HX.out hr hs hc).mono ?_
  rintro z w1 ⟨r1, s1, rfl, hO1, hB1⟩
  have HB1 := hid hB1
  have HO1 := hid (show SlL w1 r1 [recB c x] from hO1.sl)
  obtain ⟨g1, c1, n1, rfl, -⟩ := hO1.asSlice
  clear hO1 hB1
  go_wp2_with fail
  go_at_call 32
  refine (cJWrap HO1.out HRL.out.1 (by have := HRL.out.2; omega)).mono ?_
  rintro z w2 ⟨r2, rfl, hO2, hB2⟩
  have hBW : Below w.heap.size w w2 := HB1.out.trans (hB2.mono HB1.out.size)
  have HBW := hid hBW
  have HO2 := hid hO2.slb
  obtain ⟨g2, c2, n2, rfl, -⟩ := hO2.asSlice
  have HJ2 := hid (HJ.out.on hBW)
  have k1 : w2.cell? ⟨j, 0, none⟩ = some (ptr p) := (cellAt' HJ2.out.jn 0).trans rfl
  clear hO2 hB2 hBW HB1 HO1 k0
  go_wp2_with fail
  go_at_call 33
  obtain ⟨v, hd, hv⟩ := HJ2.out.dk
  have hsz := HBW.out.size
  have hBw := HBB.out
  have hL1 := HL.out
  have hF1 := HF.out
  rw [List.length_append] at hL1 hF1
  refine (cAppend_yes hd hv HO2.out (by omega) hrm hL1 (by omega)).mono ?_
  rintro z w3 ⟨rfl, ⟨v3, hd3, hv3⟩, W3, hg1, hg2⟩
  have hT := Tch.two hg1 hg2
  obtain ⟨es, clk, hm⟩ := HJ2.out.mp.obj
  have HK3 : Hid (KeepsE w w3) := hid ((KeepsE.below HBW.out).trans (KeepsE.tch hT fun k cur hk e => e.elim (apartB hv hk (fun cur e => by cases e)) (Tri.ne hd hk (fun cur e => by cases e))))
  have nj : ¬ (v.ownBlock = some j ∨ j = p) := fun e => e.elim (apartB hv HJ2.out.jn (fun cur e => by cases e)) (Tri.ne hd HJ2.out.jn (fun cur e => by cases e))
  have nb : ¬ (v.ownBlock = some b ∨ b = p) := fun e => e.elim (apartB hv hm (fun cur e => by cases e)) (Tri.ne hd hm (fun cur e => by cases e))
  have hq2 : Ob w2 q 48 x.e := heapB HQ.out HBW.out HQS.out
  have nq : ¬ (v.ownBlock = some q ∨ q = p) := fun e => e.elim (apartB hv hq2 (fun cur e => by cases e)) (Tri.ne hd hq2 (fun cur e => by cases e))
  have HJ3 : Hid (JSt w3 B j p b n room c0 xs s (log ++ frameB (recB c x))) := hid ⟨hT.ob HJ2.out.jn nj, HJ2.out.mp.keptT hT nb, ⟨v3, hd3, hv3⟩, HJ2.out.hj, HJ2.out.hb, HJ2.out.hp⟩
  have HQ3 : Hid (Ob w3 q 48 x.e) := hid (hT.ob hq2 nq)
  have HB3 : Hid (Below B w w3) := hid ((HBW.out.mono hBw).trans (hT.below (fun k e => e.elim (fun e => (hv.lt k e).1) (fun e => e ▸ HJ2.out.hp)) (by omega)))
  clear hd hv hd3 hv3 hg1 hg2 hT hm nj nb nq hq2 hL1 hF1 k1 HJ2 HJ HQ HX HBW HO2 hsz hBw
  go_wp2_with fail
  go_loopw [55] (fun i wr => (i = .int .i64 0 ∧ wr = w3) ∨ (i = .int .i64 1 ∧ JSt wr B j p b (n + 1) room c (xs ++ [x]) s (log ++ frameB (recB c x)) ∧ Below B w wr ∧ KeepsE w wr)) (fun i _ => 2 - (intOf i).toNat)
  case atStart => exact .inl ⟨rfl, rfl⟩
  case round =>
    obtain ⟨rfl, rfl⟩ | ⟨rfl, hJ, hB, hK⟩ := hrel
    · go_wp2_with (first
        | ((with_reducible refine loadC (x := ?cx1) (b := ?cb1) (T := 48) x.e ?cg1 ?co1 ?cxx1 ?cc1 ?_); (case cg1 => rfl); (case co1 => rfl); (case cxx1 => rfl); (case cc1 => exact HQ3.out))
        | ((with_reducible refine storeC (x := ?sx1) (y := ?sy1) (b := ?sb1) (T := 48) x.e ?sg1 ?so1 ?sxx1 ?syy1 ?sc1 ?_); (case sg1 => rfl); (case so1 => rfl); (case sxx1 => rfl); (case syy1 => rfl); (case sc1 => exact ⟨_, heap_alloc_new wr zeroEc, rfl⟩); intro W2 hO2 hU2; have hb2 : Below wr.heap.size wr W2 := ((Below.refl _ wr).alloc (Nat.le_refl _) _).trans (hU2.below _ (Nat.le_refl _)); have HJ4 := hid (HJ3.out.on hb2); have HB4 := hid (HB3.out.trans (hb2.mono (Nat.le_trans HBB.out HB3.out.size))); have hs2 := hb2.size; have HK4 := hid (HK3.out.trans (KeepsE.below hb2)); have HO2 := hid hO2; clear hO2 hU2 hb2)
        | ((with_reducible refine loadC (x := ?cx2) (b := ?cb2) (T := 48) x.e ?cg2 ?co2 ?cxx2 ?cc2 ?_); (case cg2 => rfl); (case co2 => rfl); (case cxx2 => rfl); (case cc2 => exact HO2.out))
        | fail)
      go_at_call 22
      obtain ⟨v, hd, hv⟩ := HJ4.out.dk
      refine (cKeep HJ4.out.jn HJ4.out.mp (by unfold maxLen; omega) HWF.out).mono ?_
      rintro z w5 ⟨rfl, hj5, hm5, hT⟩
      obtain ⟨es, clk, hm⟩ := HJ4.out.mp.obj
      have np : ¬ (p = j ∨ p = b) := fun e => e.elim (fun e => Tri.ne hd HJ4.out.jn (fun cur e => by cases e) e.symm) (fun e => Tri.ne hd hm (fun cur e => by cases e) e.symm)
      have hv5 : OwnB w5 B v (log ++ frameB (recB c x)) := ownTch hv hT (fun k hk e => e.elim (fun e => apartB hv HJ4.out.jn (fun cur e => by cases e) (by rw [hk, e])) (fun e => apartB hv hm (fun cur e => by cases e) (by rw [hk, e])))
      have HJ5 : Hid (JSt w5 B j p b (n + 1) room c (xs ++ [x]) s (log ++ frameB (recB c x))) := hid ⟨hj5, hm5, ⟨v, hT.ob hd np, hv5⟩, HJ4.out.hj, HJ4.out.hb, HJ4.out.hp⟩
      have HB5 : Hid (Below B w w5) := hid (HB4.out.trans (hT.below (fun k e => e.elim (fun e => e ▸ HJ4.out.hj) (fun e => e ▸ HJ4.out.hb)) (Nat.le_trans HBB.out HB4.out.size)))
      have HK5 : Hid (KeepsE w w5) := hid (HK4.out.trans (KeepsE.tch hT fun k cur hk e => e.elim (fun e => by subst e; have h1 := HJ4.out.jn; have h2 : W2.heap[k]? = some (.cells #[ptr p, .map (some b), .int .i64 c0] 72 (0, 0)) := h1; rw [h2] at hk; cases hk) (fun e => by subst e; rw [hm] at hk; cases hk)))
      clear hd hv hj5 hm5 hT hm np hv5
      go_wp2_with fail
      go_roundw
      case rel => exact .inr ⟨rfl, HJ5.out, HB5.out, HK5.out⟩
      case measure => simp [intOf]
    · have HJ5 := hid hJ
      have HB5 := hid hB
      have HK5 := hid hK
      clear hJ hB hK
      go_wp2_with fail
      go_ret
      exact ⟨rfl, HJ5.out, HB5.out, HK5.out⟩
end Go.Proofs.YtpkkmfppdhjpkaaGreat
/- What is in a log's frames: the program's Scan. -/
namespace Go.Proofs.YtpkkmfppdhjpkaaGreat
set_option linter.unusedVariables false
open Go.RowKit
open Go.Lib (hid)

def slotK : Value → Nat | .int _ q => q.toNat | _ => 0
def JScan (w : World) (v : Value) (l : List UInt8) (a' : Act) (w' : World) : Prop :=
  ∃ (k : Nat) (ps : List (Sv × List UInt8)) (u4 u5 u6 u7 u8 u9 u10 u11 u12 u13 u14 u15 u16 u17 u18 u19 u20 u21 u22 u23 u24 u25 u26 u27 u28 : Value), k ≤ l.length ∧ ps.length ≤ k ∧ Hid (Behind l (ps.map fun p => p.2) k) ∧ OwnL w' w.heap.size u4 ps ∧ Below w.heap.size w w' ∧
    a' = { tmps := #[v, undef, .slice none 0 0, .int .i64 0, u4, u5, u6, u7, u8, u9, u10, u11, u12, u13, u14, u15, u16, u17, u18, u19, u20, u21, u22, u23, u24, u25, u26, u27, u28], defers := [] } ∧ u5 = .int .i64 (k : Int)

set_option maxHeartbeats 1600000 in
set_option maxRecDepth 100000 in
theorem cScan {v : Value} {l : List UInt8} {w : World} (h : SlB w v l) (hl : l.length ≤ 1000000) : Calls Tryz.prog 19 #[v] w fun e w' => ∃ r ps, e = .returned (.tuple #[r, .int .i64 (scanN l).2]) ∧ OwnL w' w.heap.size r ps ∧ ps.map (fun p => p.2) = (scanN l).1 ∧ Below w.heap.size w w' := by
  have HS := hid h
  clear h
  go_enter Tryz.func19, Tryz.ntmps19
  go_wp2
  refine wp_scope_jumps 0 (JScan w v l) (fun a' _ => l.length - slotK (a'.tmps.getD 5 undef)) rfl ?_ ?_
  · go_wp2
    go_step3
    have hB : Below w.heap.size w w := Below.refl _ _
    have hown : OwnL w w.heap.size (.slice none 0 0) [] := OwnL.nil _ _
    have hbe : Hid (Behind l (([] : List (Sv × List UInt8)).map fun p => p.2) 0) := hid (Behind.start l)
    have hk : 0 ≤ l.length := Nat.zero_le _
    have hpk : ([] : List (Sv × List UInt8)).length ≤ 0 := Nat.le_refl _
    have hsz := hB.size
    have HB := hid hB
    have HO := hid hown
    obtain ⟨v', hv, hs⟩ := slice_from (HS.out.on hB) hk
    have hlen : (l.drop 0).length ≤ 1000000 := by rw [List.length_drop]; omega
    have hv : ∀ W : World, (Instr.slice 63 v (some (.int .i64 0)) none none).run Tryz.prog W = .ok v' W := hv
    rcases hf : firstN (l.drop 0) with _ | n
    · have hc := cFirst_none hs hlen hf
      have HE := hid (hbe.out.stop hf)
      clear hs hlen hf hB hown
      go_wp2_with (go_at_call 42; refine hc.mono ?_; rintro e w2 ⟨rfl, rfl⟩)
      simp only [Exit.jump]
      go_ret2
      rw [HE.out]
      exact ⟨_, _, rfl, HO.out, rfl, HB.out⟩
    · obtain ⟨h1, h2, h3, _, _⟩ := first_some hf
      rw [List.length_drop] at h3
      have hc := cFirst_some hs hlen hf
      have HE := hid (hbe.out.next hf)
      have hil : (((l.drop 0).drop 2).take n).length = n := by rw [List.length_take, List.length_drop, List.length_drop]; omega
      obtain ⟨b, hb⟩ : ∃ b, b = ((l.drop 0).drop 2).take n := ⟨_, rfl⟩
      rw [← hb] at hc hil HE
      have HIL := hid hil
      obtain ⟨i0, hi, hz0, hz1, hz2⟩ := info_parts Tryz.infoS
      clear hs hlen hf hbe hb hil
      go_wp2_with fail
      go_at_call 42
      refine hc.mono ?_
      rintro e w2 ⟨r, rfl, hr, rfl⟩
      obtain ⟨ra, rc, rfl, _⟩ := hr.any
      have HR := hid hr
      rw [HIL.out] at HR ⊢
      clear hr hc
      go_wp2_with fail
      go_at_call 43
      refine (cClone HR.out (by rw [HIL.out]; omega)).mono ?_
      rintro e w3 ⟨r3, rfl, ho3, hB3⟩
      obtain ⟨s3, rfl, ho4⟩ := ho3.sv
      obtain ⟨sa, sn, sc⟩ := s3
      have HO3 := hid (own_monoB ho4 hsz)
      have hoL := HO.out.on hB3
      have hB4 := HB.out.trans (hB3.mono hsz)
      have HB4 := hid hB4
      have HOL := hid hoL
      have hsz4 := hB4.size
      clear ho3 ho4 hB3 hB hB4 hown hoL
      go_wp2_with (at_builtin; refine wpList_append_own _ rfl _ _ 66 rfl w.heap.size 63 i0 _ 1 24 Tryz.underlying66 hi hz0 hz1 hz2 rfl (by decide) _ _ _ rfl (HOL.out.alloc _).1 ⟨w3.heap.size, 0, none⟩ 1 1 [.slice sa sn sc] rfl rfl (new_one rfl) ?c2 ?c3 ?c4 ?c5 ?_)
      case c2 => intro u hu; simp at hu; subst hu; rfl
      case c3 => unfold maxLen; simp
      case c4 => simp
      case c5 => first | omega | (simp; omega)
      intro v4 w4 hown' hgrow _
      have R := OwnL.more (s := ⟨sa, sn, sc⟩) (HOL.out.alloc _) (World.ownsRow.alloc HO3.out _) (HB4.out.alloc hsz4 _) (by simp; omega) hown' hgrow
      have HRR := hid R
      clear hown' hgrow R
      go_wp2_with fail
      go_step3
      refine ⟨rfl, 0 + n + 6, _, _, _, _, _, _, _, _, _, _, _, _, _, _, _, _, _, _, _, _, _, _, _, _, _, _, by omega, by simp only [List.length_append, List.length_cons, List.length_nil]; omega, hid (by rw [List.map_append]; exact HE.out), HRR.out.1, HRR.out.2, rfl, ?_⟩
      exact congrArg (Value.int .i64) (by omega)
  · rintro a' w' ⟨k, ps, u4, u5, u6, u7, u8, u9, u10, u11, u12, u13, u14, u15, u16, u17, u18, u19, u20, u21, u22, u23, u24, u25, u26, u27, u28, hk, hpk, hbe, hown, hB, rfl, rfl⟩
    have hsz := hB.size
    have HB := hid hB
    have HO := hid hown
    obtain ⟨v', hv, hs⟩ := slice_from (HS.out.on hB) hk
    have hlen : (l.drop k).length ≤ 1000000 := by rw [List.length_drop]; omega
    rcases hf : firstN (l.drop k) with _ | n
    · have hc := cFirst_none hs hlen hf
      have HE := hid (hbe.out.stop hf)
      clear hs hlen hf hB
      obtain ⟨g4, c4, n4, rfl, hn4⟩ := hown.asSlice
      clear hown hn4
      go_wp2_with (go_at_call 42; refine hc.mono ?_; rintro e w2 ⟨rfl, rfl⟩)
      simp only [Exit.jump]
      go_ret2
      rw [HE.out]
      exact ⟨_, _, rfl, HO.out, rfl, HB.out⟩
    · obtain ⟨h1, h2, h3, _, _⟩ := first_some hf
      rw [List.length_drop] at h3
      have hc := cFirst_some hs hlen hf
      have HE := hid (hbe.out.next hf)
      have hil : (((l.drop k).drop 2).take n).length = n := by rw [List.length_take, List.length_drop, List.length_drop]; omega
      obtain ⟨b, hb⟩ : ∃ b, b = ((l.drop k).drop 2).take n := ⟨_, rfl⟩
      rw [← hb] at hc hil HE
      have HIL := hid hil
      obtain ⟨i0, hi, hz0, hz1, hz2⟩ := info_parts Tryz.infoS
      clear hs hlen hf hbe hb hil
      go_wp2_with fail
      go_at_call 42
      refine hc.mono ?_
      rintro e w2 ⟨r, rfl, hr, rfl⟩
      obtain ⟨ra, rc, rfl, _⟩ := hr.any
      have HR := hid hr
      rw [HIL.out] at HR ⊢
      clear hr hc
      go_wp2_with fail
      go_at_call 43
      refine (cClone HR.out (by rw [HIL.out]; omega)).mono ?_
      rintro e w3 ⟨r3, rfl, ho3, hB3⟩
      obtain ⟨s3, rfl, ho4⟩ := ho3.sv
      obtain ⟨sa, sn, sc⟩ := s3
      have HO3 := hid (own_monoB ho4 hsz)
      have hoL := HO.out.on hB3
      have hB4 := HB.out.trans (hB3.mono hsz)
      have HB4 := hid hB4
      have HOL := hid hoL
      have hsz4 := hB4.size
      clear ho3 ho4 hB3 hB hB4 hown hoL
      go_wp2_with (at_builtin; refine wpList_append_own _ rfl _ _ 66 rfl w.heap.size 63 i0 _ 1 24 Tryz.underlying66 hi hz0 hz1 hz2 rfl (by decide) _ _ _ rfl (HOL.out.alloc _).1 ⟨w3.heap.size, 0, none⟩ 1 1 [.slice sa sn sc] rfl rfl (new_one rfl) ?c2 ?c3 ?c4 ?c5 ?_)
      case c2 => intro u hu; simp at hu; subst hu; rfl
      case c3 => unfold maxLen; omega
      case c4 => omega
      case c5 => first | omega | (simp; omega)
      intro v4 w4 hown' hgrow _
      have R := OwnL.more (s := ⟨sa, sn, sc⟩) (HOL.out.alloc _) (World.ownsRow.alloc HO3.out _) (HB4.out.alloc hsz4 _) (by simp; omega) hown' hgrow
      have HRR := hid R
      clear hown' hgrow R
      go_wp2_with fail
      go_step3
      refine ⟨rfl, ⟨k + n + 6, _, _, _, _, _, _, _, _, _, _, _, _, _, _, _, _, _, _, _, _, _, _, _, _, _, _, by omega, by simp only [List.length_append, List.length_cons, List.length_nil]; omega, hid (by rw [List.map_append]; exact HE.out), HRR.out.1, HRR.out.2, rfl, ?_⟩, ?_⟩
      · exact congrArg (Value.int .i64) (by omega)
      · simp [slotK]; omega
end Go.Proofs.YtpkkmfppdhjpkaaGreat

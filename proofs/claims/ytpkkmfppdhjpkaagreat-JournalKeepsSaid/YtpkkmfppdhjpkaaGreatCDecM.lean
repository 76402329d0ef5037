import Derived.Test.YtpkkmfppdhjpkaaGreatCEncYM
import Derived.Test.YtpkkmfppdhjpkaaGreatGa24
import Derived.Test.YtpkkmfppdhjpkaaGreatAlive6M
/- An entry of bytes: the program's Decode. -/



namespace Go.Proofs.YtpkkmfppdhjpkaaGreat
set_option linter.unusedVariables false
open Go.RowKit
open Go.Lib (hid)

theorem cNumX {F : Nat → Prop} {p : Nat} {s s' : St} {n : Nat} {w : World} (hs : numS s = (n, s')) (h : Rd 115 F w p s) : Calls Tryz.prog 45 #[.pointer (some ⟨p, 0, none⟩)] w fun x w' => x = .returned (.int .i64 n) ∧ Rd 115 F w' p s' ∧ w.grownBy w' (some p) := by
  have := cNum h
  rw [hs] at this
  exact this
theorem cCmdX {F : Nat → Prop} {p : Nat} {s s' : St} {c : C7} {w : World} (hs : cmdS s = (c, s')) (h : Rd 115 F w p s) (hF : ∀ k, F k → k < w.heap.size) : Calls Tryz.prog 67 #[.pointer (some ⟨p, 0, none⟩)] w fun x w' => x = .returned (.agg #[.int .i64 c.i, .int .i64 c.k, .int .i64 c.s, .int .i64 c.t, .int .i64 c.d, .int .i64 c.p, .int .i64 c.q]) ∧ Rd 115 F w' p s' ∧ w.grownBy w' (some p) := by
  have := cCmd' h hF
  rw [hs] at this
  exact this
theorem cValueX {F : Nat → Prop} {p : Nat} {s s' : St} {t : Nat} {l : List C7} {w : World} (hs : valueS s = ((t, l), s')) (h : Rd 115 F w p s) (hF : ∀ k, F k → k < w.heap.size) : Calls Tryz.prog 68 #[.pointer (some ⟨p, 0, none⟩)] w fun x w' => ∃ g c n, x = .returned (.agg #[.int .i64 t, .slice g n c]) ∧ Own w' w.heap.size (.slice g n c) l ∧ Rd 115 F w' p s' ∧ w.grownBy w' (some p) := by
  have := cValue h hF
  rw [hs] at this
  refine this.mono ?_
  rintro x w' ⟨r, rfl, ho, hr, hg⟩
  obtain ⟨g, c, n, rfl, _⟩ := ho.asSlice
  exact ⟨g, c, n, rfl, ho, hr, hg⟩
/-- What the program's Decode, the document's Parse, answer. -/
def DecPost (t : Tk) (w : World) (x : Ending) (w' : World) : Prop := ∃ (E : Ev) (p q r : Sv), x = .returned (.tuple #[.agg E.arr, .int .i64 (if t.good = true then 0 else 2)]) ∧ (t.good = true → E = t.ev p q r ∧ Sl w' p.v t.f.2 ∧ Sl w' q.v t.a.2 ∧ Sl w' r.v t.v.2) ∧ (t.good = false → E = zE) ∧ Below w.heap.size w w'
theorem DecPost.no {t : Tk} {w w' : World} (h : t.good = false) (hb : Below w.heap.size w w') : DecPost t w (.returned (.tuple #[.agg zE.list.toArray, .int .i64 2])) w' :=
  ⟨zE, ⟨none, 0, 0⟩, ⟨none, 0, 0⟩, ⟨none, 0, 0⟩, by rw [h]; rfl, fun hh => absurd hh (by rw [h]; simp), fun _ => rfl, hb⟩
theorem DecPost.yes {t : Tk} {w w' : World} {E : Ev} {p q r : Sv} (h : t.good = true) (hE : E = t.ev p q r) (h1 : Sl w' p.v t.f.2) (h2 : Sl w' q.v t.a.2) (h3 : Sl w' r.v t.v.2) (hb : Below w.heap.size w w') : DecPost t w (.returned (.tuple #[.agg E.list.toArray, .int .i64 0])) w' :=
  ⟨E, p, q, r, by rw [h]; rfl, fun _ => ⟨hE, h1, h2, h3⟩, fun hh => absurd h (by rw [hh]; simp), hb⟩
theorem ownUpd {w W : World} {B k : Nat} {v : Value} {cs : List C7} (h : Own w B v cs) (hU : Upd k w W) (hk : k < B) : Own W B v cs := by
  refine ⟨h.1, ?_⟩
  rcases h.2 with h2 | ⟨g, cap, cur, rfl, h1, hg, r⟩
  · exact .inl h2
  · exact .inr ⟨g, cap, cur, rfl, h1, hU.ob hg (by omega), r⟩
theorem beq_dec (n : Nat) : ((n : Int) == 1) = decide (n = 1) := by
  rw [Bool.eq_iff_iff]; simp; omega
theorem valueS_short (s : St) : (valueS s).1.2.length ≤ 1024 := by
  by_cases h : (valueS s).2.2 = 0
  · exact (setB_ok (valueS_ok h).2.2.1).2
  · rw [valueS_bad h]; simp
theorem take_rest {bs : List UInt8} (h : (takeE (bs, 0)).s.2 = 0) : (takeE (bs, 0)).s.1.length ≤ bs.length := by
  have k9 := valueS_ok (s := st9 (bs, 0)) h
  have k8 := numS_ok (s := st8 (bs, 0)) k9.1
  have k7 := numS_ok (s := st7 (bs, 0)) k8.1
  have k6 := valueS_ok (s := st6 (bs, 0)) k7.1
  have k5 := numS_ok (s := st5 (bs, 0)) k6.1
  have k4 := valueS_ok (s := st4 (bs, 0)) k5.1
  have k3 := numS_ok (s := st3 (bs, 0)) k4.1
  have k2 := numS_ok (s := st2 (bs, 0)) k3.1
  have k1 := numS_ok (s := st1 (bs, 0)) k2.1
  have k0 := cmdS_ok (s := (bs, 0)) k1.1
  have e0 := congrArg List.length k0.2.2
  have e1 := congrArg List.length (show (cmdS (bs, 0)).2.1 = _ from k1.2.2)
  have e2 := congrArg List.length (show (numS (st1 (bs, 0))).2.1 = _ from k2.2.2)
  have e3 := congrArg List.length (show (numS (st2 (bs, 0))).2.1 = _ from k3.2.2)
  have e4 := congrArg List.length (show (numS (st3 (bs, 0))).2.1 = _ from k4.2.2.2)
  have e5 := congrArg List.length (show (valueS (st4 (bs, 0))).2.1 = _ from k5.2.2)
  have e6 := congrArg List.length (show (numS (st5 (bs, 0))).2.1 = _ from k6.2.2.2)
  have e7 := congrArg List.length (show (valueS (st6 (bs, 0))).2.1 = _ from k7.2.2)
  have e8 := congrArg List.length (show (numS (st7 (bs, 0))).2.1 = _ from k8.2.2)
  have e9 := congrArg List.length (show (numS (st8 (bs, 0))).2.1 = _ from k9.2.2.2)
  simp only [List.length_append] at e0 e1 e2 e3 e4 e5 e6 e7 e8 e9
  show (valueS (st9 (bs, 0))).2.1.length ≤ bs.length
  omega
theorem obGrow {w w' : World} {q p : Nat} {o : Obj} (h : w.heap[q]? = some o) (hg : w.grownBy w' (some p)) (hne : q ≠ p) : w'.heap[q]? = some o := heapOf h hg hne
theorem rdSet {T : TypeId} {F : Nat → Prop} {w : World} {p q j : Nat} {s : St} {v : Value} (h : Rd T F w p s) (hq : q ≠ p) (hF : ¬ F q) : Rd T F (w.setCell ⟨q, j, none⟩ v) p s := h.keptN (grownSet w ⟨q, j, none⟩ v) (fun k hk => by cases hk; exact ⟨hq, hF⟩)
theorem ownSet {w : World} {B q j : Nat} {v u : Value} {cs : List C7} (h : Own w B v cs) (hq : q < B) : Own (w.setCell ⟨q, j, none⟩ u) B v cs := h.kept' (grownSet w ⟨q, j, none⟩ u) hq

set_option maxHeartbeats 8000000 in
set_option maxRecDepth 100000 in
theorem cDecode {vb : Value} {bs : List UInt8} {w : World} (h : SlB w vb bs) (hl : bs.length ≤ 1000000) :
    Calls Tryz.prog 47 #[vb] w fun x w' => DecPost (takeE (bs, 0)) w x w' := by
  obtain ⟨c, s1, h0⟩ : ∃ c s1, cmdS (bs, 0) = (c, s1) := ⟨_, _, rfl⟩
  obtain ⟨a1, s2, h1⟩ : ∃ n s', numS s1 = (n, s') := ⟨_, _, rfl⟩
  obtain ⟨a2, s3, h2⟩ : ∃ n s', numS s2 = (n, s') := ⟨_, _, rfl⟩
  obtain ⟨a3, s4, h3⟩ : ∃ n s', numS s3 = (n, s') := ⟨_, _, rfl⟩
  obtain ⟨a4, l4, s5, h4⟩ : ∃ t l s', valueS s4 = ((t, l), s') := ⟨_, _, _, rfl⟩
  obtain ⟨a5, s6, h5⟩ : ∃ n s', numS s5 = (n, s') := ⟨_, _, rfl⟩
  obtain ⟨a6, l6, s7, h6⟩ : ∃ t l s', valueS s6 = ((t, l), s') := ⟨_, _, _, rfl⟩
  obtain ⟨a7, s8, h7⟩ : ∃ n s', numS s7 = (n, s') := ⟨_, _, rfl⟩
  obtain ⟨a8, s9, h8⟩ : ∃ n s', numS s8 = (n, s') := ⟨_, _, rfl⟩
  obtain ⟨a9, l9, s10, h9⟩ : ∃ t l s', valueS s9 = ((t, l), s') := ⟨_, _, _, rfl⟩
  have hT : takeE (bs, 0) = ⟨c, a1, a2, a3, (a4, l4), a5, (a6, l6), a7, a8, (a9, l9), s10⟩ := by
    unfold takeE st10 st9 st8 st7 st6 st5 st4 st3 st2 st1
    simp only [h0, h1, h2, h3, h4, h5, h6, h7, h8, h9]
  rw [hT]
  have HT := hid hT
  have HH := hid (And.intro h0 (And.intro h1 (And.intro h2 (And.intro h3 (And.intro h4 (And.intro h5 (And.intro h6 (And.intro h7 (And.intro h8 h9)))))))))
  clear hT h0 h1 h2 h3 h4 h5 h6 h7 h8 h9
  go_enter Tryz.func47, Tryz.ntmps47
  go_wp2_with fail
  go_at_call 44
  refine (cRead (h.on ((Below.refl _ w).alloc (Nat.le_refl _) zeroEc)) hl).mono ?_
  rintro x w1 ⟨p, rfl, hp0, hp1, hr, hB⟩
  have hz0 : Ob (w.alloc zeroEc) w.heap.size 48 zE := heap_alloc_new w zeroEc
  have hB1 := ((Below.refl _ w).alloc (Nat.le_refl _) zeroEc).trans (hB.mono (by simp))
  have hz1 : Ob w1 w.heap.size 48 zE := heapB hz0 hB (by simp)
  have hsz := hB.size
  simp only [World.size_alloc] at hp0 hsz
  obtain ⟨F, hFe⟩ : ∃ F : Nat → Prop, F = (fun k => (w.alloc zeroEc).heap.size ≤ k ∧ k < p) := ⟨_, rfl⟩
  rw [← hFe] at hr
  obtain ⟨q, hq⟩ : ∃ q, q = w1.heap.size := ⟨_, rfl⟩
  have hFp : Hid (∀ k, F k → k < p) := hid (fun k hk => by rw [hFe] at hk; exact hk.2)
  have hzq : Hid (w.heap.size ≠ q) := hid (by omega)
  have hzp : Hid (w.heap.size ≠ p) := hid (by omega)
  have hqp : Hid (q ≠ p) := hid (by omega)
  have hqF : Hid (¬ F q) := hid (fun hk => by have := hFp.out q hk; omega)
  have hqw : Hid (w.heap.size ≤ q) := hid (by omega)
  have hpw : Hid (w.heap.size ≤ p) := hid (by omega)
  have HZ : Hid (Ob (w1.alloc zeroEc) w.heap.size 48 zE) := hid (obAlloc hz1)
  have HX : Hid (Ob (w1.alloc zeroEc) q 48 zE) := hid (by rw [hq]; exact heap_alloc_new w1 zeroEc)
  have HR : Hid (Rd 115 F (w1.alloc zeroEc) p (bs, 0)) := hid (hr.alloc _)
  have HW : Hid (Below w.heap.size w (w1.alloc zeroEc)) := hid (hB1.alloc hB1.size _)
  have hF := fun k (hk : F k) => Nat.lt_of_lt_of_le (hFp.out k hk) (Nat.le_of_lt HR.out.lt)
  clear hz0 hz1 hB1 hB hr hp0 hp1 hsz hFe
  go_wp2_with fail
  rw [← hq]
  clear hq
  go_at_call 67
  refine (cCmdX HH.out.1 HR.out hF).mono ?_
  rintro x w2 ⟨rfl, hr, hg⟩
  clear hF
  have GZ := hid (obGrow HZ.out hg hzp.out)
  have GX := hid (obGrow HX.out hg hqp.out)
  have GR := hid hr
  have GW := hid (HW.out.grown hg HW.out.size (fun k hk => by cases hk; exact hpw.out))
  clear hr hg
  clear HZ HX HR HW
  have HZ := GZ; clear GZ
  have HX := GX; clear GX
  have HR := GR; clear GR
  have HW := GW; clear GW
  have hF := fun k (hk : F k) => Nat.lt_of_lt_of_le (hFp.out k hk) (Nat.le_of_lt HR.out.lt)
  have k0 : w2.cell? ⟨q, 0, none⟩ = some (.int .i64 0) := Ob.cell (e := (⟨⟨0, 0, 0, 0, 0, 0, 0⟩, 0, 0, 0, 0, ⟨none, 0, 0⟩, 0, 0, ⟨none, 0, 0⟩, false, false, 0, ⟨none, 0, 0⟩⟩ : Ev)) HX.out (j := 0) rfl
  have z0 : w2.frozen? ⟨q, 0, none⟩ = false := Ob.free (e := (⟨⟨0, 0, 0, 0, 0, 0, 0⟩, 0, 0, 0, 0, ⟨none, 0, 0⟩, 0, 0, ⟨none, 0, 0⟩, false, false, 0, ⟨none, 0, 0⟩⟩ : Ev)) HX.out 0
  have k1 : w2.cell? ⟨q, 1, none⟩ = some (.int .i64 0) := Ob.cell (e := (⟨⟨0, 0, 0, 0, 0, 0, 0⟩, 0, 0, 0, 0, ⟨none, 0, 0⟩, 0, 0, ⟨none, 0, 0⟩, false, false, 0, ⟨none, 0, 0⟩⟩ : Ev)) HX.out (j := 1) rfl
  have z1 : w2.frozen? ⟨q, 1, none⟩ = false := Ob.free (e := (⟨⟨0, 0, 0, 0, 0, 0, 0⟩, 0, 0, 0, 0, ⟨none, 0, 0⟩, 0, 0, ⟨none, 0, 0⟩, false, false, 0, ⟨none, 0, 0⟩⟩ : Ev)) HX.out 1
  have k2 : w2.cell? ⟨q, 2, none⟩ = some (.int .i64 0) := Ob.cell (e := (⟨⟨0, 0, 0, 0, 0, 0, 0⟩, 0, 0, 0, 0, ⟨none, 0, 0⟩, 0, 0, ⟨none, 0, 0⟩, false, false, 0, ⟨none, 0, 0⟩⟩ : Ev)) HX.out (j := 2) rfl
  have z2 : w2.frozen? ⟨q, 2, none⟩ = false := Ob.free (e := (⟨⟨0, 0, 0, 0, 0, 0, 0⟩, 0, 0, 0, 0, ⟨none, 0, 0⟩, 0, 0, ⟨none, 0, 0⟩, false, false, 0, ⟨none, 0, 0⟩⟩ : Ev)) HX.out 2
  have k3 : w2.cell? ⟨q, 3, none⟩ = some (.int .i64 0) := Ob.cell (e := (⟨⟨0, 0, 0, 0, 0, 0, 0⟩, 0, 0, 0, 0, ⟨none, 0, 0⟩, 0, 0, ⟨none, 0, 0⟩, false, false, 0, ⟨none, 0, 0⟩⟩ : Ev)) HX.out (j := 3) rfl
  have z3 : w2.frozen? ⟨q, 3, none⟩ = false := Ob.free (e := (⟨⟨0, 0, 0, 0, 0, 0, 0⟩, 0, 0, 0, 0, ⟨none, 0, 0⟩, 0, 0, ⟨none, 0, 0⟩, false, false, 0, ⟨none, 0, 0⟩⟩ : Ev)) HX.out 3
  have k4 : w2.cell? ⟨q, 4, none⟩ = some (.int .i64 0) := Ob.cell (e := (⟨⟨0, 0, 0, 0, 0, 0, 0⟩, 0, 0, 0, 0, ⟨none, 0, 0⟩, 0, 0, ⟨none, 0, 0⟩, false, false, 0, ⟨none, 0, 0⟩⟩ : Ev)) HX.out (j := 4) rfl
  have z4 : w2.frozen? ⟨q, 4, none⟩ = false := Ob.free (e := (⟨⟨0, 0, 0, 0, 0, 0, 0⟩, 0, 0, 0, 0, ⟨none, 0, 0⟩, 0, 0, ⟨none, 0, 0⟩, false, false, 0, ⟨none, 0, 0⟩⟩ : Ev)) HX.out 4
  have k5 : w2.cell? ⟨q, 5, none⟩ = some (.int .i64 0) := Ob.cell (e := (⟨⟨0, 0, 0, 0, 0, 0, 0⟩, 0, 0, 0, 0, ⟨none, 0, 0⟩, 0, 0, ⟨none, 0, 0⟩, false, false, 0, ⟨none, 0, 0⟩⟩ : Ev)) HX.out (j := 5) rfl
  have z5 : w2.frozen? ⟨q, 5, none⟩ = false := Ob.free (e := (⟨⟨0, 0, 0, 0, 0, 0, 0⟩, 0, 0, 0, 0, ⟨none, 0, 0⟩, 0, 0, ⟨none, 0, 0⟩, false, false, 0, ⟨none, 0, 0⟩⟩ : Ev)) HX.out 5
  have k6 : w2.cell? ⟨q, 6, none⟩ = some (.int .i64 0) := Ob.cell (e := (⟨⟨0, 0, 0, 0, 0, 0, 0⟩, 0, 0, 0, 0, ⟨none, 0, 0⟩, 0, 0, ⟨none, 0, 0⟩, false, false, 0, ⟨none, 0, 0⟩⟩ : Ev)) HX.out (j := 6) rfl
  have z6 : w2.frozen? ⟨q, 6, none⟩ = false := Ob.free (e := (⟨⟨0, 0, 0, 0, 0, 0, 0⟩, 0, 0, 0, 0, ⟨none, 0, 0⟩, 0, 0, ⟨none, 0, 0⟩, false, false, 0, ⟨none, 0, 0⟩⟩ : Ev)) HX.out 6
  go_wp2_with fail
  have GZ := hid (setOther (q := q) (j := 6) (v := .int .i64 c.q) (setOther (q := q) (j := 5) (v := .int .i64 c.p) (setOther (q := q) (j := 4) (v := .int .i64 c.d) (setOther (q := q) (j := 3) (v := .int .i64 c.t) (setOther (q := q) (j := 2) (v := .int .i64 c.s) (setOther (q := q) (j := 1) (v := .int .i64 c.k) (setOther (q := q) (j := 0) (v := .int .i64 c.i) HZ.out hzq.out) hzq.out) hzq.out) hzq.out) hzq.out) hzq.out) hzq.out)
  have GX := hid (Ob.set (e := (⟨⟨c.i, c.k, c.s, c.t, c.d, c.p, 0⟩, 0, 0, 0, 0, ⟨none, 0, 0⟩, 0, 0, ⟨none, 0, 0⟩, false, false, 0, ⟨none, 0, 0⟩⟩ : Ev)) (T := 48) (Ob.set (e := (⟨⟨c.i, c.k, c.s, c.t, c.d, 0, 0⟩, 0, 0, 0, 0, ⟨none, 0, 0⟩, 0, 0, ⟨none, 0, 0⟩, false, false, 0, ⟨none, 0, 0⟩⟩ : Ev)) (T := 48) (Ob.set (e := (⟨⟨c.i, c.k, c.s, c.t, 0, 0, 0⟩, 0, 0, 0, 0, ⟨none, 0, 0⟩, 0, 0, ⟨none, 0, 0⟩, false, false, 0, ⟨none, 0, 0⟩⟩ : Ev)) (T := 48) (Ob.set (e := (⟨⟨c.i, c.k, c.s, 0, 0, 0, 0⟩, 0, 0, 0, 0, ⟨none, 0, 0⟩, 0, 0, ⟨none, 0, 0⟩, false, false, 0, ⟨none, 0, 0⟩⟩ : Ev)) (T := 48) (Ob.set (e := (⟨⟨c.i, c.k, 0, 0, 0, 0, 0⟩, 0, 0, 0, 0, ⟨none, 0, 0⟩, 0, 0, ⟨none, 0, 0⟩, false, false, 0, ⟨none, 0, 0⟩⟩ : Ev)) (T := 48) (Ob.set (e := (⟨⟨c.i, 0, 0, 0, 0, 0, 0⟩, 0, 0, 0, 0, ⟨none, 0, 0⟩, 0, 0, ⟨none, 0, 0⟩, false, false, 0, ⟨none, 0, 0⟩⟩ : Ev)) (T := 48) (Ob.set (e := (⟨⟨0, 0, 0, 0, 0, 0, 0⟩, 0, 0, 0, 0, ⟨none, 0, 0⟩, 0, 0, ⟨none, 0, 0⟩, false, false, 0, ⟨none, 0, 0⟩⟩ : Ev)) (T := 48) HX.out (j := 0) (v := .int .i64 c.i) (e' := (⟨⟨c.i, 0, 0, 0, 0, 0, 0⟩, 0, 0, 0, 0, ⟨none, 0, 0⟩, 0, 0, ⟨none, 0, 0⟩, false, false, 0, ⟨none, 0, 0⟩⟩ : Ev)) rfl) (j := 1) (v := .int .i64 c.k) (e' := (⟨⟨c.i, c.k, 0, 0, 0, 0, 0⟩, 0, 0, 0, 0, ⟨none, 0, 0⟩, 0, 0, ⟨none, 0, 0⟩, false, false, 0, ⟨none, 0, 0⟩⟩ : Ev)) rfl) (j := 2) (v := .int .i64 c.s) (e' := (⟨⟨c.i, c.k, c.s, 0, 0, 0, 0⟩, 0, 0, 0, 0, ⟨none, 0, 0⟩, 0, 0, ⟨none, 0, 0⟩, false, false, 0, ⟨none, 0, 0⟩⟩ : Ev)) rfl) (j := 3) (v := .int .i64 c.t) (e' := (⟨⟨c.i, c.k, c.s, c.t, 0, 0, 0⟩, 0, 0, 0, 0, ⟨none, 0, 0⟩, 0, 0, ⟨none, 0, 0⟩, false, false, 0, ⟨none, 0, 0⟩⟩ : Ev)) rfl) (j := 4) (v := .int .i64 c.d) (e' := (⟨⟨c.i, c.k, c.s, c.t, c.d, 0, 0⟩, 0, 0, 0, 0, ⟨none, 0, 0⟩, 0, 0, ⟨none, 0, 0⟩, false, false, 0, ⟨none, 0, 0⟩⟩ : Ev)) rfl) (j := 5) (v := .int .i64 c.p) (e' := (⟨⟨c.i, c.k, c.s, c.t, c.d, c.p, 0⟩, 0, 0, 0, 0, ⟨none, 0, 0⟩, 0, 0, ⟨none, 0, 0⟩, false, false, 0, ⟨none, 0, 0⟩⟩ : Ev)) rfl) (j := 6) (v := .int .i64 c.q) (e' := (⟨c, 0, 0, 0, 0, ⟨none, 0, 0⟩, 0, 0, ⟨none, 0, 0⟩, false, false, 0, ⟨none, 0, 0⟩⟩ : Ev)) rfl)
  have GR := hid (rdSet (q := q) (j := 6) (v := .int .i64 c.q) (rdSet (q := q) (j := 5) (v := .int .i64 c.p) (rdSet (q := q) (j := 4) (v := .int .i64 c.d) (rdSet (q := q) (j := 3) (v := .int .i64 c.t) (rdSet (q := q) (j := 2) (v := .int .i64 c.s) (rdSet (q := q) (j := 1) (v := .int .i64 c.k) (rdSet (q := q) (j := 0) (v := .int .i64 c.i) HR.out hqp.out hqF.out) hqp.out hqF.out) hqp.out hqF.out) hqp.out hqF.out) hqp.out hqF.out) hqp.out hqF.out) hqp.out hqF.out)
  have GW := hid (((((((HW.out.setCell (p := ⟨q, 0, none⟩) hqw.out (.int .i64 c.i)).setCell (p := ⟨q, 1, none⟩) hqw.out (.int .i64 c.k)).setCell (p := ⟨q, 2, none⟩) hqw.out (.int .i64 c.s)).setCell (p := ⟨q, 3, none⟩) hqw.out (.int .i64 c.t)).setCell (p := ⟨q, 4, none⟩) hqw.out (.int .i64 c.d)).setCell (p := ⟨q, 5, none⟩) hqw.out (.int .i64 c.p)).setCell (p := ⟨q, 6, none⟩) hqw.out (.int .i64 c.q))
  clear HZ HX HR HW
  have HZ := GZ; clear GZ
  have HX := GX; clear GX
  have HR := GR; clear GR
  have HW := GW; clear GW
  clear k0 z0 k1 z1 k2 z2 k3 z3 k4 z4 k5 z5 k6 z6
  have hF := fun k (hk : F k) => Nat.lt_of_lt_of_le (hFp.out k hk) (Nat.le_of_lt HR.out.lt)
  go_at_call 45
  refine (cNumX HH.out.2.1 HR.out).mono ?_
  rintro x w3 ⟨rfl, hr, hg⟩
  clear hF
  have GZ := hid (obGrow HZ.out hg hzp.out)
  have GX := hid (obGrow HX.out hg hqp.out)
  have GR := hid hr
  have GW := hid (HW.out.grown hg HW.out.size (fun k hk => by cases hk; exact hpw.out))
  clear hr hg
  clear HZ HX HR HW
  have HZ := GZ; clear GZ
  have HX := GX; clear GX
  have HR := GR; clear GR
  have HW := GW; clear GW
  have hF := fun k (hk : F k) => Nat.lt_of_lt_of_le (hFp.out k hk) (Nat.le_of_lt HR.out.lt)
  have k7 : w3.cell? ⟨q, 7, none⟩ = some (.int .i64 0) := Ob.cell (e := (⟨c, 0, 0, 0, 0, ⟨none, 0, 0⟩, 0, 0, ⟨none, 0, 0⟩, false, false, 0, ⟨none, 0, 0⟩⟩ : Ev)) HX.out (j := 7) rfl
  have z7 : w3.frozen? ⟨q, 7, none⟩ = false := Ob.free (e := (⟨c, 0, 0, 0, 0, ⟨none, 0, 0⟩, 0, 0, ⟨none, 0, 0⟩, false, false, 0, ⟨none, 0, 0⟩⟩ : Ev)) HX.out 7
  go_wp2_with fail
  have GZ := hid (setOther (q := q) (j := 7) (v := .int .i64 a1) HZ.out hzq.out)
  have GX := hid (Ob.set (e := (⟨c, 0, 0, 0, 0, ⟨none, 0, 0⟩, 0, 0, ⟨none, 0, 0⟩, false, false, 0, ⟨none, 0, 0⟩⟩ : Ev)) (T := 48) HX.out (j := 7) (v := .int .i64 a1) (e' := (⟨c, a1, 0, 0, 0, ⟨none, 0, 0⟩, 0, 0, ⟨none, 0, 0⟩, false, false, 0, ⟨none, 0, 0⟩⟩ : Ev)) rfl)
  have GR := hid (rdSet (q := q) (j := 7) (v := .int .i64 a1) HR.out hqp.out hqF.out)
  have GW := hid (HW.out.setCell (p := ⟨q, 7, none⟩) hqw.out (.int .i64 a1))
  clear HZ HX HR HW
  have HZ := GZ; clear GZ
  have HX := GX; clear GX
  have HR := GR; clear GR
  have HW := GW; clear GW
  clear k7 z7
  have hF := fun k (hk : F k) => Nat.lt_of_lt_of_le (hFp.out k hk) (Nat.le_of_lt HR.out.lt)
  go_at_call 45
  refine (cNumX HH.out.2.2.1 HR.out).mono ?_
  rintro x w4 ⟨rfl, hr, hg⟩
  clear hF
  have GZ := hid (obGrow HZ.out hg hzp.out)
  have GX := hid (obGrow HX.out hg hqp.out)
  have GR := hid hr
  have GW := hid (HW.out.grown hg HW.out.size (fun k hk => by cases hk; exact hpw.out))
  clear hr hg
  clear HZ HX HR HW
  have HZ := GZ; clear GZ
  have HX := GX; clear GX
  have HR := GR; clear GR
  have HW := GW; clear GW
  have hF := fun k (hk : F k) => Nat.lt_of_lt_of_le (hFp.out k hk) (Nat.le_of_lt HR.out.lt)
  have k8 : w4.cell? ⟨q, 8, none⟩ = some (.int .i64 0) := Ob.cell (e := (⟨c, a1, 0, 0, 0, ⟨none, 0, 0⟩, 0, 0, ⟨none, 0, 0⟩, false, false, 0, ⟨none, 0, 0⟩⟩ : Ev)) HX.out (j := 8) rfl
  have z8 : w4.frozen? ⟨q, 8, none⟩ = false := Ob.free (e := (⟨c, a1, 0, 0, 0, ⟨none, 0, 0⟩, 0, 0, ⟨none, 0, 0⟩, false, false, 0, ⟨none, 0, 0⟩⟩ : Ev)) HX.out 8
  go_wp2_with fail
  have GZ := hid (setOther (q := q) (j := 8) (v := .int .i64 a2) HZ.out hzq.out)
  have GX := hid (Ob.set (e := (⟨c, a1, 0, 0, 0, ⟨none, 0, 0⟩, 0, 0, ⟨none, 0, 0⟩, false, false, 0, ⟨none, 0, 0⟩⟩ : Ev)) (T := 48) HX.out (j := 8) (v := .int .i64 a2) (e' := (⟨c, a1, a2, 0, 0, ⟨none, 0, 0⟩, 0, 0, ⟨none, 0, 0⟩, false, false, 0, ⟨none, 0, 0⟩⟩ : Ev)) rfl)
  have GR := hid (rdSet (q := q) (j := 8) (v := .int .i64 a2) HR.out hqp.out hqF.out)
  have GW := hid (HW.out.setCell (p := ⟨q, 8, none⟩) hqw.out (.int .i64 a2))
  clear HZ HX HR HW
  have HZ := GZ; clear GZ
  have HX := GX; clear GX
  have HR := GR; clear GR
  have HW := GW; clear GW
  clear k8 z8
  have hF := fun k (hk : F k) => Nat.lt_of_lt_of_le (hFp.out k hk) (Nat.le_of_lt HR.out.lt)
  go_at_call 45
  refine (cNumX HH.out.2.2.2.1 HR.out).mono ?_
  rintro x w5 ⟨rfl, hr, hg⟩
  clear hF
  have GZ := hid (obGrow HZ.out hg hzp.out)
  have GX := hid (obGrow HX.out hg hqp.out)
  have GR := hid hr
  have GW := hid (HW.out.grown hg HW.out.size (fun k hk => by cases hk; exact hpw.out))
  clear hr hg
  clear HZ HX HR HW
  have HZ := GZ; clear GZ
  have HX := GX; clear GX
  have HR := GR; clear GR
  have HW := GW; clear GW
  have hF := fun k (hk : F k) => Nat.lt_of_lt_of_le (hFp.out k hk) (Nat.le_of_lt HR.out.lt)
  have k9 : w5.cell? ⟨q, 9, none⟩ = some (.int .i64 0) := Ob.cell (e := (⟨c, a1, a2, 0, 0, ⟨none, 0, 0⟩, 0, 0, ⟨none, 0, 0⟩, false, false, 0, ⟨none, 0, 0⟩⟩ : Ev)) HX.out (j := 9) rfl
  have z9 : w5.frozen? ⟨q, 9, none⟩ = false := Ob.free (e := (⟨c, a1, a2, 0, 0, ⟨none, 0, 0⟩, 0, 0, ⟨none, 0, 0⟩, false, false, 0, ⟨none, 0, 0⟩⟩ : Ev)) HX.out 9
  go_wp2_with fail
  have GZ := hid (setOther (q := q) (j := 9) (v := .int .i64 a3) HZ.out hzq.out)
  have GX := hid (Ob.set (e := (⟨c, a1, a2, 0, 0, ⟨none, 0, 0⟩, 0, 0, ⟨none, 0, 0⟩, false, false, 0, ⟨none, 0, 0⟩⟩ : Ev)) (T := 48) HX.out (j := 9) (v := .int .i64 a3) (e' := (⟨c, a1, a2, a3, 0, ⟨none, 0, 0⟩, 0, 0, ⟨none, 0, 0⟩, false, false, 0, ⟨none, 0, 0⟩⟩ : Ev)) rfl)
  have GR := hid (rdSet (q := q) (j := 9) (v := .int .i64 a3) HR.out hqp.out hqF.out)
  have GW := hid (HW.out.setCell (p := ⟨q, 9, none⟩) hqw.out (.int .i64 a3))
  clear HZ HX HR HW
  have HZ := GZ; clear GZ
  have HX := GX; clear GX
  have HR := GR; clear GR
  have HW := GW; clear GW
  clear k9 z9
  have hF := fun k (hk : F k) => Nat.lt_of_lt_of_le (hFp.out k hk) (Nat.le_of_lt HR.out.lt)
  go_at_call 68
  refine (cValueX HH.out.2.2.2.2.1 HR.out hF).mono ?_
  rintro x w6 ⟨g4, c4, n4, rfl, ho, hr, hg⟩
  clear hF
  have B0 : p < (w5.setCell ⟨q, 9, none⟩ (.int .i64 a3)).heap.size := HR.out.lt
  have B1 : q < (w5.setCell ⟨q, 9, none⟩ (.int .i64 a3)).heap.size := (Array.getElem?_eq_some_iff.1 HX.out).1
  have hp4 := hid B0
  have hq4 := hid B1
  clear B0 B1
  have GZ := hid (obGrow HZ.out hg hzp.out)
  have GX := hid (obGrow HX.out hg hqp.out)
  have GR := hid hr
  have GW := hid (HW.out.grown hg HW.out.size (fun k hk => by cases hk; exact hpw.out))
  clear hr hg
  clear HZ HX HR HW
  have HZ := GZ; clear GZ
  have HX := GX; clear GX
  have HR := GR; clear GR
  have HW := GW; clear GW
  have hF := fun k (hk : F k) => Nat.lt_of_lt_of_le (hFp.out k hk) (Nat.le_of_lt HR.out.lt)
  have H4 := hid ho
  clear ho
  have k10 : w6.cell? ⟨q, 10, none⟩ = some (.int .i64 0) := Ob.cell (e := (⟨c, a1, a2, a3, 0, ⟨none, 0, 0⟩, 0, 0, ⟨none, 0, 0⟩, false, false, 0, ⟨none, 0, 0⟩⟩ : Ev)) HX.out (j := 10) rfl
  have z10 : w6.frozen? ⟨q, 10, none⟩ = false := Ob.free (e := (⟨c, a1, a2, a3, 0, ⟨none, 0, 0⟩, 0, 0, ⟨none, 0, 0⟩, false, false, 0, ⟨none, 0, 0⟩⟩ : Ev)) HX.out 10
  have k11 : w6.cell? ⟨q, 11, none⟩ = some (.slice none 0 0) := Ob.cell (e := (⟨c, a1, a2, a3, 0, ⟨none, 0, 0⟩, 0, 0, ⟨none, 0, 0⟩, false, false, 0, ⟨none, 0, 0⟩⟩ : Ev)) HX.out (j := 11) rfl
  have z11 : w6.frozen? ⟨q, 11, none⟩ = false := Ob.free (e := (⟨c, a1, a2, a3, 0, ⟨none, 0, 0⟩, 0, 0, ⟨none, 0, 0⟩, false, false, 0, ⟨none, 0, 0⟩⟩ : Ev)) HX.out 11
  go_wp2_with fail
  have GZ := hid (setOther (q := q) (j := 11) (v := .slice g4 n4 c4) (setOther (q := q) (j := 10) (v := .int .i64 a4) HZ.out hzq.out) hzq.out)
  have GX := hid (Ob.set (e := (⟨c, a1, a2, a3, a4, ⟨none, 0, 0⟩, 0, 0, ⟨none, 0, 0⟩, false, false, 0, ⟨none, 0, 0⟩⟩ : Ev)) (T := 48) (Ob.set (e := (⟨c, a1, a2, a3, 0, ⟨none, 0, 0⟩, 0, 0, ⟨none, 0, 0⟩, false, false, 0, ⟨none, 0, 0⟩⟩ : Ev)) (T := 48) HX.out (j := 10) (v := .int .i64 a4) (e' := (⟨c, a1, a2, a3, a4, ⟨none, 0, 0⟩, 0, 0, ⟨none, 0, 0⟩, false, false, 0, ⟨none, 0, 0⟩⟩ : Ev)) rfl) (j := 11) (v := .slice g4 n4 c4) (e' := (⟨c, a1, a2, a3, a4, ⟨g4, n4, c4⟩, 0, 0, ⟨none, 0, 0⟩, false, false, 0, ⟨none, 0, 0⟩⟩ : Ev)) rfl)
  have GR := hid (rdSet (q := q) (j := 11) (v := .slice g4 n4 c4) (rdSet (q := q) (j := 10) (v := .int .i64 a4) HR.out hqp.out hqF.out) hqp.out hqF.out)
  have GW := hid ((HW.out.setCell (p := ⟨q, 10, none⟩) hqw.out (.int .i64 a4)).setCell (p := ⟨q, 11, none⟩) hqw.out (.slice g4 n4 c4))
  have G4 := hid (ownSet (q := q) (j := 11) (u := .slice g4 n4 c4) (ownSet (q := q) (j := 10) (u := .int .i64 a4) H4.out hq4.out) hq4.out)
  clear HZ HX HR HW H4
  have HZ := GZ; clear GZ
  have HX := GX; clear GX
  have HR := GR; clear GR
  have HW := GW; clear GW
  have H4 := G4; clear G4
  clear k10 z10 k11 z11
  have hF := fun k (hk : F k) => Nat.lt_of_lt_of_le (hFp.out k hk) (Nat.le_of_lt HR.out.lt)
  go_at_call 45
  refine (cNumX HH.out.2.2.2.2.2.1 HR.out).mono ?_
  rintro x w7 ⟨rfl, hr, hg⟩
  clear hF
  have GZ := hid (obGrow HZ.out hg hzp.out)
  have GX := hid (obGrow HX.out hg hqp.out)
  have GR := hid hr
  have GW := hid (HW.out.grown hg HW.out.size (fun k hk => by cases hk; exact hpw.out))
  have G4 := hid (H4.out.kept' hg hp4.out)
  clear hr hg
  clear HZ HX HR HW H4
  have HZ := GZ; clear GZ
  have HX := GX; clear GX
  have HR := GR; clear GR
  have HW := GW; clear GW
  have H4 := G4; clear G4
  have hF := fun k (hk : F k) => Nat.lt_of_lt_of_le (hFp.out k hk) (Nat.le_of_lt HR.out.lt)
  have k12 : w7.cell? ⟨q, 12, none⟩ = some (.int .i64 0) := Ob.cell (e := (⟨c, a1, a2, a3, a4, ⟨g4, n4, c4⟩, 0, 0, ⟨none, 0, 0⟩, false, false, 0, ⟨none, 0, 0⟩⟩ : Ev)) HX.out (j := 12) rfl
  have z12 : w7.frozen? ⟨q, 12, none⟩ = false := Ob.free (e := (⟨c, a1, a2, a3, a4, ⟨g4, n4, c4⟩, 0, 0, ⟨none, 0, 0⟩, false, false, 0, ⟨none, 0, 0⟩⟩ : Ev)) HX.out 12
  go_wp2_with fail
  have GZ := hid (setOther (q := q) (j := 12) (v := .int .i64 a5) HZ.out hzq.out)
  have GX := hid (Ob.set (e := (⟨c, a1, a2, a3, a4, ⟨g4, n4, c4⟩, 0, 0, ⟨none, 0, 0⟩, false, false, 0, ⟨none, 0, 0⟩⟩ : Ev)) (T := 48) HX.out (j := 12) (v := .int .i64 a5) (e' := (⟨c, a1, a2, a3, a4, ⟨g4, n4, c4⟩, a5, 0, ⟨none, 0, 0⟩, false, false, 0, ⟨none, 0, 0⟩⟩ : Ev)) rfl)
  have GR := hid (rdSet (q := q) (j := 12) (v := .int .i64 a5) HR.out hqp.out hqF.out)
  have GW := hid (HW.out.setCell (p := ⟨q, 12, none⟩) hqw.out (.int .i64 a5))
  have G4 := hid (ownSet (q := q) (j := 12) (u := .int .i64 a5) H4.out hq4.out)
  clear HZ HX HR HW H4
  have HZ := GZ; clear GZ
  have HX := GX; clear GX
  have HR := GR; clear GR
  have HW := GW; clear GW
  have H4 := G4; clear G4
  clear k12 z12
  have hF := fun k (hk : F k) => Nat.lt_of_lt_of_le (hFp.out k hk) (Nat.le_of_lt HR.out.lt)
  go_at_call 68
  refine (cValueX HH.out.2.2.2.2.2.2.1 HR.out hF).mono ?_
  rintro x w8 ⟨g6, c6, n6, rfl, ho, hr, hg⟩
  clear hF
  have B0 : p < (w7.setCell ⟨q, 12, none⟩ (.int .i64 a5)).heap.size := HR.out.lt
  have B1 : q < (w7.setCell ⟨q, 12, none⟩ (.int .i64 a5)).heap.size := (Array.getElem?_eq_some_iff.1 HX.out).1
  have hp6 := hid B0
  have hq6 := hid B1
  clear B0 B1
  have GZ := hid (obGrow HZ.out hg hzp.out)
  have GX := hid (obGrow HX.out hg hqp.out)
  have GR := hid hr
  have GW := hid (HW.out.grown hg HW.out.size (fun k hk => by cases hk; exact hpw.out))
  have G4 := hid (H4.out.kept' hg hp4.out)
  clear hr hg
  clear HZ HX HR HW H4
  have HZ := GZ; clear GZ
  have HX := GX; clear GX
  have HR := GR; clear GR
  have HW := GW; clear GW
  have H4 := G4; clear G4
  have hF := fun k (hk : F k) => Nat.lt_of_lt_of_le (hFp.out k hk) (Nat.le_of_lt HR.out.lt)
  have H6 := hid ho
  clear ho
  have k13 : w8.cell? ⟨q, 13, none⟩ = some (.int .i64 0) := Ob.cell (e := (⟨c, a1, a2, a3, a4, ⟨g4, n4, c4⟩, a5, 0, ⟨none, 0, 0⟩, false, false, 0, ⟨none, 0, 0⟩⟩ : Ev)) HX.out (j := 13) rfl
  have z13 : w8.frozen? ⟨q, 13, none⟩ = false := Ob.free (e := (⟨c, a1, a2, a3, a4, ⟨g4, n4, c4⟩, a5, 0, ⟨none, 0, 0⟩, false, false, 0, ⟨none, 0, 0⟩⟩ : Ev)) HX.out 13
  have k14 : w8.cell? ⟨q, 14, none⟩ = some (.slice none 0 0) := Ob.cell (e := (⟨c, a1, a2, a3, a4, ⟨g4, n4, c4⟩, a5, 0, ⟨none, 0, 0⟩, false, false, 0, ⟨none, 0, 0⟩⟩ : Ev)) HX.out (j := 14) rfl
  have z14 : w8.frozen? ⟨q, 14, none⟩ = false := Ob.free (e := (⟨c, a1, a2, a3, a4, ⟨g4, n4, c4⟩, a5, 0, ⟨none, 0, 0⟩, false, false, 0, ⟨none, 0, 0⟩⟩ : Ev)) HX.out 14
  go_wp2_with fail
  have GZ := hid (setOther (q := q) (j := 14) (v := .slice g6 n6 c6) (setOther (q := q) (j := 13) (v := .int .i64 a6) HZ.out hzq.out) hzq.out)
  have GX := hid (Ob.set (e := (⟨c, a1, a2, a3, a4, ⟨g4, n4, c4⟩, a5, a6, ⟨none, 0, 0⟩, false, false, 0, ⟨none, 0, 0⟩⟩ : Ev)) (T := 48) (Ob.set (e := (⟨c, a1, a2, a3, a4, ⟨g4, n4, c4⟩, a5, 0, ⟨none, 0, 0⟩, false, false, 0, ⟨none, 0, 0⟩⟩ : Ev)) (T := 48) HX.out (j := 13) (v := .int .i64 a6) (e' := (⟨c, a1, a2, a3, a4, ⟨g4, n4, c4⟩, a5, a6, ⟨none, 0, 0⟩, false, false, 0, ⟨none, 0, 0⟩⟩ : Ev)) rfl) (j := 14) (v := .slice g6 n6 c6) (e' := (⟨c, a1, a2, a3, a4, ⟨g4, n4, c4⟩, a5, a6, ⟨g6, n6, c6⟩, false, false, 0, ⟨none, 0, 0⟩⟩ : Ev)) rfl)
  have GR := hid (rdSet (q := q) (j := 14) (v := .slice g6 n6 c6) (rdSet (q := q) (j := 13) (v := .int .i64 a6) HR.out hqp.out hqF.out) hqp.out hqF.out)
  have GW := hid ((HW.out.setCell (p := ⟨q, 13, none⟩) hqw.out (.int .i64 a6)).setCell (p := ⟨q, 14, none⟩) hqw.out (.slice g6 n6 c6))
  have G4 := hid (ownSet (q := q) (j := 14) (u := .slice g6 n6 c6) (ownSet (q := q) (j := 13) (u := .int .i64 a6) H4.out hq4.out) hq4.out)
  have G6 := hid (ownSet (q := q) (j := 14) (u := .slice g6 n6 c6) (ownSet (q := q) (j := 13) (u := .int .i64 a6) H6.out hq6.out) hq6.out)
  clear HZ HX HR HW H4 H6
  have HZ := GZ; clear GZ
  have HX := GX; clear GX
  have HR := GR; clear GR
  have HW := GW; clear GW
  have H4 := G4; clear G4
  have H6 := G6; clear G6
  clear k13 z13 k14 z14
  have hF := fun k (hk : F k) => Nat.lt_of_lt_of_le (hFp.out k hk) (Nat.le_of_lt HR.out.lt)
  go_at_call 45
  refine (cNumX HH.out.2.2.2.2.2.2.2.1 HR.out).mono ?_
  rintro x w9 ⟨rfl, hr, hg⟩
  clear hF
  have GZ := hid (obGrow HZ.out hg hzp.out)
  have GX := hid (obGrow HX.out hg hqp.out)
  have GR := hid hr
  have GW := hid (HW.out.grown hg HW.out.size (fun k hk => by cases hk; exact hpw.out))
  have G4 := hid (H4.out.kept' hg hp4.out)
  have G6 := hid (H6.out.kept' hg hp6.out)
  clear hr hg
  clear HZ HX HR HW H4 H6
  have HZ := GZ; clear GZ
  have HX := GX; clear GX
  have HR := GR; clear GR
  have HW := GW; clear GW
  have H4 := G4; clear G4
  have H6 := G6; clear G6
  have hF := fun k (hk : F k) => Nat.lt_of_lt_of_le (hFp.out k hk) (Nat.le_of_lt HR.out.lt)
  go_wp2_with fail
  have GZ := hid HZ.out
  have GX := hid HX.out
  have GR := hid HR.out
  have GW := hid HW.out
  have G4 := hid H4.out
  have G6 := hid H6.out
  clear HZ HX HR HW H4 H6
  have HZ := GZ; clear GZ
  have HX := GX; clear GX
  have HR := GR; clear GR
  have HW := GW; clear GW
  have H4 := G4; clear G4
  have H6 := G6; clear G6
  have hF := fun k (hk : F k) => Nat.lt_of_lt_of_le (hFp.out k hk) (Nat.le_of_lt HR.out.lt)
  go_at_call 45
  refine (cNumX HH.out.2.2.2.2.2.2.2.2.1 HR.out).mono ?_
  rintro x w10 ⟨rfl, hr, hg⟩
  clear hF
  have GZ := hid (obGrow HZ.out hg hzp.out)
  have GX := hid (obGrow HX.out hg hqp.out)
  have GR := hid hr
  have GW := hid (HW.out.grown hg HW.out.size (fun k hk => by cases hk; exact hpw.out))
  have G4 := hid (H4.out.kept' hg hp4.out)
  have G6 := hid (H6.out.kept' hg hp6.out)
  clear hr hg
  clear HZ HX HR HW H4 H6
  have HZ := GZ; clear GZ
  have HX := GX; clear GX
  have HR := GR; clear GR
  have HW := GW; clear GW
  have H4 := G4; clear G4
  have H6 := G6; clear G6
  have hF := fun k (hk : F k) => Nat.lt_of_lt_of_le (hFp.out k hk) (Nat.le_of_lt HR.out.lt)
  go_wp2_with fail
  have GZ := hid HZ.out
  have GX := hid HX.out
  have GR := hid HR.out
  have GW := hid HW.out
  have G4 := hid H4.out
  have G6 := hid H6.out
  clear HZ HX HR HW H4 H6
  have HZ := GZ; clear GZ
  have HX := GX; clear GX
  have HR := GR; clear GR
  have HW := GW; clear GW
  have H4 := G4; clear G4
  have H6 := G6; clear G6
  have hF := fun k (hk : F k) => Nat.lt_of_lt_of_le (hFp.out k hk) (Nat.le_of_lt HR.out.lt)
  go_at_call 68
  refine (cValueX HH.out.2.2.2.2.2.2.2.2.2 HR.out hF).mono ?_
  rintro x w11 ⟨g9, c9, n9, rfl, ho, hr, hg⟩
  clear hF
  have B0 : p < w10.heap.size := HR.out.lt
  have B1 : q < w10.heap.size := (Array.getElem?_eq_some_iff.1 HX.out).1
  have hp9 := hid B0
  have hq9 := hid B1
  clear B0 B1
  have GZ := hid (obGrow HZ.out hg hzp.out)
  have GX := hid (obGrow HX.out hg hqp.out)
  have GR := hid hr
  have GW := hid (HW.out.grown hg HW.out.size (fun k hk => by cases hk; exact hpw.out))
  have G4 := hid (H4.out.kept' hg hp4.out)
  have G6 := hid (H6.out.kept' hg hp6.out)
  clear hr hg
  clear HZ HX HR HW H4 H6
  have HZ := GZ; clear GZ
  have HX := GX; clear GX
  have HR := GR; clear GR
  have HW := GW; clear GW
  have H4 := G4; clear G4
  have H6 := G6; clear G6
  have hF := fun k (hk : F k) => Nat.lt_of_lt_of_le (hFp.out k hk) (Nat.le_of_lt HR.out.lt)
  have H9 := hid ho
  clear ho
  have k17 : w11.cell? ⟨q, 17, none⟩ = some (.int .i64 0) := Ob.cell (e := (⟨c, a1, a2, a3, a4, ⟨g4, n4, c4⟩, a5, a6, ⟨g6, n6, c6⟩, false, false, 0, ⟨none, 0, 0⟩⟩ : Ev)) HX.out (j := 17) rfl
  have z17 : w11.frozen? ⟨q, 17, none⟩ = false := Ob.free (e := (⟨c, a1, a2, a3, a4, ⟨g4, n4, c4⟩, a5, a6, ⟨g6, n6, c6⟩, false, false, 0, ⟨none, 0, 0⟩⟩ : Ev)) HX.out 17
  have k18 : w11.cell? ⟨q, 18, none⟩ = some (.slice none 0 0) := Ob.cell (e := (⟨c, a1, a2, a3, a4, ⟨g4, n4, c4⟩, a5, a6, ⟨g6, n6, c6⟩, false, false, 0, ⟨none, 0, 0⟩⟩ : Ev)) HX.out (j := 18) rfl
  have z18 : w11.frozen? ⟨q, 18, none⟩ = false := Ob.free (e := (⟨c, a1, a2, a3, a4, ⟨g4, n4, c4⟩, a5, a6, ⟨g6, n6, c6⟩, false, false, 0, ⟨none, 0, 0⟩⟩ : Ev)) HX.out 18
  have k15 : w11.cell? ⟨q, 15, none⟩ = some (.bool false) := Ob.cell (e := (⟨c, a1, a2, a3, a4, ⟨g4, n4, c4⟩, a5, a6, ⟨g6, n6, c6⟩, false, false, 0, ⟨none, 0, 0⟩⟩ : Ev)) HX.out (j := 15) rfl
  have z15 : w11.frozen? ⟨q, 15, none⟩ = false := Ob.free (e := (⟨c, a1, a2, a3, a4, ⟨g4, n4, c4⟩, a5, a6, ⟨g6, n6, c6⟩, false, false, 0, ⟨none, 0, 0⟩⟩ : Ev)) HX.out 15
  have k16 : w11.cell? ⟨q, 16, none⟩ = some (.bool false) := Ob.cell (e := (⟨c, a1, a2, a3, a4, ⟨g4, n4, c4⟩, a5, a6, ⟨g6, n6, c6⟩, false, false, 0, ⟨none, 0, 0⟩⟩ : Ev)) HX.out (j := 16) rfl
  have z16 : w11.frozen? ⟨q, 16, none⟩ = false := Ob.free (e := (⟨c, a1, a2, a3, a4, ⟨g4, n4, c4⟩, a5, a6, ⟨g6, n6, c6⟩, false, false, 0, ⟨none, 0, 0⟩⟩ : Ev)) HX.out 16
  go_wp2_with fail
  have GZ := hid (setOther (q := q) (j := 16) (v := .bool ((a8 : Int) == 1)) (setOther (q := q) (j := 15) (v := .bool ((a7 : Int) == 1)) (setOther (q := q) (j := 18) (v := .slice g9 n9 c9) (setOther (q := q) (j := 17) (v := .int .i64 a9) HZ.out hzq.out) hzq.out) hzq.out) hzq.out)
  have GX := hid (Ob.set (e := (⟨c, a1, a2, a3, a4, ⟨g4, n4, c4⟩, a5, a6, ⟨g6, n6, c6⟩, ((a7 : Int) == 1), false, a9, ⟨g9, n9, c9⟩⟩ : Ev)) (T := 48) (Ob.set (e := (⟨c, a1, a2, a3, a4, ⟨g4, n4, c4⟩, a5, a6, ⟨g6, n6, c6⟩, false, false, a9, ⟨g9, n9, c9⟩⟩ : Ev)) (T := 48) (Ob.set (e := (⟨c, a1, a2, a3, a4, ⟨g4, n4, c4⟩, a5, a6, ⟨g6, n6, c6⟩, false, false, a9, ⟨none, 0, 0⟩⟩ : Ev)) (T := 48) (Ob.set (e := (⟨c, a1, a2, a3, a4, ⟨g4, n4, c4⟩, a5, a6, ⟨g6, n6, c6⟩, false, false, 0, ⟨none, 0, 0⟩⟩ : Ev)) (T := 48) HX.out (j := 17) (v := .int .i64 a9) (e' := (⟨c, a1, a2, a3, a4, ⟨g4, n4, c4⟩, a5, a6, ⟨g6, n6, c6⟩, false, false, a9, ⟨none, 0, 0⟩⟩ : Ev)) rfl) (j := 18) (v := .slice g9 n9 c9) (e' := (⟨c, a1, a2, a3, a4, ⟨g4, n4, c4⟩, a5, a6, ⟨g6, n6, c6⟩, false, false, a9, ⟨g9, n9, c9⟩⟩ : Ev)) rfl) (j := 15) (v := .bool ((a7 : Int) == 1)) (e' := (⟨c, a1, a2, a3, a4, ⟨g4, n4, c4⟩, a5, a6, ⟨g6, n6, c6⟩, ((a7 : Int) == 1), false, a9, ⟨g9, n9, c9⟩⟩ : Ev)) rfl) (j := 16) (v := .bool ((a8 : Int) == 1)) (e' := (⟨c, a1, a2, a3, a4, ⟨g4, n4, c4⟩, a5, a6, ⟨g6, n6, c6⟩, ((a7 : Int) == 1), ((a8 : Int) == 1), a9, ⟨g9, n9, c9⟩⟩ : Ev)) rfl)
  have GR := hid (rdSet (q := q) (j := 16) (v := .bool ((a8 : Int) == 1)) (rdSet (q := q) (j := 15) (v := .bool ((a7 : Int) == 1)) (rdSet (q := q) (j := 18) (v := .slice g9 n9 c9) (rdSet (q := q) (j := 17) (v := .int .i64 a9) HR.out hqp.out hqF.out) hqp.out hqF.out) hqp.out hqF.out) hqp.out hqF.out)
  have GW := hid ((((HW.out.setCell (p := ⟨q, 17, none⟩) hqw.out (.int .i64 a9)).setCell (p := ⟨q, 18, none⟩) hqw.out (.slice g9 n9 c9)).setCell (p := ⟨q, 15, none⟩) hqw.out (.bool ((a7 : Int) == 1))).setCell (p := ⟨q, 16, none⟩) hqw.out (.bool ((a8 : Int) == 1)))
  have G4 := hid (ownSet (q := q) (j := 16) (u := .bool ((a8 : Int) == 1)) (ownSet (q := q) (j := 15) (u := .bool ((a7 : Int) == 1)) (ownSet (q := q) (j := 18) (u := .slice g9 n9 c9) (ownSet (q := q) (j := 17) (u := .int .i64 a9) H4.out hq4.out) hq4.out) hq4.out) hq4.out)
  have G6 := hid (ownSet (q := q) (j := 16) (u := .bool ((a8 : Int) == 1)) (ownSet (q := q) (j := 15) (u := .bool ((a7 : Int) == 1)) (ownSet (q := q) (j := 18) (u := .slice g9 n9 c9) (ownSet (q := q) (j := 17) (u := .int .i64 a9) H6.out hq6.out) hq6.out) hq6.out) hq6.out)
  have G9 := hid (ownSet (q := q) (j := 16) (u := .bool ((a8 : Int) == 1)) (ownSet (q := q) (j := 15) (u := .bool ((a7 : Int) == 1)) (ownSet (q := q) (j := 18) (u := .slice g9 n9 c9) (ownSet (q := q) (j := 17) (u := .int .i64 a9) H9.out hq9.out) hq9.out) hq9.out) hq9.out)
  clear HZ HX HR HW H4 H6 H9
  have HZ := GZ; clear GZ
  have HX := GX; clear GX
  have HR := GR; clear GR
  have HW := GW; clear GW
  have H4 := G4; clear G4
  have H6 := G6; clear G6
  have H9 := G9; clear G9
  clear k17 z17 k18 z18 k15 z15 k16 z16
  have hF := fun k (hk : F k) => Nat.lt_of_lt_of_le (hFp.out k hk) (Nat.le_of_lt HR.out.lt)
  obtain ⟨W, hW⟩ : ∃ W, W = ((((w11.setCell ⟨q, 17, none⟩ (.int .i64 a9)).setCell ⟨q, 18, none⟩ (.slice g9 n9 c9)).setCell ⟨q, 15, none⟩ (.bool ((a7 : Int) == 1))).setCell ⟨q, 16, none⟩ (.bool ((a8 : Int) == 1))) := ⟨_, rfl⟩
  rw [← hW] at HX HZ HR HW H4 H6 H9 ⊢
  clear hW
  have hEv : (⟨c, a1, a2, a3, a4, ⟨g4, n4, c4⟩, a5, a6, ⟨g6, n6, c6⟩, ((a7 : Int) == 1), ((a8 : Int) == 1), a9, ⟨g9, n9, c9⟩⟩ : Ev) = (⟨c, a1, a2, a3, (a4, l4), a5, (a6, l6), a7, a8, (a9, l9), s10⟩ : Tk).ev ⟨g4, n4, c4⟩ ⟨g6, n6, c6⟩ ⟨g9, n9, c9⟩ := by unfold Tk.ev; rw [beq_dec, beq_dec]
  rw [hEv] at HX
  clear hEv hF
  obtain ⟨E, hE⟩ : ∃ E, E = (⟨c, a1, a2, a3, (a4, l4), a5, (a6, l6), a7, a8, (a9, l9), s10⟩ : Tk).ev ⟨g4, n4, c4⟩ ⟨g6, n6, c6⟩ ⟨g9, n9, c9⟩ := ⟨_, rfl⟩
  have hrt : rightE E l4 l6 l9 = (⟨c, a1, a2, a3, (a4, l4), a5, (a6, l6), a7, a8, (a9, l9), s10⟩ : Tk).right := by rw [hE]; rfl
  rw [← hE] at HX
  have HE := hid hE
  have S4 : Hid (Sl W (.slice g4 n4 c4) l4) := hid H4.out.sl
  have S6 : Hid (Sl W (.slice g6 n6 c6) l6) := hid H6.out.sl
  have S9 : Hid (Sl W (.slice g9 n9 c9) l9) := hid H9.out.sl
  have L4 : Hid (l4.length ≤ 1024) := hid (by have := valueS_short s4; rw [HH.out.2.2.2.2.1] at this; exact this)
  have L6 : Hid (l6.length ≤ 1024) := hid (by have := valueS_short s6; rw [HH.out.2.2.2.2.2.2.1] at this; exact this)
  have L9 : Hid (l9.length ≤ 1024) := hid (by have := valueS_short s9; rw [HH.out.2.2.2.2.2.2.2.2.2] at this; exact this)
  have hl10 : s10.2 = 0 → s10.1.length ≤ bs.length := by have := take_rest (bs := bs); rw [HT.out] at this; exact this
  have HL10 := hid hl10
  obtain ⟨rg, hrg⟩ : ∃ rg, rg = (⟨c, a1, a2, a3, (a4, l4), a5, (a6, l6), a7, a8, (a9, l9), s10⟩ : Tk).right := ⟨_, rfl⟩
  rw [← hrg] at hrt
  have hgd : (⟨c, a1, a2, a3, (a4, l4), a5, (a6, l6), a7, a8, (a9, l9), s10⟩ : Tk).good = (decide (s10.2 = 0) && (decide (s10.1.length = 0) && (decide (a7 ≤ 1) && (decide (a8 ≤ 1) && rg)))) := by rw [hrg]; rfl
  obtain ⟨gd, hgd2⟩ : ∃ gd, gd = (⟨c, a1, a2, a3, (a4, l4), a5, (a6, l6), a7, a8, (a9, l9), s10⟩ : Tk).good := ⟨_, rfl⟩
  rw [← hgd2] at hgd
  have HGD := hid hgd
  have HG := hid hgd2
  have HRT := hid hrt
  have q4 : Hid (w.heap.size < _) := hid (Nat.lt_of_le_of_lt hqw.out hq4.out)
  have q6 : Hid (w.heap.size < _) := hid (Nat.lt_of_le_of_lt hqw.out hq6.out)
  have q9 : Hid (w.heap.size < _) := hid (Nat.lt_of_le_of_lt hqw.out hq9.out)
  clear hE hrt hl10 hrg hgd hgd2 HT HH hp4 hp6 hp9 hq4 hq6 hq9
  go_at_call 46
  refine (cErr HR.out).mono ?_
  rintro x w' ⟨rfl, rfl⟩
  obtain ⟨er, her⟩ : ∃ er, er = s10.2 := ⟨_, rfl⟩
  rw [← her]
  by_cases hA : er = 0
  · rw [hA]
    have hs0 : s10.2 = 0 := by rw [← her, hA]
    clear her hA
    go_wp2_with fail
    go_at_call 48
    refine (cRest HR.out (by have := HL10.out hs0; omega)).mono ?_
    rintro x w12 ⟨r12, rfl, ho, hB⟩
    obtain ⟨g12, c12, n12, rfl, hn12⟩ := ho.asSlice
    have GX : Hid (Ob w12 q 48 E) := hid (heapB HX.out hB (Array.getElem?_eq_some_iff.1 HX.out).1)
    have GZ : Hid (Ob w12 w.heap.size 48 zE) := hid (heapB HZ.out hB (Array.getElem?_eq_some_iff.1 HZ.out).1)
    have GW := hid (HW.out.trans (hB.mono HW.out.size))
    have J4 := hid (own_sl_below H4.out hB)
    have J6 := hid (own_sl_below H6.out hB)
    have J9 := hid (own_sl_below H9.out hB)
    have G4 := hid (S4.out.on hB)
    have G6 := hid (S6.out.on hB)
    have G9 := hid (S9.out.on hB)
    clear HX HZ HW S4 S6 S9 H4 H6 H9 HR ho hB
    have HX := GX; clear GX
    have HZ := GZ; clear GZ
    have HW := GW; clear GW
    have S4 := G4; clear G4
    have S6 := G6; clear G6
    have S9 := G9; clear G9
    by_cases hB : n12 = 0
    · subst hB
      have HN12 : Hid (s10.1.length = 0) := hid hn12.symm
      clear hn12
      by_cases hC : a7 ≤ 1
      · have hC2 : ¬ (1 : Int) < (a7 : Int) := by omega
        have hC3 : decide ((1 : Int) < (a7 : Int)) = false := decide_eq_false hC2
        by_cases hD : a8 ≤ 1
        · have hD2 : ¬ (1 : Int) < (a8 : Int) := by omega
          have hD3 : decide ((1 : Int) < (a8 : Int)) = false := decide_eq_false hD2
          rcases hE : rg with _ | _
          · have hgood : Hid (gd = false) := hid (by rw [HGD.out, hE]; simp)
            have hRt := cRightE (e := E) (w := w12) (by have h := S4.out; rw [HE.out]; exact h) (by have h := S6.out; rw [HE.out]; exact h) (by have h := S9.out; rw [HE.out]; exact h) L4.out L6.out L9.out
            rw [HRT.out, hE] at hRt
            clear hE
            go_wp2_with (first | ((with_reducible refine loadGC (x := ?lx6) (b := ?lb6) (T := 48) E ?lg6 ?lo6 ?lxx6 ?lc6 ?lh6); (case lg6 => rfl); (case lo6 => rfl); (case lxx6 => rfl); (case lc6 => exact HX.out)) | fail)
            go_at_call 69
            refine hRt.mono ?_
            rintro x w13 ⟨rfl, hB⟩
            have GZ : Hid (Ob w13 w.heap.size 48 zE) := hid (heapB HZ.out hB (Array.getElem?_eq_some_iff.1 HZ.out).1)
            have GW := hid (HW.out.trans (hB.mono HW.out.size))
            clear HX HZ HW hRt hB S4 S6 S9 J4 J6 J9
            have HZ := GZ; clear GZ
            have HW := GW; clear GW
            go_wp2_with (first | ((with_reducible refine storeC (x := ?sx2) (y := ?sy2) (b := ?sb2) (T := 48) zE ?sg2 ?so2 ?sxx2 ?syy2 ?sc2 ?sh2); (case sg2 => rfl); (case so2 => rfl); (case sxx2 => rfl); (case syy2 => rfl); (case sc2 => exact Ob.room (e := zE) HZ.out); intro W9 hO hU; have hZ9 := hid hO; have hW9 := hid (HW.out.trans (hU.below _ (Nat.le_refl _))); have hU9 := hid hU; clear hO hU) | fail)
            refine bodyPost_ret (ret_cell_tmp rfl rfl rfl (Ob.range (e := zE) hZ9.out) Tryz.underlying48 rfl (infoEc zE)) rfl (DecPost.no (HG.out ▸ hgood.out) hW9.out)
          · have hgood : Hid (gd = true) := hid (by rw [HGD.out, hE]; simp only [hs0, HN12.out, hC, hD, decide_true, Bool.and_self])
            have hRt := cRightE (e := E) (w := w12) (by have h := S4.out; rw [HE.out]; exact h) (by have h := S6.out; rw [HE.out]; exact h) (by have h := S9.out; rw [HE.out]; exact h) L4.out L6.out L9.out
            rw [HRT.out, hE] at hRt
            clear hE
            go_wp2_with (first | ((with_reducible refine loadGC (x := ?lx7) (b := ?lb7) (T := 48) E ?lg7 ?lo7 ?lxx7 ?lc7 ?lh7); (case lg7 => rfl); (case lo7 => rfl); (case lxx7 => rfl); (case lc7 => exact HX.out)) | fail)
            go_at_call 69
            refine hRt.mono ?_
            rintro x w13 ⟨rfl, hB⟩
            have GX : Hid (Ob w13 q 48 E) := hid (heapB HX.out hB (Array.getElem?_eq_some_iff.1 HX.out).1)
            have GZ : Hid (Ob w13 w.heap.size 48 zE) := hid (heapB HZ.out hB (Array.getElem?_eq_some_iff.1 HZ.out).1)
            have GW := hid (HW.out.trans (hB.mono HW.out.size))
            have G4 := hid (own_sl_below J4.out hB)
            have G6 := hid (own_sl_below J6.out hB)
            have G9 := hid (own_sl_below J9.out hB)
            clear HX HZ HW hRt hB S4 S6 S9 J4 J6 J9
            have HX := GX; clear GX
            have HZ := GZ; clear GZ
            have HW := GW; clear GW
            go_wp2_with (first | ((with_reducible refine loadC (x := ?lx8) (b := ?lb8) (T := 48) E ?lg8 ?lo8 ?lxx8 ?lc8 ?lh8); (case lg8 => rfl); (case lo8 => rfl); (case lxx8 => rfl); (case lc8 => exact HX.out)) | ((with_reducible refine storeC (x := ?sx1) (y := ?sy1) (b := ?sb1) (T := 48) E ?sg1 ?so1 ?sxx1 ?syy1 ?sc1 ?sh1); (case sg1 => rfl); (case so1 => rfl); (case sxx1 => rfl); (case syy1 => rfl); (case sc1 => exact Ob.room (e := zE) HZ.out); intro W9 hO hU; have hZ9 := hid hO; have hW9 := hid (HW.out.trans (hU.below _ (Nat.le_refl _))); have hU9 := hid hU; clear hO hU) | fail)
            refine bodyPost_ret (ret_cell_tmp rfl rfl rfl (Ob.range (e := E) hZ9.out) Tryz.underlying48 rfl (infoEc E)) rfl (DecPost.yes (p := ⟨g4, n4, c4⟩) (q := ⟨g6, n6, c6⟩) (r := ⟨g9, n9, c9⟩) (HG.out ▸ hgood.out) HE.out (ownUpd G4.out hU9.out q4.out).sl (ownUpd G6.out hU9.out q6.out).sl (ownUpd G9.out hU9.out q9.out).sl hW9.out)
        · have hgood : Hid (gd = false) := hid (by rw [HGD.out]; simp [hD])
          have hD2 : (1 : Int) < (a8 : Int) := by omega
          have hD3 : decide ((1 : Int) < (a8 : Int)) = true := decide_eq_true hD2
          clear hD
          go_wp2_with (first | ((with_reducible refine storeC (x := ?sx3) (y := ?sy3) (b := ?sb3) (T := 48) zE ?sg3 ?so3 ?sxx3 ?syy3 ?sc3 ?sh3); (case sg3 => rfl); (case so3 => rfl); (case sxx3 => rfl); (case syy3 => rfl); (case sc3 => exact Ob.room (e := zE) HZ.out); intro W9 hO hU; have hZ9 := hid hO; have hW9 := hid (HW.out.trans (hU.below _ (Nat.le_refl _))); have hU9 := hid hU; clear hO hU) | fail)
          refine bodyPost_ret (ret_cell_tmp rfl rfl rfl (Ob.range (e := zE) hZ9.out) Tryz.underlying48 rfl (infoEc zE)) rfl (DecPost.no (HG.out ▸ hgood.out) hW9.out)
      · have hgood : Hid (gd = false) := hid (by rw [HGD.out]; simp [hC])
        have hC2 : (1 : Int) < (a7 : Int) := by omega
        have hC3 : decide ((1 : Int) < (a7 : Int)) = true := decide_eq_true hC2
        clear hC
        go_wp2_with (first | ((with_reducible refine storeC (x := ?sx4) (y := ?sy4) (b := ?sb4) (T := 48) zE ?sg4 ?so4 ?sxx4 ?syy4 ?sc4 ?sh4); (case sg4 => rfl); (case so4 => rfl); (case sxx4 => rfl); (case syy4 => rfl); (case sc4 => exact Ob.room (e := zE) HZ.out); intro W9 hO hU; have hZ9 := hid hO; have hW9 := hid (HW.out.trans (hU.below _ (Nat.le_refl _))); have hU9 := hid hU; clear hO hU) | fail)
        refine bodyPost_ret (ret_cell_tmp rfl rfl rfl (Ob.range (e := zE) hZ9.out) Tryz.underlying48 rfl (infoEc zE)) rfl (DecPost.no (HG.out ▸ hgood.out) hW9.out)
    · have hgood : Hid (gd = false) := hid (by rw [HGD.out]; simp; intro _ h; rw [h] at hn12; exact absurd hn12 hB)
      have hB2 : ¬ (n12 : Int) = 0 := by omega
      have hB3 : (0 : Int) < (n12 : Int) := by omega
      have hB4 : decide ((0 : Int) < (n12 : Int)) = true := decide_eq_true hB3
      clear hn12
      go_wp2_with (first | ((with_reducible refine storeC (x := ?sx5) (y := ?sy5) (b := ?sb5) (T := 48) zE ?sg5 ?so5 ?sxx5 ?syy5 ?sc5 ?sh5); (case sg5 => rfl); (case so5 => rfl); (case sxx5 => rfl); (case syy5 => rfl); (case sc5 => exact Ob.room (e := zE) HZ.out); intro W9 hO hU; have hZ9 := hid hO; have hW9 := hid (HW.out.trans (hU.below _ (Nat.le_refl _))); have hU9 := hid hU; clear hO hU) | fail)
      refine bodyPost_ret (ret_cell_tmp rfl rfl rfl (Ob.range (e := zE) hZ9.out) Tryz.underlying48 rfl (infoEc zE)) rfl (DecPost.no (HG.out ▸ hgood.out) hW9.out)
  · have hgood : Hid (gd = false) := hid (by rw [HGD.out, ← her]; simp [hA])
    have hA2 : (er == 0) = false := by simp [hA]
    have hA3 : ¬ er = 0 := hA
    clear her hA
    go_wp2_with (first | ((with_reducible refine storeC (x := ?sx9) (y := ?sy9) (b := ?sb9) (T := 48) zE ?sg9 ?so9 ?sxx9 ?syy9 ?sc9 ?sh9); (case sg9 => rfl); (case so9 => rfl); (case sxx9 => rfl); (case syy9 => rfl); (case sc9 => exact Ob.room (e := zE) HZ.out); intro W9 hO hU; have hZ9 := hid hO; have hW9 := hid (HW.out.trans (hU.below _ (Nat.le_refl _))); have hU9 := hid hU; clear hO hU) | fail)
    refine bodyPost_ret (ret_cell_tmp rfl rfl rfl (Ob.range (e := zE) hZ9.out) Tryz.underlying48 rfl (infoEc zE)) rfl (DecPost.no (HG.out ▸ hgood.out) hW9.out)
end Go.Proofs.YtpkkmfppdhjpkaaGreat

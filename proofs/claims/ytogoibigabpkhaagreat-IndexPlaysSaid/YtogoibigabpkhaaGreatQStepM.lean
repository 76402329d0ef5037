import Derived.Test.YtogoibigabpkhaaGreatG18
import Derived.Test.YtogoibigabpkhaaGreatQRLearnM
import Derived.Test.YtogoibigabpkhaaGreatQChgM
import Derived.Test.YtogoibigabpkhaaGreatQIAliveM
/- Steps: what an act does to the program's index and to the document's. -/
namespace Go.Proofs.YtogoibigabpkhaaGreat
set_option linter.unusedVariables false
open Go.RowKit
open Go.Lib (hid)

/-- Both indexes, of the same entries. -/
structure Pv (w : World) (x b b2 p N : Nat) (nd c c' : Int) (xs : List En) : Prop where
  ix : ∃ n ids, Ix w x b b2 n nd c xs ids ∧ n ≤ N ∧ ids.length ≤ N ∧ ∃ v u, Rx w p nd c' v u (keptE xs) (upI ids)
  len : xs.length ≤ N
  all : AllAt w xs
  sh : ∀ y ∈ xs, y.short 80
  cb : 0 ≤ c ∧ c ≤ 65535
  cb' : 0 ≤ c' ∧ c' ≤ 65535
abbrev TP (x b b2 p : Nat) : Nat → Prop := fun k => TI x b b2 k ∨ k = p
theorem Ix.offs {w : World} {x b b2 n : Nat} {nd c : Int} {xs : List En} {ids : List Int} (h : Ix w x b b2 n nd c xs ids) : ∀ k, TI x b b2 k → ∃ o, w.heap[k]? = some o ∧ (∀ cur, o ≠ .cells cur 74 (0, 0)) ∧ ∀ cur, o ≠ .cells cur 3 (0, 0) := by
  rintro k (rfl | rfl | rfl)
  · exact ⟨_, h.ob, fun cur e => by injection e with _ e; exact absurd e (by decide), fun cur e => by injection e with _ e; exact absurd e (by decide)⟩
  · obtain ⟨es, c, hb⟩ := h.mp.ob
    exact ⟨_, hb, (fun cur e => by cases e), (fun cur e => by cases e)⟩
  · obtain ⟨es, c, hb⟩ := h.cg.ob
    exact ⟨_, hb, (fun cur e => by cases e), (fun cur e => by cases e)⟩
theorem Ix.not {w : World} {x b b2 n p : Nat} {nd c nd' c' : Int} {xs : List En} {ids : List Int} {v u : Value} {es : List Ev} {ids' : List Int} (h : Ix w x b b2 n nd c xs ids) (hr : Rx w p nd' c' v u es ids') : ∀ k, TI x b b2 k → ¬ k = p := by
  rintro k (rfl | rfl | rfl) rfl
  · have := h.ob.symm.trans hr.ob
    injection this with this
    injection this with _ e
    exact absurd e (by decide)
  · obtain ⟨es, c, hb⟩ := h.mp.ob
    have := hb.symm.trans hr.ob
    cases this
  · obtain ⟨es, c, hb⟩ := h.cg.ob
    have := hb.symm.trans hr.ob
    cases this
theorem Pv.on {w w' : World} {x b b2 p N : Nat} {nd c c' : Int} {xs : List En} (h : Pv w x b b2 p N nd c c' xs) (hb : Below w.heap.size w w') : Pv w' x b b2 p N nd c c' xs := by
  obtain ⟨n, ids, hI, hn, hi, v, u, hR⟩ := h.ix
  exact ⟨⟨n, ids, hI.on hb, hn, hi, v, u, hR.on hb⟩, h.len, h.all.on hb, h.sh, h.cb, h.cb'⟩
theorem Pv.mono {w : World} {x b b2 p N N' : Nat} {nd c c' : Int} {xs : List En} (h : Pv w x b b2 p N nd c c' xs) (hN : N ≤ N') : Pv w x b b2 p N' nd c c' xs := by
  obtain ⟨n, ids, hI, hn, hi, hR⟩ := h.ix
  exact ⟨⟨n, ids, hI, by omega, by omega, hR⟩, Nat.le_trans h.len hN, h.all, h.sh, h.cb, h.cb'⟩
theorem tch_trans' {S : Nat → Prop} {a b c : World} (h : Below a.heap.size a b) (k : Tch S b c) : Tch S a c := (Tch.ofBelow h).trans k
def tickI (c nd : Int) : Int := if mkE (c + 1) nd = 0 then c + 1 else c
theorem tick_bd {c nd : Int} (h : 0 ≤ c ∧ c ≤ 65535) : 0 ≤ tickI c nd ∧ tickI c nd ≤ 65535 := by
  unfold tickI mkE
  repeat' split
  all_goals omega
theorem seeE_bd {c : Int} {e : Ev} (h : 0 ≤ c ∧ c ≤ 65535) : 0 ≤ seeE c e ∧ seeE c e ≤ 65535 := see_bd (see_bd (see_bd (see_bd h)))
theorem short_mono {y : En} {m n : Nat} (h : y.short m) (hn : m ≤ n) : y.short n := ⟨Nat.le_trans h.1 hn, Nat.le_trans h.2.1 hn, Nat.le_trans h.2.2 hn⟩
theorem tmod6 {k r : Nat} (h : k % 6 = r) : (k : Int).tmod 6 = r := by
  rw [Int.tmod_eq_emod_of_nonneg (by omega)]; omega
theorem newA_cell (w : World) (a : Ac) {j : Nat} {v : Value} (hv : a.list[j]? = some v) : (w.alloc (.cells a.arr 46)).cell? ⟨w.heap.size, j, none⟩ = some v := OA.cell (heap_alloc_new w _) hv
set_option maxHeartbeats 4000000 in
set_option maxRecDepth 100000 in
theorem cStep0 {w : World} {x b b2 p N : Nat} {nd c c' : Int} {xs : List En} {a : Ac} (h : Pv w x b b2 p N nd c c' xs) (hk : a.k % 6 = 0) (h256 : a.k < 256) :
    Calls Tryz.prog 10 #[ptr x, ptr p, .agg a.arr] w fun e w' => e = .returned (.bool true) ∧ Pv w' x b b2 p N nd (seeI c a.t) (seeI c' a.t) xs ∧ Tch (TP x b b2 p) w w' := by
  obtain ⟨n, ids, hI, hn, hi, v, u, hR⟩ := h.ix
  have hb : Below w.heap.size w (w.alloc (.cells a.arr 46)) := (Below.refl _ w).alloc (Nat.le_refl _) _
  have HO : Hid (OA (w.alloc (.cells a.arr 46)) w.heap.size a) := hid (heap_alloc_new w _)
  have k0 := newA_cell w a (j := 0) rfl
  have k1 := newA_cell w a (j := 1) rfl
  have k2 : (w.alloc (.cells a.arr 46)).cell? ⟨w.heap.size, 2, none⟩ = some (.slice a.l.a a.l.n a.l.c) := newA_cell w a (j := 2) rfl
  have HP := hid h
  have HI := hid hI
  have HR := hid hR
  have HN := hid hn
  have HID := hid hi
  have HB := hid hb
  have hm6 := tmod6 hk
  have hLT := hid hI.lt
  have hLP := hid hR.lt
  clear hI hn hi hR h hb
  go_enter Tryz.func10, Tryz.ntmps10
  go_wp2_with fail
  go_at_call 16
  refine (cSee (HI.out.on HB.out) a.t).mono ?_
  rintro e w1 ⟨rfl, hI1, ht1⟩
  clear k0 k1 k2
  have HO1 := hid (ht1.ob HO.out (fun hk => by have := hLT.out; omega))
  have k0 : w1.cell? ⟨w.heap.size, 0, none⟩ = some (.int .u8 a.k) := OA.cell HO1.out rfl
  have k1 : w1.cell? ⟨w.heap.size, 1, none⟩ = some (.int .i64 a.t) := OA.cell HO1.out rfl
  have k2 : w1.cell? ⟨w.heap.size, 2, none⟩ = some (.slice a.l.a a.l.n a.l.c) := OA.cell HO1.out rfl
  have HT1 := hid (tch_trans' HB.out (ht1.mono (fun k hk => Or.inl hk) : Tch (TI x b b2) _ w1))
  have HI1 := hid hI1
  have HR1 := hid ((HR.out.on HB.out).keptT (ht1.mono (fun k hk => Or.inl hk) : Tch (TI x b b2) _ w1) (fun hk => HI.out.not HR.out _ hk rfl) (HI.out.on HB.out).offs)
  have HA1 := hid ((HP.out.all.on HB.out).tch ht1 (fun k hk => (HI.out.on HB.out).nocell k (Or.inl hk)))
  clear hI1 ht1
  go_wp2_with fail
  go_at_call 33
  refine (rSee HR1.out a.t).mono ?_
  rintro e w2 ⟨rfl, hR2, ht2⟩
  go_wp2_with fail
  go_ret
  have hI2 := HI1.out.keptT ht2 (fun k hk e => HI.out.not HR.out k hk e)
  exact ⟨rfl, ⟨⟨n, ids, hI2, HN.out, HID.out, v, u, hR2⟩, HP.out.len, HA1.out.tch ht2 HR1.out.nocell, HP.out.sh, see_bd HP.out.cb, see_bd HP.out.cb'⟩, (HT1.out.mono fun k hk => Or.inl hk).trans (ht2.mono fun k hk => Or.inr hk)⟩
set_option maxHeartbeats 4000000 in
set_option maxRecDepth 100000 in
theorem cStep1 {w : World} {x b b2 p N : Nat} {nd c : Int} {xs : List En} {a : Ac} (h : Pv w x b b2 p N nd c c xs) (hk : a.k % 6 = 1) (h256 : a.k < 256) :
    Calls Tryz.prog 10 #[ptr x, ptr p, .agg a.arr] w fun e w' => e = .returned (.bool true) ∧ Pv w' x b b2 p N nd (tickI c nd) (tickI c nd) xs ∧ Tch (TP x b b2 p) w w' := by
  obtain ⟨n, ids, hI, hn, hi, v, u, hR⟩ := h.ix
  have hb : Below w.heap.size w (w.alloc (.cells a.arr 46)) := (Below.refl _ w).alloc (Nat.le_refl _) _
  have HO : Hid (OA (w.alloc (.cells a.arr 46)) w.heap.size a) := hid (heap_alloc_new w _)
  have k0 := newA_cell w a (j := 0) rfl
  have k1 := newA_cell w a (j := 1) rfl
  have k2 : (w.alloc (.cells a.arr 46)).cell? ⟨w.heap.size, 2, none⟩ = some (.slice a.l.a a.l.n a.l.c) := newA_cell w a (j := 2) rfl
  have HP := hid h
  have HI := hid hI
  have HR := hid hR
  have HN := hid hn
  have HID := hid hi
  have HB := hid hb
  have hm6 := tmod6 hk
  have hLT := hid hI.lt
  have hLP := hid hR.lt
  clear hI hn hi hR h hb
  go_enter Tryz.func10, Tryz.ntmps10
  go_wp2_with fail
  go_at_call 17
  refine (cTick (HI.out.on HB.out) HP.out.cb).mono ?_
  rintro e w1 ⟨rfl, hI1, ht1⟩
  clear k0 k1 k2
  have HT1 := hid (tch_trans' HB.out (ht1.mono (fun k hk => Or.inl hk) : Tch (TI x b b2) _ w1))
  have HI1 := hid hI1
  have HR1 := hid ((HR.out.on HB.out).keptT (ht1.mono (fun k hk => Or.inl hk) : Tch (TI x b b2) _ w1) (fun hk => HI.out.not HR.out _ hk rfl) (HI.out.on HB.out).offs)
  have HA1 := hid ((HP.out.all.on HB.out).tch ht1 (fun k hk => (HI.out.on HB.out).nocell k (Or.inl hk)))
  clear hI1 ht1
  have hTk := rTick HR1.out HP.out.cb
  obtain ⟨tv, htv⟩ : ∃ v, v = mkV (c + 1) nd := ⟨_, rfl⟩
  obtain ⟨te, hte⟩ : ∃ v, v = mkE (c + 1) nd := ⟨_, rfl⟩
  rw [← htv, ← hte] at hTk
  rw [← htv, ← hte]
  have HTK := hid hTk
  have HTE := hid hte
  clear htv hte hTk
  go_wp2_with fail
  go_at_call 35
  refine HTK.out.mono ?_
  rintro e w2 ⟨rfl, hR2, ht2⟩
  have HI2 := hid (HI1.out.keptT ht2 (fun k hk e => HI.out.not HR.out k hk e))
  have HR2 := hid hR2
  have HA2 := hid (HA1.out.tch ht2 HR1.out.nocell)
  have HT2 := hid ((HT1.out.mono fun k hk => Or.inl hk).trans (ht2.mono fun k hk => Or.inr hk) : Tch (TP x b b2 p) w w2)
  clear hR2 ht2 HTK
  go_wp2_with fail
  go_ret
  have hI2 := HI2.out
  have hR2 := HR2.out
  rw [HTE.out] at hR2
  exact ⟨rfl, ⟨⟨n, ids, hI2, HN.out, HID.out, v, u, hR2⟩, HP.out.len, HA2.out, HP.out.sh, tick_bd HP.out.cb, tick_bd HP.out.cb⟩, HT2.out⟩
set_option maxHeartbeats 4000000 in
set_option maxRecDepth 100000 in
theorem cStep2 {w : World} {x b b2 p N : Nat} {nd c c' : Int} {xs : List En} {a : Ac} (h : Pv w x b b2 p N nd c c' xs) (hk : a.k % 6 = 2) (h256 : a.k < 256) (hN : N ≤ 5000) (ha : a.at w) (hcs : a.cs.length ≤ 40) :
    Calls Tryz.prog 10 #[ptr x, ptr p, .agg a.arr] w fun e w' => e = .returned (.bool true) ∧ (∃ xs', Pv w' x b b2 p (N + 40) nd c c' xs' ∧ ∀ y ∈ xs', y ∈ xs ∨ ∃ c, y = newN c) ∧ Tch (TP x b b2 p) w w' := by
  obtain ⟨n, ids, hI, hn, hi, v, u, hR⟩ := h.ix
  have hb : Below w.heap.size w (w.alloc (.cells a.arr 46)) := (Below.refl _ w).alloc (Nat.le_refl _) _
  have HO : Hid (OA (w.alloc (.cells a.arr 46)) w.heap.size a) := hid (heap_alloc_new w _)
  have k0 := newA_cell w a (j := 0) rfl
  have k1 := newA_cell w a (j := 1) rfl
  have k2 : (w.alloc (.cells a.arr 46)).cell? ⟨w.heap.size, 2, none⟩ = some (.slice a.l.a a.l.n a.l.c) := newA_cell w a (j := 2) rfl
  have HP := hid h
  have HI := hid hI
  have HR := hid hR
  have HN := hid hn
  have HID := hid hi
  have HB := hid hb
  have hm6 := tmod6 hk
  have hLT := hid hI.lt
  have hLP := hid hR.lt
  have HCS := hid hcs
  have HSL := hid ha.1
  clear hI hn hi hR h hb hcs ha
  go_enter Tryz.func10, Tryz.ntmps10
  go_wp2_with fail
  go_at_call 24
  refine (cLearn (HI.out.on HB.out) (by have := HN.out; omega) (v := a.l.v) (HSL.out.on HB.out) (by have := HCS.out; omega) rfl).mono ?_
  rintro e w1 ⟨rfl, hI1, ht1⟩
  clear k0 k1 k2
  have HO1 := hid (ht1.ob HO.out (fun hk => by have := hLT.out; rcases hk with h | h | h <;> omega))
  have k0 : w1.cell? ⟨w.heap.size, 0, none⟩ = some (.int .u8 a.k) := OA.cell HO1.out rfl
  have k1 : w1.cell? ⟨w.heap.size, 1, none⟩ = some (.int .i64 a.t) := OA.cell HO1.out rfl
  have k2 : w1.cell? ⟨w.heap.size, 2, none⟩ = some (.slice a.l.a a.l.n a.l.c) := OA.cell HO1.out rfl
  have HT1 := hid (tch_trans' HB.out ht1)
  have HI1 := hid hI1
  have HR1 := hid ((HR.out.on HB.out).keptT ht1 (fun hk => HI.out.not HR.out _ hk rfl) (HI.out.on HB.out).offs)
  have HA1 := hid ((HP.out.all.on HB.out).tch ht1 (HI.out.on HB.out).nocell)
  have HSL1 := hid ((HSL.out.on HB.out).tch ht1 (HI.out.on HB.out).nocell)
  clear hI1 ht1
  have hTk := rILearn HR1.out (by have := HP.out.len; omega) (by have := HID.out; omega) (vs := a.l.v) HSL1.out (by have := HCS.out; omega) rfl
  obtain ⟨r, hr⟩ : ∃ r, r = learnE xs a.cs := ⟨_, rfl⟩
  rw [← hr] at hTk HI1
  rw [← hr]
  have HTK := hid hTk
  have HRR := hid hr
  clear hr hTk
  go_wp2_with fail
  go_at_call 36
  refine HTK.out.mono ?_
  rintro e w2 ⟨rfl, hR2, ht2⟩
  have HT2 := hid ((HT1.out.mono fun k hk => Or.inl hk).trans (ht2.mono fun k hk => Or.inr hk) : Tch (TP x b b2 p) w w2)
  have HA2 := hid (HA1.out.tch ht2 HR1.out.nocell)
  have HH2 := hid ht2
  have HR2 := hid hR2
  clear hR2 ht2 HTK
  go_wp2_with fail
  go_ret
  refine ⟨rfl, ?_, HT2.out⟩
  have hI1 := HI1.out
  have hR2 := HR2.out
  have hp := HP.out
  have hN' := HN.out
  have hi' := HID.out
  have hc' := HCS.out
  by_cases h0 : r = 0
  · rw [if_pos h0] at hI1 hR2
    obtain ⟨v', u', hR2⟩ := hR2
    have hf := fresh_is xs a.cs
    refine ⟨xs ++ freshF xs a.cs, ⟨⟨n + a.cs.length, ids ++ (freshF xs a.cs).map En.id, hI1.keptT HH2.out (fun k hk e => HI.out.not HR.out k hk e), by omega, ?_, v', u', hR2⟩, ?_, ?_, ?_, hp.cb, hp.cb'⟩, ?_⟩
    · have := fresh_len xs a.cs; rw [List.length_append, List.length_map]; omega
    · have := fresh_len xs a.cs; have := hp.len; rw [List.length_append]; omega
    · intro y hy
      rcases List.mem_append.1 hy with hy | hy
      · exact HA2.out y hy
      · obtain ⟨c, _, rfl⟩ := hf y hy; exact nN_at c w2
    · intro y hy
      rcases List.mem_append.1 hy with hy | hy
      · exact hp.sh y hy
      · obtain ⟨c, _, rfl⟩ := hf y hy; exact ⟨Nat.zero_le _, Nat.zero_le _, Nat.zero_le _⟩
    · intro y hy
      rcases List.mem_append.1 hy with hy | hy
      · exact Or.inl hy
      · obtain ⟨c, _, rfl⟩ := hf y hy; exact Or.inr ⟨c, rfl⟩
  · rw [if_neg h0] at hI1 hR2
    exact ⟨xs, ⟨⟨n, ids, hI1.keptT HH2.out (fun k hk e => HI.out.not HR.out k hk e), by omega, by omega, v, u, hR2⟩, by have := hp.len; omega, HA2.out, hp.sh, hp.cb, hp.cb'⟩, fun y hy => Or.inl hy⟩
set_option maxHeartbeats 4000000 in
set_option maxRecDepth 100000 in
theorem cStep5 {w : World} {x b b2 p N : Nat} {nd c c' : Int} {xs : List En} {a : Ac} (h : Pv w x b b2 p N nd c c' xs) (hk : a.k % 6 = 5) (h256 : a.k < 256) (hN : N ≤ 5000) :
    Calls Tryz.prog 10 #[ptr x, ptr p, .agg a.arr] w fun e w' => e = .returned (.bool true) ∧ Pv w' x b b2 p N nd c c' xs ∧ Tch (TP x b b2 p) w w' := by
  obtain ⟨n, ids, hI, hn, hi, v, u, hR⟩ := h.ix
  have hb : Below w.heap.size w (w.alloc (.cells a.arr 46)) := (Below.refl _ w).alloc (Nat.le_refl _) _
  have HO : Hid (OA (w.alloc (.cells a.arr 46)) w.heap.size a) := hid (heap_alloc_new w _)
  have k0 := newA_cell w a (j := 0) rfl
  have k1 := newA_cell w a (j := 1) rfl
  have k2 : (w.alloc (.cells a.arr 46)).cell? ⟨w.heap.size, 2, none⟩ = some (.slice a.l.a a.l.n a.l.c) := newA_cell w a (j := 2) rfl
  have HP := hid h
  have HI := hid hI
  have HR := hid hR
  have HN := hid hn
  have HID := hid hi
  have HB := hid hb
  have hm6 := tmod6 hk
  have hLT := hid hI.lt
  have hLP := hid hR.lt
  clear hI hn hi hR h hb
  go_enter Tryz.func10, Tryz.ntmps10
  go_wp2_with fail
  go_at_call 23
  refine (cChanged (HI.out.on HB.out) (by have := HN.out; omega)).mono ?_
  rintro e w1 ⟨q, rfl, hq, hI1, ht1⟩
  clear k0 k1 k2
  have HT1 := hid (tch_trans' HB.out ht1)
  have HI1 := hid hI1
  have HR1 := hid ((HR.out.on HB.out).keptT ht1 (fun hk => HI.out.not HR.out _ hk rfl) (HI.out.on HB.out).offs)
  have HA1 := hid ((HP.out.all.on HB.out).tch ht1 (HI.out.on HB.out).nocell)
  have HQ := hid hq
  clear hI1 ht1 hq
  go_wp2_with fail
  go_at_call 38
  refine (rIChanged HR1.out).mono ?_
  rintro e w2 ⟨rfl, hR2, hu, ht2⟩
  have hl : (upI ids).length ≤ 100000 := by have := upI_len ids; have := HID.out; omega
  have hS := rSameIds (OwnI.sl (own_tch HQ.out ht2 (fun k hk e => own_off HQ.out HR1.out.ob (fun cur e => by injection e with _ e; exact absurd e (by decide)) (e ▸ hk)))) (OwnI.sl hu) hl
  have HT2 := hid ((HT1.out.mono fun k hk => Or.inl hk).trans (ht2.mono fun k hk => Or.inr hk) : Tch (TP x b b2 p) w w2)
  have HI2 := hid (HI1.out.keptT ht2 (fun k hk e => HI.out.not HR.out k hk e))
  have HR2 := hid hR2
  have HA2 := hid (HA1.out.tch ht2 HR1.out.nocell)
  have HS := hid hS
  clear hR2 ht2 hu hl hS
  go_wp2_with fail
  go_at_call 37
  refine HS.out.mono ?_
  rintro e w3 ⟨rfl, hB3⟩
  have HB3 := hid hB3
  clear hB3
  go_wp2_with fail
  go_ret
  have hp := HP.out
  exact ⟨rfl, ⟨⟨n, [], HI2.out.on HB3.out, HN.out, Nat.zero_le _, v, _, HR2.out.on HB3.out⟩, hp.len, HA2.out.on HB3.out, hp.sh, hp.cb, hp.cb'⟩, tch_below HT2.out (HB3.out.mono HT2.out.size)⟩
set_option maxHeartbeats 4000000 in
set_option maxRecDepth 100000 in
theorem cStep3 {w : World} {x b b2 p N : Nat} {nd c c' : Int} {xs : List En} {a : Ac} (h : Pv w x b b2 p N nd c c' xs) (hk : a.k % 6 = 3) (h256 : a.k < 256) (hN : N ≤ 5000) (ha : a.at w) (hsh : a.y.short 80) :
    Calls Tryz.prog 10 #[ptr x, ptr p, .agg a.arr] w fun e w' => e = .returned (.bool true) ∧ (∃ c1 c1' xs', Pv w' x b b2 p (N + 1) nd c1 c1' xs' ∧ ((xs' = xs ∧ c1 = c ∧ c1' = c') ∨ (xs' = xs ++ [a.y] ∧ a.y.right = true ∧ c1 = seeE c a.y.e ∧ c1' = seeE c' a.y.e))) ∧ Tch (TP x b b2 p) w w' := by
  obtain ⟨n, ids, hI, hn, hi, v, u, hR⟩ := h.ix
  have hb : Below w.heap.size w (w.alloc (.cells a.arr 46)) := (Below.refl _ w).alloc (Nat.le_refl _) _
  have HO : Hid (OA (w.alloc (.cells a.arr 46)) w.heap.size a) := hid (heap_alloc_new w _)
  have k0 := newA_cell w a (j := 0) rfl
  have k1 := newA_cell w a (j := 1) rfl
  have k2 : (w.alloc (.cells a.arr 46)).cell? ⟨w.heap.size, 2, none⟩ = some (.slice a.l.a a.l.n a.l.c) := newA_cell w a (j := 2) rfl
  have HP := hid h
  have HI := hid hI
  have HR := hid hR
  have HN := hid hn
  have HID := hid hi
  have HB := hid hb
  have hm6 := tmod6 hk
  have hLT := hid hI.lt
  have hLP := hid hR.lt
  have HA := hid ha
  have HSH := hid hsh
  obtain ⟨r, hr⟩ : ∃ r : Int, r = if a.y.right = false then 1 else if hasE xs a.y.id = true ∧ ¬ (lookE xs a.y.id).c = a.y.e.c then 6 else 0 := ⟨_, rfl⟩
  have HRR := hid hr
  clear hI hn hi hR h hb hsh ha hr
  go_enter Tryz.func10, Tryz.ntmps10
  go_wp2_with (first
    | ((with_reducible refine loadEl (T := 44) (x := ?lx1) (b := ?lb1) (o := ?lo1) uE iE a.y.e ?lg1 ?lp1 ?lxx1 ?lc1 ?_); (case lg1 => rfl); (case lp1 => rfl); (case lxx1 => rfl); (case lc1 => exact OA.ent HO.out))
    | fail)
  go_at_call 25
  refine (cPut (HI.out.on HB.out) (by have := HN.out; unfold maxLen; omega) HA.out.2.2.2 (HA.out.2.1.on HB.out) (short_mono HSH.out (by decide)) HRR.out).mono ?_
  rintro e w1 ⟨rfl, hI1, ht1⟩
  clear k0 k1 k2
  have HO1 := hid (show OA w1 w.heap.size a from ht1.ob HO.out (fun hk => by have := hLT.out; rcases hk with h | h | h <;> omega))
  have HT1 := hid (tch_trans' HB.out ht1)
  have HI1 := hid hI1
  have HR1 := hid ((HR.out.on HB.out).keptT ht1 (fun hk => HI.out.not HR.out _ hk rfl) (HI.out.on HB.out).offs)
  have HA1 := hid ((HP.out.all.on HB.out).tch ht1 (HI.out.on HB.out).nocell)
  have HY1 := hid (show a.y.at w1 from En.at.tch (HA.out.2.1.on HB.out) ht1 (HI.out.on HB.out).nocell)
  clear hI1 ht1
  go_wp2_with (first
    | ((with_reducible refine loadEl (T := 44) (x := ?lx2) (b := ?lb2) (o := ?lo2) uE iE a.y.e ?lg2 ?lp2 ?lxx2 ?lc2 ?_); (case lg2 => rfl); (case lp2 => rfl); (case lxx2 => rfl); (case lc2 => exact OA.ent HO1.out))
    | fail)
  go_at_call 34
  refine (cOf a.y.e w1).mono ?_
  rintro e w2 ⟨rfl, hB2⟩
  have HB2 := hid hB2
  clear hB2
  go_wp2_with fail
  go_at_call 39
  refine (rIPut (HR1.out.on HB2.out) (by have := HP.out.len; omega) (by have := HID.out; omega) (HY1.out.on HB2.out) (short_mono HSH.out (by decide)) HRR.out).mono ?_
  rintro e w3 ⟨rfl, hR3, ht3⟩
  have HT3 := hid ((tch_below (HT1.out.mono fun k hk => Or.inl hk) (HB2.out.mono HT1.out.size)).trans (ht3.mono fun k hk => Or.inr hk) : Tch (TP x b b2 p) w w3)
  have HA3 := hid ((HA1.out.on HB2.out).tch ht3 (HR1.out.on HB2.out).nocell)
  have HY3 := hid (show a.y.at w3 from En.at.tch (HY1.out.on HB2.out) ht3 (HR1.out.on HB2.out).nocell)
  have HH3 := hid ht3
  have HR3 := hid hR3
  clear hR3 ht3
  go_wp2_with fail
  go_ret
  refine ⟨rfl, ?_, HT3.out⟩
  have hI1 := HI1.out
  have hR3 := HR3.out
  have hp := HP.out
  have hN' := HN.out
  have hi' := HID.out
  by_cases h0 : r = 0
  · rw [if_pos h0] at hI1 hR3
    obtain ⟨v', u', hR3⟩ := hR3
    have hrt : a.y.right = true := by
      have := HRR.out
      rw [h0] at this
      rcases hq : a.y.right with _ | _
      · rw [hq] at this; simp at this
      · rfl
    refine ⟨seeE c a.y.e, seeE c' a.y.e, xs ++ [a.y], ⟨⟨n + 1, ids ++ [a.y.id], (hI1.on HB2.out).keptT HH3.out (fun k hk e => HI.out.not HR.out k hk e), by omega, by simp; omega, v', u', hR3⟩, by have := hp.len; simp; omega, ?_, ?_, seeE_bd hp.cb, seeE_bd hp.cb'⟩, Or.inr ⟨rfl, hrt, rfl, rfl⟩⟩
    · intro y hy
      rcases List.mem_append.1 hy with hy | hy
      · exact HA3.out y hy
      · simp at hy; subst hy; exact HY3.out
    · intro y hy
      rcases List.mem_append.1 hy with hy | hy
      · exact hp.sh y hy
      · simp at hy; subst hy; exact HSH.out
  · rw [if_neg h0] at hI1 hR3
    exact ⟨c, c', xs, ⟨⟨n, ids, (hI1.on HB2.out).keptT HH3.out (fun k hk e => HI.out.not HR.out k hk e), by omega, by omega, v, u, hR3⟩, by have := hp.len; omega, HA3.out, hp.sh, hp.cb, hp.cb'⟩, Or.inl ⟨rfl, rfl, rfl⟩⟩
set_option maxHeartbeats 4000000 in
set_option maxRecDepth 100000 in
theorem cStep4 {w : World} {x b b2 p N : Nat} {nd c c' : Int} {xs : List En} {a : Ac} (h : Pv w x b b2 p N nd c c' xs) (hk : a.k % 6 = 4) (h256 : a.k < 256) (hN : N ≤ 5000) (ha : a.at w) (hsh : a.y.short 80) :
    Calls Tryz.prog 10 #[ptr x, ptr p, .agg a.arr] w fun e w' => e = .returned (.bool true) ∧ (∃ c1 c1' xs', Pv w' x b b2 p (N + 1) nd c1 c1' xs' ∧ ((xs' = xs ∧ c1 = c ∧ c1' = c') ∨ (xs' = xs ++ [a.y] ∧ a.y.right = true ∧ c1 = seeE c a.y.e ∧ c1' = seeE c' a.y.e))) ∧ Tch (TP x b b2 p) w w' := by
  obtain ⟨n, ids, hI, hn, hi, v, u, hR⟩ := h.ix
  have hb : Below w.heap.size w (w.alloc (.cells a.arr 46)) := (Below.refl _ w).alloc (Nat.le_refl _) _
  have HO : Hid (OA (w.alloc (.cells a.arr 46)) w.heap.size a) := hid (heap_alloc_new w _)
  have k0 := newA_cell w a (j := 0) rfl
  have k1 := newA_cell w a (j := 1) rfl
  have k2 : (w.alloc (.cells a.arr 46)).cell? ⟨w.heap.size, 2, none⟩ = some (.slice a.l.a a.l.n a.l.c) := newA_cell w a (j := 2) rfl
  have HP := hid h
  have HI := hid hI
  have HR := hid hR
  have HN := hid hn
  have HID := hid hi
  have HB := hid hb
  have hm6 := tmod6 hk
  have hLT := hid hI.lt
  have hLP := hid hR.lt
  have HA := hid ha
  have HSH := hid hsh
  obtain ⟨r, hr⟩ : ∃ r : Int, r = if a.y.right = false then 1 else if hasE xs a.y.id = true ∧ ¬ (lookE xs a.y.id).c = a.y.e.c then 6 else 0 := ⟨_, rfl⟩
  have HRR := hid hr
  clear hI hn hi hR h hb hsh ha hr
  go_enter Tryz.func10, Tryz.ntmps10
  go_wp2_with (first
    | ((with_reducible refine loadEl (T := 44) (x := ?lx1) (b := ?lb1) (o := ?lo1) uE iE a.y.e ?lg1 ?lp1 ?lxx1 ?lc1 ?_); (case lg1 => rfl); (case lp1 => rfl); (case lxx1 => rfl); (case lc1 => exact OA.ent HO.out))
    | fail)
  go_at_call 25
  refine (cPut (HI.out.on HB.out) (by have := HN.out; unfold maxLen; omega) HA.out.2.2.2 (HA.out.2.1.on HB.out) (short_mono HSH.out (by decide)) HRR.out).mono ?_
  rintro e w1 ⟨rfl, hI1, ht1⟩
  clear k0 k1 k2
  have HO1 := hid (show OA w1 w.heap.size a from ht1.ob HO.out (fun hk => by have := hLT.out; rcases hk with h | h | h <;> omega))
  have HT1 := hid (tch_trans' HB.out ht1)
  have HI1 := hid hI1
  have HR1 := hid ((HR.out.on HB.out).keptT ht1 (fun hk => HI.out.not HR.out _ hk rfl) (HI.out.on HB.out).offs)
  have HA1 := hid ((HP.out.all.on HB.out).tch ht1 (HI.out.on HB.out).nocell)
  have HY1 := hid (show a.y.at w1 from En.at.tch (HA.out.2.1.on HB.out) ht1 (HI.out.on HB.out).nocell)
  clear hI1 ht1
  go_wp2_with (first
    | ((with_reducible refine loadEl (T := 44) (x := ?lx2) (b := ?lb2) (o := ?lo2) uE iE a.y.e ?lg2 ?lp2 ?lxx2 ?lc2 ?_); (case lg2 => rfl); (case lp2 => rfl); (case lxx2 => rfl); (case lc2 => exact OA.ent HO1.out))
    | fail)
  go_at_call 34
  refine (cOf a.y.e w1).mono ?_
  rintro e w2 ⟨rfl, hB2⟩
  have HB2 := hid hB2
  clear hB2
  go_wp2_with fail
  go_at_call 39
  refine (rIPut (HR1.out.on HB2.out) (by have := HP.out.len; omega) (by have := HID.out; omega) (HY1.out.on HB2.out) (short_mono HSH.out (by decide)) HRR.out).mono ?_
  rintro e w3 ⟨rfl, hR3, ht3⟩
  have HT3 := hid ((tch_below (HT1.out.mono fun k hk => Or.inl hk) (HB2.out.mono HT1.out.size)).trans (ht3.mono fun k hk => Or.inr hk) : Tch (TP x b b2 p) w w3)
  have HA3 := hid ((HA1.out.on HB2.out).tch ht3 (HR1.out.on HB2.out).nocell)
  have HY3 := hid (show a.y.at w3 from En.at.tch (HY1.out.on HB2.out) ht3 (HR1.out.on HB2.out).nocell)
  have HH3 := hid ht3
  have HR3 := hid hR3
  clear hR3 ht3
  go_wp2_with fail
  go_ret
  refine ⟨rfl, ?_, HT3.out⟩
  have hI1 := HI1.out
  have hR3 := HR3.out
  have hp := HP.out
  have hN' := HN.out
  have hi' := HID.out
  by_cases h0 : r = 0
  · rw [if_pos h0] at hI1 hR3
    obtain ⟨v', u', hR3⟩ := hR3
    have hrt : a.y.right = true := by
      have := HRR.out
      rw [h0] at this
      rcases hq : a.y.right with _ | _
      · rw [hq] at this; simp at this
      · rfl
    refine ⟨seeE c a.y.e, seeE c' a.y.e, xs ++ [a.y], ⟨⟨n + 1, ids ++ [a.y.id], (hI1.on HB2.out).keptT HH3.out (fun k hk e => HI.out.not HR.out k hk e), by omega, by simp; omega, v', u', hR3⟩, by have := hp.len; simp; omega, ?_, ?_, seeE_bd hp.cb, seeE_bd hp.cb'⟩, Or.inr ⟨rfl, hrt, rfl, rfl⟩⟩
    · intro y hy
      rcases List.mem_append.1 hy with hy | hy
      · exact HA3.out y hy
      · simp at hy; subst hy; exact HY3.out
    · intro y hy
      rcases List.mem_append.1 hy with hy | hy
      · exact hp.sh y hy
      · simp at hy; subst hy; exact HSH.out
  · rw [if_neg h0] at hI1 hR3
    exact ⟨c, c', xs, ⟨⟨n, ids, (hI1.on HB2.out).keptT HH3.out (fun k hk e => HI.out.not HR.out k hk e), by omega, by omega, v, u, hR3⟩, by have := hp.len; omega, HA3.out, hp.sh, hp.cb, hp.cb'⟩, Or.inl ⟨rfl, rfl, rfl⟩⟩
end Go.Proofs.YtogoibigabpkhaaGreat

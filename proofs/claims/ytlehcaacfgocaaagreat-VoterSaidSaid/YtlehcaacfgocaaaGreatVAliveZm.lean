import Derived.Test.YtlehcaacfgocaaaGreatG41
namespace Go.Proofs.YtlehcaacfgocaaaGreat
set_option linter.unusedVariables false
open Go.RowKit
open Go.Lib (hid)
theorem wpList_build {ops : Array Oper} {rest : List Oper} {op : Oper} {a : Act} {w : World} {Q : Exit → Act → World → Prop} {t : TypeId} {fs : Array (Nat × Operand)} (v : Value) (hgd : op.guard = none) (ho : op.op = .build t fs) (hr : (Instr.build t (fs.map fun (i, x) => (i, a.eval x))).run Tryz.prog w = .ok v w)
    (h : wpList Tryz.prog ops Q rest (a.put op.dst v) w) : wpList Tryz.prog ops Q (op :: rest) a w := by
  refine wpList_plain hgd fun _ hK' => ?_
  unfold Oper.wp execOp
  simp only [ho, Sem.run_bind]
  rw [hr]
  simp only [Result.andThen_ok]
  exact hK' _ _ h
theorem SlM.tchO {S : Nat → Prop} {w w' : World} {v : Value} {ms : List Mg} (h : SlM w v ms) (ht : Tch S w w') (hS : ∀ k, v.ownBlock = some k → ¬ S k) : SlM w' v ms := by
  obtain ⟨b, o, cap, a, rfl, ha, hr, hl⟩ := h
  refine ⟨b, o, cap, a, rfl, ha, fun j x hx i u hu => ?_, fun h => Nat.lt_of_lt_of_le (hl h) ht.size⟩
  have hpos : 0 < ms.length := by have := (List.getElem?_eq_some_iff.1 hx).1; omega
  have hns : ¬ S b := hS b (by rw [ha hpos]; rfl)
  have := hr j x hx i u hu
  rw [World.cell?] at this ⊢
  rw [ht.block b (hl hpos) hns]; exact this
theorem lowV.wide {B B' : Bd} {v : Value} {cs : List C7} (h : lowV B v cs) (hP : ∀ k, B.P k → B'.P k) : lowV B' v cs := fun ad n c e h0 => hP _ (h ad n c e h0)
theorem Vo.wide {w : World} {B B' : Bd} {q x b b2 N : Nat} {nd : Int} {s : Sd} {wv : Value} {ws : List Ms} (h : Vo w B q x b b2 N nd s wv ws) (hlo : B'.lo = B.lo) (hP : ∀ k, B.P k → B'.P k) (haw : ∀ k, wv.ownBlock = some k → ¬ B'.P k) : Vo w B' q x b b2 N nd s wv ws := by
  obtain ⟨n, ids, hn, hv⟩ := h.ix
  exact ⟨⟨n, ids, hn, hv.ob, hv.ix, by rw [hlo]; exact hv.ow, haw⟩, h.len, h.all, h.sh, h.cb, h.wa, fun y hy => ⟨(h.lo y hy).1.wide hP, (h.lo y hy).2.1.wide hP, (h.lo y hy).2.2.wide hP⟩, fun m hm => ⟨(h.wl m hm).1.wide hP, (h.wl m hm).2.1.wide hP, (h.wl m hm).2.2.wide hP⟩⟩
theorem one_an {ls : List Ms} {A : An} (h : ls.map Ms.an = [A]) : ∃ x, ls = [x] ∧ x.an = A := by
  rcases ls with _ | ⟨x, _ | ⟨y, l⟩⟩
  · simp at h
  · exact ⟨x, rfl, by simpa using h⟩
  · simp at h
theorem slM_one {w : World} {v : Value} {x : Ms} {g : Addr} {cap : Nat} (h : SlM w v (mgs [x])) (hv : v = .slice (some g) 1 cap) : ∃ b o, g = ⟨b, o, none⟩ ∧ w.rangeAt b o x.m.list ∧ b < w.heap.size := by
  subst hv
  obtain ⟨b, o, c, a, e, ha, hr, hl⟩ := h
  injection e with e1 e2 e3
  subst e1 e3
  have := ha (by simp [mgs])
  have hr0 := hr 0 x.m (by simp [mgs])
  exact ⟨b, o, Option.some.inj this, by simpa using hr0, hl (by simp [mgs])⟩
set_option maxHeartbeats 16000000 in
set_option maxRecDepth 100000 in
theorem cVAlive (w : World) : Calls Tryz.prog 8 #[] w fun e w' => e = .returned (.bool true) ∧ Below w.heap.size w w' := by
  go_enter Tryz.func8, Tryz.ntmps8
  go_wp2_with fail
  go_at_call 9
  refine (cINew (l := []) (SlG.nil _ _ _) (fun y hy => by simp at hy) (fun y hy => by simp at hy) (by simp) 2 0 (r := 0) (by kernel_rfl)).mono ?_
  rintro e w1 ⟨hB1, hif⟩
  rw [if_pos rfl] at hif
  obtain ⟨x, b, b2, rfl, hI, hx, hb, hb2⟩ := hif
  have HB1 := hid hB1
  have HLX := hid (And.intro hx (And.intro hb hb2))
  have hI' : Ix w1 x b b2 0 2 0 [] [] := hI
  have hNW := cNewV (B := Bd.mk1 w.heap.size) hI'
  clear hB1 hI hI' hx hb hb2
  go_wp2_with fail
  go_at_call 12
  refine hNW.mono ?_
  rintro e w2 ⟨q, rfl, hq, hV, hB2⟩
  have HB2 := hid (HB1.out.trans (hB2.mono HB1.out.size))
  have HV2 := hid hV
  have HQ := hid (show w.heap.size ≤ q from Nat.le_trans HB1.out.size hq)
  clear hNW hq hV hB2
  go_wp2_with (first
    | ((with_reducible refine wpList_build (.agg cA1.arr7) ?bg1 ?bo1 ?br1 ?bh1); (case bg1 => rfl); (case bo1 => rfl); (case br1 => kernel_rfl))
    | ((with_reducible refine wpList_build (.agg cB1.arr7) ?bg2 ?bo2 ?br2 ?bh2); (case bg2 => rfl); (case bo2 => rfl); (case br2 => kernel_rfl))
    | fail)
  have HB5 : Hid (Below w.heap.size w ((w2.alloc (.cells cA1.arr7 45)).alloc (.cells cB1.arr7 45))) := hid (HB2.out.trans ((laid2_b w2 _ _).mono HB2.out.size))
  have HA5 : Hid (((w2.alloc (.cells cA1.arr7 45)).alloc (.cells cB1.arr7 45)).heap[w2.heap.size]? = some (.cells cA1.arr7 45 (0, 0))) := hid (laid2_0 w2 _ _)
  have HC5 : Hid (((w2.alloc (.cells cA1.arr7 45)).alloc (.cells cB1.arr7 45)).heap[w2.heap.size + 1]? = some (.cells cB1.arr7 45 (0, 0))) := hid (laid2_1 w2 _ _)
  have hVx5 : Vx ((w2.alloc (.cells cA1.arr7 45)).alloc (.cells cB1.arr7 45)) (Bd.mk1 w.heap.size) q x b b2 0 2 0 [] [] (.slice none 0 0) [] false := HV2.out.on (laid2_b w2 _ _)
  have hV5 : Vo ((w2.alloc (.cells cA1.arr7 45)).alloc (.cells cB1.arr7 45)) (Bd.mk1 w.heap.size) q x b b2 0 2 st0 (.slice none 0 0) [] := ⟨⟨0, [], Nat.le_refl _, hVx5⟩, Nat.le_refl _, fun y hy => absurd hy (by simp), fun y hy => absurd hy (by simp), by decide, fun y hy => absurd hy (by simp), fun y hy => absurd hy (by simp), fun y hy => absurd hy (by simp)⟩
  have HV5 := hid hV5
  have HTL : Hid (∀ k, TV q x b b2 k → k < w2.heap.size) := hid (fun k hk => by
    rcases hk with rfl | hk
    · exact HV2.out.lt
    · have := HV2.out.ix.lt; rcases hk with rfl | rfl | rfl <;> omega)
  have hH1 := cHandle (m := mA) hV5 (by simp) iv0.gd iv0.wt HB5.out.size (by simp) ⟨nilS _, nilS _, nilS _⟩ ⟨by simp, by simp, by simp⟩ ⟨lowNil _ _, lowNil _ _, lowNil _ _⟩
  rw [ha1] at hH1
  have HH1 := hid hH1
  clear hH1 hV5 hVx5
  generalize ((w2.alloc (.cells cA1.arr7 45)).alloc (.cells cB1.arr7 45)) = w5 at HB5 HA5 HC5 HV5 HH1 ⊢
  go_at_call 13
  refine HH1.out.mono ?_
  rintro e w6 ⟨v1, ls1, wv1, rfl, hs1, hsh1, hat1, han1, hV6, hT6, hf6, hc6⟩
  rw [re1_is.2.1] at han1
  obtain ⟨x1, rfl, hx1⟩ := one_an han1
  obtain ⟨g1, cp1, rfl⟩ : ∃ g cap, v1 = .slice (some g) 1 cap := by rcases hsh1 with ⟨_, h⟩ | h; cases h; exact h
  have HS6 := hid hs1
  have HX1 := hid hx1
  have HV6 := hid hV6
  have HC6 := hid hc6.1
  have hw6 : ∀ k, TW q x b b2 (.slice none 0 0) k → k < w2.heap.size := fun k hk => by rcases hk with hk | hk; exact HTL.out k hk; cases hk
  have HA6 : Hid (w6.heap[w2.heap.size]? = some (.cells cA1.arr7 45 (0, 0))) := hid (hT6.ob HA5.out fun hk => by have := hw6 _ hk; omega)
  have HC6' : Hid (w6.heap[w2.heap.size + 1]? = some (.cells cB1.arr7 45 (0, 0))) := hid (hT6.ob HC5.out fun hk => by have := hw6 _ hk; omega)
  have HTQ : Hid (∀ k, TV q x b b2 k → w.heap.size ≤ k) := hid (fun k hk => by
    obtain ⟨h1, h2, h3⟩ := HLX.out
    have h4 := HQ.out
    rcases hk with rfl | rfl | rfl | rfl <;> omega)
  have HB6 : Hid (Below w.heap.size w w6) := hid (HB5.out.trans (hT6.below (fun k hk => by rcases hk with hk | hk; exact HTQ.out k hk; cases hk) HB5.out.size))
  have HSZ6 : Hid (w2.heap.size + 2 ≤ w6.heap.size) := hid (by have h1 := (Array.getElem?_eq_some_iff.1 HC5.out).1; have h2 := hT6.size; omega)
  clear hs1 hsh1 hat1 han1 hV6 hT6 hf6 hc6 hw6 hx1 HH1 HA5 HC5 HV5
  have kb0 : w6.cell? ⟨w2.heap.size + 1, 0, none⟩ = some (.int .i64 17) := (cellAt' HC6'.out 0).trans rfl
  have kb1 : w6.cell? ⟨w2.heap.size + 1, 1, none⟩ = some (.int .i64 1) := (cellAt' HC6'.out 1).trans rfl
  have kb2 : w6.cell? ⟨w2.heap.size + 1, 2, none⟩ = some (.int .i64 0) := (cellAt' HC6'.out 2).trans rfl
  have kb3 : w6.cell? ⟨w2.heap.size + 1, 3, none⟩ = some (.int .i64 16) := (cellAt' HC6'.out 3).trans rfl
  have kb4 : w6.cell? ⟨w2.heap.size + 1, 4, none⟩ = some (.int .i64 0) := (cellAt' HC6'.out 4).trans rfl
  have kb5 : w6.cell? ⟨w2.heap.size + 1, 5, none⟩ = some (.int .i64 0) := (cellAt' HC6'.out 5).trans rfl
  have kb6 : w6.cell? ⟨w2.heap.size + 1, 6, none⟩ = some (.int .i64 0) := (cellAt' HC6'.out 6).trans rfl
  go_wp2_with fail
  have hH2 := cHandle (m := mB) HV6.out (by rw [re1_is.1]; simp) iv1.gd iv1.wt HB6.out.size (by rw [re1_is.1]; simp) ⟨nilS _, nilS _, nilS _⟩ ⟨by simp, by simp, by simp⟩ ⟨lowNil _ _, lowNil _ _, lowNil _ _⟩
  rw [ha2] at hH2
  have HH2 := hid hH2
  clear hH2
  go_at_call 13
  refine HH2.out.mono ?_
  rintro e w7 ⟨v2, ls2, wv2, rfl, hs2, hsh2, hat2, han2, hV7, hT7, hf7, hc7⟩
  rw [re2_is.2.1] at han2
  obtain rfl : ls2 = [] := List.map_eq_nil_iff.1 han2
  obtain ⟨a2, c2, n2, rfl, hn2⟩ := slice_of hsh2
  obtain rfl : n2 = 0 := hn2
  obtain ⟨nn6, ids6, hnn6, hvx6⟩ := HV6.out.ix
  have hoff : ∀ k, wv1.ownBlock = some k → ∀ (c : Array Value) fz, w6.heap[k]? ≠ some (.cells c 45 fz) := fun k hk c fz e => own_off hvx6.ow e (fun cur e2 => by cases e2) hk
  have hn6 : ∀ k, w2.heap.size ≤ k → (∃ c fz, w6.heap[k]? = some (.cells c 45 fz)) → ¬ TW q x b b2 wv1 k := fun k hk hc hk2 => by
    rcases hk2 with hk2 | hk2
    · have := HTL.out k hk2; omega
    · obtain ⟨c, fz, hc⟩ := hc; exact hoff k hk2 c fz hc
  have HA7 : Hid (w7.heap[w2.heap.size]? = some (.cells cA1.arr7 45 (0, 0))) := hid (hT7.ob HA6.out (hn6 _ (Nat.le_refl _) ⟨_, _, HA6.out⟩))
  have HC7 : Hid (w7.heap[w2.heap.size + 1]? = some (.cells cB1.arr7 45 (0, 0))) := hid (hT7.ob HC6'.out (hn6 _ (Nat.le_succ _) ⟨_, _, HC6'.out⟩))
  obtain ⟨bk, o1, hg1, hr1, hbk⟩ := slM_one HS6.out rfl
  subst hg1
  have hap : ∀ k, (Value.slice (some ⟨bk, o1, none⟩) 1 cp1).ownBlock = some k → ¬ TW q x b b2 wv1 k := fun k hk hk2 => by
    obtain rfl : bk = k := Option.some.inj hk
    rcases hk2 with hk2 | hk2
    · have h6 := hr1 6 (.int .i64 x1.m.c.s) rfl
      rw [show o1 + 6 = o1 + 6 from rfl, hvx6.nocell _ hk2 _ (by omega)] at h6; cases h6
    · rcases HC6.out _ hk2 with e | e | e
      · cases e
      · exact e rfl
      · cases e
  have HS7 := hid (HS6.out.tchO hT7 hap)
  have HB7 : Hid (Below w.heap.size w w7) := hid (HB6.out.trans (hT7.below (fun k hk => by rcases hk with hk | hk; exact HTQ.out k hk; exact (hvx6.ow.lt k hk).1) HB6.out.size))
  have HV7 := hid hV7
  have HF7 := hid (And.intro hbk (And.intro hT7.size (And.intro hap hf7)))
  clear hs2 hsh2 hat2 han2 hV7 hT7 hf7 hc7 hvx6 hnn6 hoff hn6 hr1 hbk hap HS6 HA6 HC6' HH2 kb0 kb1 kb2 kb3 kb4 kb5 kb6
  have hW := cWaiting HV7.out (by rw [re2_is.1]; decide)
  have HWT := hid hW
  clear hW
  go_wp2_with fail
  go_at_call 14
  refine HWT.out.mono ?_
  rintro e w8 ⟨r9, rfl, ho9, hB8⟩
  obtain ⟨a9, c9, n9, rfl, hn9⟩ := OwnG.asSlice ho9
  have hn9' : n9 = 1 := by rw [hn9]; unfold mgs; rw [List.length_map, re2_is.1]
  subst hn9'
  have HB8 : Hid (Below w.heap.size w w8) := hid (HB7.out.trans (hB8.mono HB7.out.size))
  have HV8 := hid (HV7.out.on hB8)
  have HB8 : Hid (Below w.heap.size w w8) := hid (HB7.out.trans (hB8.mono HB7.out.size))
  have HV8 := hid (HV7.out.on hB8)
  have HS8 : Hid (SlM w8 (.slice (some ⟨bk, o1, none⟩) 1 cp1) (mgs [x1])) := hid (HS7.out.tchO (Tch.ofBelow (S := fun _ => False) hB8) fun _ _ h => h)
  have HA8 : Hid (w8.heap[w2.heap.size]? = some (.cells cA1.arr7 45 (0, 0))) := hid (heapB HA7.out hB8 (Array.getElem?_eq_some_iff.1 HA7.out).1)
  have HC8 : Hid (w8.heap[w2.heap.size + 1]? = some (.cells cB1.arr7 45 (0, 0))) := hid (heapB HC7.out hB8 (Array.getElem?_eq_some_iff.1 HC7.out).1)
  have HSZ8 := hid hB8.size
  clear ho9 hB8 hn9 HWT HA7 HC7 HS7 HV7
  have ka0 : w8.cell? ⟨w2.heap.size, 0, none⟩ = some (.int .i64 16) := (cellAt' HA8.out 0).trans rfl
  have ka1 : w8.cell? ⟨w2.heap.size, 1, none⟩ = some (.int .i64 1) := (cellAt' HA8.out 1).trans rfl
  have ka2 : w8.cell? ⟨w2.heap.size, 2, none⟩ = some (.int .i64 0) := (cellAt' HA8.out 2).trans rfl
  have ka3 : w8.cell? ⟨w2.heap.size, 3, none⟩ = some (.int .i64 17) := (cellAt' HA8.out 3).trans rfl
  have ka4 : w8.cell? ⟨w2.heap.size, 4, none⟩ = some (.int .i64 0) := (cellAt' HA8.out 4).trans rfl
  have ka5 : w8.cell? ⟨w2.heap.size, 5, none⟩ = some (.int .i64 0) := (cellAt' HA8.out 5).trans rfl
  have ka6 : w8.cell? ⟨w2.heap.size, 6, none⟩ = some (.int .i64 0) := (cellAt' HA8.out 6).trans rfl
  have kc0 : w8.cell? ⟨w2.heap.size + 1, 0, none⟩ = some (.int .i64 17) := (cellAt' HC8.out 0).trans rfl
  have kc1 : w8.cell? ⟨w2.heap.size + 1, 1, none⟩ = some (.int .i64 1) := (cellAt' HC8.out 1).trans rfl
  have kc2 : w8.cell? ⟨w2.heap.size + 1, 2, none⟩ = some (.int .i64 0) := (cellAt' HC8.out 2).trans rfl
  have kc3 : w8.cell? ⟨w2.heap.size + 1, 3, none⟩ = some (.int .i64 16) := (cellAt' HC8.out 3).trans rfl
  have kc4 : w8.cell? ⟨w2.heap.size + 1, 4, none⟩ = some (.int .i64 0) := (cellAt' HC8.out 4).trans rfl
  have kc5 : w8.cell? ⟨w2.heap.size + 1, 5, none⟩ = some (.int .i64 0) := (cellAt' HC8.out 5).trans rfl
  have kc6 : w8.cell? ⟨w2.heap.size + 1, 6, none⟩ = some (.int .i64 0) := (cellAt' HC8.out 6).trans rfl
  go_wp2_with fail
  have hb9 := (Below.refl w8.heap.size w8).alloc (Nat.le_refl _) (.cells cB1.arr7 45)
  obtain ⟨nn8, ids8, hnn8, hvx8⟩ := HV8.out.ix
  have hv9 := (HV8.out.on hb9).wide (B' := ⟨w.heap.size, w8.heap.size + 1, fun k => k < w.heap.size ∨ k = w8.heap.size, fun k hk => by have := HB8.out.size; omega, by have := HB8.out.size; omega⟩) rfl (fun k hk => .inl hk) (fun k hk hP => by have h1 := hvx8.ow.lt k hk; have h2 : w.heap.size ≤ k := h1.1; have h3 := h1.2; rcases hP with hP | hP <;> omega)
  have hat9 : (mC ⟨some ⟨w8.heap.size, 0, none⟩, 1, 1⟩).at (w8.alloc (.cells cB1.arr7 45)) := ⟨Sl.one (c := cB1) (T := 45), nilS _, nilS _⟩
  have hlow9 : (mC ⟨some ⟨w8.heap.size, 0, none⟩, 1, 1⟩).low ⟨w.heap.size, w8.heap.size + 1, fun k => k < w.heap.size ∨ k = w8.heap.size, fun k hk => by have := HB8.out.size; omega, by have := HB8.out.size; omega⟩ := ⟨fun ad n c e h0 => by injection e with e1 e2 e3; cases e1; exact .inr rfl, lowNil _ _, lowNil _ _⟩
  have hH3 := cHandle (m := mC ⟨some ⟨w8.heap.size, 0, none⟩, 1, 1⟩) hv9 (by rw [re2_is.1, re1_is.1]; simp) iv2.gd iv2.wt (by show w8.heap.size + 1 ≤ _; simp) (by rw [re2_is.1]; simp) hat9 ⟨by simp, by simp, by simp⟩ hlow9
  rw [ha3] at hH3
  have HH3 := hid hH3
  have HB9 := hid (HB8.out.trans (hb9.mono HB8.out.size))
  have HS9 : Hid (SlM (w8.alloc (.cells cB1.arr7 45)) (.slice (some ⟨bk, o1, none⟩) 1 cp1) (mgs [x1])) := hid (HS8.out.tchO (Tch.ofBelow (S := fun _ => False) hb9) fun _ _ h => h)
  have HZ9 : Hid ((w8.alloc (.cells cB1.arr7 45)).heap.size = w8.heap.size + 1) := hid (by simp)
  have HX8 := hid hvx8
  clear hH3 hv9 hat9 hlow9 hb9 hvx8 hnn8 HA8 HC8 HS8
  generalize (w8.alloc (.cells cB1.arr7 45)) = w9 at HH3 HB9 HS9 HZ9 ⊢
  go_at_call 13
  refine HH3.out.mono ?_
  rintro e w10 ⟨v3, ls3, wv3, rfl, hs3, hsh3, hat3, han3, hV10, hT10, hf10, hc10⟩
  rw [(re3_is _).2] at han3
  obtain ⟨x3, rfl, hx3⟩ := one_an han3
  obtain ⟨g3, cp3, rfl⟩ : ∃ g cap, v3 = .slice (some g) 1 cap := by rcases hsh3 with ⟨_, h⟩ | h; cases h; exact h
  obtain ⟨bk3, o3, hg3, hr3, hbk3⟩ := slM_one hs3 rfl
  subst hg3
  have hsl1 : SlM w10 (.slice (some ⟨bk, o1, none⟩) 1 cp1) (mgs [x1]) := HS9.out.tchO hT10 fun k hk hk2 => by
    obtain ⟨f1, f2, f3, f4⟩ := HF7.out
    rcases hk2 with hk2 | hk2
    · exact f3 k hk (.inl hk2)
    · rcases f4 k hk2 with e | e
      · exact f3 k hk (.inr e)
      · have : bk = k := Option.some.inj hk; omega
  obtain ⟨bk1, o1', hg1, hr1, hbk1⟩ := slM_one hsl1 rfl
  obtain ⟨rfl, rfl⟩ : bk1 = bk ∧ o1' = o1 := by injection hg1 with e1 e2; exact ⟨e1.symm, e2.symm⟩
  have k0 : w10.cell? ⟨bk1, o1', none⟩ = some (.int .i64 1) := by have h := hr1 0 (.int .i64 x1.m.so) rfl; rw [show x1.m.so = 1 from congrArg An.so HX1.out] at h; exact h
  have k13 : w10.cell? ⟨bk1, o1' + 13, none⟩ = some (.bool true) := by have h := hr1 13 (.bool x1.m.fl) rfl; rw [show x1.m.fl = true from congrArg An.fl HX1.out] at h; exact h
  have q0 : w10.cell? ⟨bk3, o3, none⟩ = some (.int .i64 1) := by have h := hr3 0 (.int .i64 x3.m.so) rfl; rw [show x3.m.so = 1 from congrArg An.so hx3] at h; exact h
  have q2 : w10.cell? ⟨bk3, o3 + 2, none⟩ = some (.int .i64 1) := by have h := hr3 2 (.int .i64 x3.m.tt) rfl; rw [show x3.m.tt = 1 from congrArg An.tt hx3] at h; exact h
  have HV10 := hid hV10
  have HB10 : Hid (Below w.heap.size w w10) := hid (HB9.out.trans (hT10.below (fun k hk => by rcases hk with hk | hk; exact HTQ.out k hk; exact (HX8.out.ow.lt k hk).1) HB9.out.size))
  have hW2 := cWaiting HV10.out (by rw [(re3_is _).1]; decide)
  have HW2 := hid hW2
  clear hW2 hs3 hsh3 hat3 han3 hV10 hT10 hf10 hc10 hx3 hr3 hbk3 hsl1 hr1 hbk1 hg1 HH3 HS9 HX8 HF7 ka0 kc0 ka1 kc1 ka2 kc2 ka3 kc3 ka4 kc4 ka5 kc5 ka6 kc6
  go_wp2_with (first
    | (go_at_call 14; refine HW2.out.mono ?_; rintro e w11 ⟨r11, rfl, ho11, hB11⟩; obtain ⟨a11, c11, n11, rfl, hn11⟩ := OwnG.asSlice ho11; have hn11' : n11 = 0 := (by rw [hn11]; unfold mgs; rw [List.length_map, (re3_is _).1]; rfl); subst hn11'; have HB11 := hid (HB10.out.trans (hB11.mono HB10.out.size)); clear ho11 hB11 hn11)
    | fail)
  go_ret
  exact ⟨rfl, HB11.out⟩
end Go.Proofs.YtlehcaacfgocaaaGreat

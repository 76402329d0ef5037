import Derived.Test.YtplodoindppleaaGreatLPromZm
namespace Go.Proofs.YtplodoindppleaaGreat
set_option linter.unusedVariables false
open Go.RowKit
open Go.Lib (hid)
theorem hasF_an (x : Ax) (m : Ms) : hasF x.att m.an = x.rs.any fun r => hasM m.m r.m := by
  unfold hasF
  show (x.rs.map Ms.an).any _ = _
  rw [List.any_map]; rfl
set_option maxHeartbeats 8000000 in
set_option maxRecDepth 100000 in
theorem cHasA {w : World} {B p : Nat} {x : Ax} (hA : Ap w B p x) (hl : x.rs.length ≤ 1000) (m : Ms) : Calls Tryz.prog 30 #[ptr p, .agg m.m.arr] w fun e w' => e = .returned (.bool (hasF x.att m.an)) ∧ Below w.heap.size w w' := by
  have HB0 : Hid (Below w.heap.size w (w.alloc (.cells m.m.arr 48))) := hid (laid1_b w _)
  have HX0 : Hid (OM (w.alloc (.cells m.m.arr 48)) w.heap.size m.m) := hid (laid1_0 w _)
  have HA := hid (hA.on HB0.out)
  have k12 := HA.out.cells.2.2.2.2.2.1
  have hh := cAnyHas (OwnG.slG kM HA.out.ow) HX0.out hl
  rw [← hasF_an] at hh
  have HH := hid hh
  clear hh hA
  rw [show x.rv.v = Value.slice x.rv.a x.rv.n x.rv.c from rfl] at HH
  go_enter Tryz.func30, Tryz.ntmps30
  go_wp2_with (first
    | (go_at_call 64; refine HH.out.mono ?_; rintro e w1 ⟨rfl, hb⟩; have HB1 := hid hb; clear hb)
    | fail)
  go_ret
  exact ⟨rfl, HB0.out.trans (HB1.out.mono HB0.out.size)⟩
def BegP (w : World) (B q b n : Nat) (nd N : Int) (f : Int → Option Nat) (p : Nat) (x : Ax) (so vt : Int) (vl : List C7) (e : Ending) (w' : World) : Prop :=
  ∃ v ls, e = .returned v ∧ OutM w.heap.size w' v ls ∧ ls.map Ms.an = allF nd N x.c x.bal so vt vl false ∧ Tch (fun k => k = b) w w' ∧ Ap w' B p x ∧
    Lq w' B q b (n + 1) nd N (if rightA (mkA nd x.c x.bal so vt vl false 0) = true then putP f x.c.i (some p) else f)
theorem Lq.mono {w : World} {B q b n n' : Nat} {nd N : Int} {f : Int → Option Nat} (h : Lq w B q b n nd N f) (hn : n ≤ n') : Lq w B q b n' nd N f := ⟨h.ob, h.mp.mono hn, h.lb⟩
theorem all_len {nd N : Int} {c : C7} {bal so vt : Int} {vl : List C7} {fl : Bool} (hN : 3 ≤ N ∧ N ≤ 9) : (rightA (mkA nd c bal so vt vl fl 0) = true → 3 ≤ (allF nd N c bal so vt vl fl).length ∧ (allF nd N c bal so vt vl fl).length ≤ 9) ∧ (rightA (mkA nd c bal so vt vl fl 0) = false → allF nd N c bal so vt vl fl = []) := by
  unfold allF
  refine ⟨fun h => ?_, fun h => ?_⟩
  · rw [if_pos h, List.length_map, List.length_range]; omega
  · rw [if_neg (by rw [h]; decide)]
theorem slM_tch {S : Nat → Prop} {w w' : World} {v : Value} {ms : List Mg} (h : SlM w v ms) (ht : Tch S w w') (hS : ∀ k, v.ownBlock = some k → ¬ S k) : SlM w' v ms := by
  obtain ⟨b, o, cap, a, rfl, ha, hc, hb⟩ := h
  refine ⟨b, o, cap, a, rfl, ha, fun j x hx i u hu => ?_, fun h => Nat.lt_of_lt_of_le (hb h) ht.size⟩
  have h0 : 0 < ms.length := by have := (List.getElem?_eq_some_iff.1 hx).1; omega
  have := hc j x hx i u hu
  rw [cell_of_heap (ht.block b (hb h0) (hS b (by rw [ha h0]; rfl)))]
  exact this
set_option maxHeartbeats 8000000 in
set_option maxRecDepth 100000 in
theorem cBegin {w : World} {B q b n p : Nat} {nd N : Int} {f : Int → Option Nat} {x : Ax} (hL : Lq w B q b n nd N f) (hA : Ap w B p x) (hN : 3 ≤ N ∧ N ≤ 9) (hn : n < 1000000) (hw : (Lit.int .i64 x.c.i).wf = true) {so vt : Int} {vp : Sv} {vl : List C7} (hv : Sl w vp.v vl) (hvl : vl.length ≤ 1024) : Calls Tryz.prog 24 #[ptr q, ptr p, .agg (askM so vt vp false).arr] w (BegP w B q b n nd N f p x so vt vl) := by
  have HB0 : Hid (Below w.heap.size w (w.alloc (.cells (askM so vt vp false).arr 48))) := hid (laid1_b w _)
  have HX0 : Hid (OM (w.alloc (.cells (askM so vt vp false).arr 48)) w.heap.size (askM so vt vp false)) := hid (laid1_0 w _)
  have HL := hid (hL.on HB0.out)
  have HA := hid (hA.on HB0.out)
  have hta := cToAll HL.out HA.out hN so vt vp vl false (hv.on HB0.out) hvl
  have HLEN := hid (all_len (nd := nd) (c := x.c) (bal := x.bal) (so := so) (vt := vt) (vl := vl) (fl := false) hN)
  have HNL := hid hn
  clear hL hA hN hv hvl hn
  obtain ⟨rb, hrb⟩ : ∃ z, z = rightA (mkA nd x.c x.bal so vt vl false 0) := ⟨_, rfl⟩
  have HRB := hid hrb
  clear hrb
  rcases rb with _ | _
  · as_aux_lemma =>
      go_enter Tryz.func24, Tryz.ntmps24
      go_wp2_with (first
        | ((with_reducible refine loadM (x := ?lx1) (b := w.heap.size) (askM so vt vp false) ?lg1 ?lo1 ?lxx1 ?lc1 ?lh1); (case lg1 => rfl); (case lo1 => rfl); (case lxx1 => rfl); (case lc1 => exact HX0.out))
        | (go_at_call 55; refine hta.mono ?_; rintro e w1 ⟨v, ls, rfl, ho, hs, hb⟩; have HO1 := hid ho; have HS1 := hid hs; have HB1 := hid hb; have HB1w : Hid (Below w.heap.size w w1) := hid (HB0.out.trans (hb.mono HB0.out.size)); have HL1 := hid (HL.out.on hb); have HA1 := hid (HA.out.on hb); have hl0 : ls = [] := (by have h1 := HLEN.out.2 HRB.out.symm; rw [h1] at hs; exact List.map_eq_nil_iff.1 hs); subst hl0; have hv0 : ∃ a c, v = Value.slice a 0 c := (by rcases ho.2.1 with ⟨rfl, _⟩ | ⟨g, c, rfl⟩; exact ⟨none, 0, rfl⟩; exact ⟨some g, c, rfl⟩); obtain ⟨va, vc, rfl⟩ := hv0; clear ho hs hb hta)
        | fail)
      go_ret
      exact ⟨_, [], rfl, HO1.out.mono HB0.out.size, HS1.out, Tch.ofBelow HB1w.out, HA1.out, by rw [if_neg (by rw [← HRB.out]; decide)]; exact HL1.out.mono (Nat.le_succ _)⟩
  · as_aux_lemma =>
      go_enter Tryz.func24, Tryz.ntmps24
      go_upto_region 3 with (first
        | ((with_reducible refine loadM (x := ?lx2) (b := w.heap.size) (askM so vt vp false) ?lg2 ?lo2 ?lxx2 ?lc2 ?lh2); (case lg2 => rfl); (case lo2 => rfl); (case lxx2 => rfl); (case lc2 => exact HX0.out))
        | (go_at_call 55; refine hta.mono ?_; rintro e w1 ⟨v, ls, rfl, ho, hs, hb⟩; have HO1 := hid ho; have HS1 := hid hs; have HB1 := hid hb; have HB1w : Hid (Below w.heap.size w w1) := hid (HB0.out.trans (hb.mono HB0.out.size)); have HL1 := hid (HL.out.on hb); have HA1 := hid (HA.out.on hb); have hl3 : 3 ≤ ls.length ∧ ls.length ≤ 9 := (by have h1 := HLEN.out.1 HRB.out.symm; rw [← hs, List.length_map] at h1; exact h1); have hv0 : ∃ a c, v = Value.slice a ls.length c := (by rcases ho.2.1 with ⟨_, h⟩ | ⟨g, c, rfl⟩; rw [h] at hl3; exact absurd hl3.1 (by decide); exact ⟨some g, c, rfl⟩); obtain ⟨va, vc, rfl⟩ := hv0; obtain ⟨ll, hll⟩ : ∃ z, z = ls.length := ⟨_, rfl⟩; have HLL := hid hll; rw [← hll] at hl3 ⊢; have hl0 : 0 < ll := (by omega); have hl0' : (0 : Int) < (ll : Int) := (by omega); clear hll; clear ho hs hb hta)
        | fail)
      refine wp_region_still_tail 10 (by kernel_rfl) (by kernel_rfl) ?_
      obtain ⟨W1, hW1⟩ : ∃ W1 : World, W1 = { w1 with drawn := w1.drawn + 1 } := ⟨_, rfl⟩
      rw [← hW1]
      have HBd : Hid (Below w1.heap.size w1 W1) := hid (by rw [hW1]; exact belowDrew (Below.refl _ w1))
      clear hW1
      have HLd := hid (HL1.out.on HBd.out)
      have HAd := hid (HA1.out.on HBd.out)
      obtain ⟨k0, k1, k2⟩ := HLd.out.cells
      have k4 := HAd.out.cells.2.2.2.2.2.2
      simp only [List.take_succ_cons, List.take_zero, List.drop_succ_cons, List.drop_zero]
      still_step
      still_step
      still_step
      still_step
      still_step
      still_step
      still_step
      still_step
      still_step
      still_step
      refine wpStill_nil ?_
      obtain ⟨D, hD, hS⟩ := HLd.out.mp
      refine wpList_mapUpdate_own _ rfl _ _ _ 66 rfl 3 69 (Maps.int_keyed Tryz.underlying3) Tryz.underlying66 RP b n D rfl hD (by have := HNL.out; unfold maxLen; omega) _ _ (key x.c.i) rfl rfl (Maps.keyOf_int_mk Tryz.underlying3 hw) _ [] (RP_mk (some p)) ?_
      intro W2 hD2 hg
      have hT : Tch (fun k => k = b) W1 W2 := Tch.ofGrown hg fun k e => (Option.some.inj e).symm
      have hqb : q ≠ b := fun e => by obtain ⟨es, k, hb⟩ := HLd.out.mp.map; have := HLd.out.ob; rw [e, hb] at this; cases this
      have HL2 : Hid (Lq W2 B q b (n + 1) nd N (putP f x.c.i (some p))) := hid ⟨hT.ob HLd.out.ob hqb, ⟨_, hD2, hS.put (own_isMap hD) x.c.i p⟩, HLd.out.lb⟩
      have HA2 : Hid (Ap W2 B p x) := hid (HAd.out.tch hT (fun k e => by subst e; exact ⟨HLd.out.lb, HLd.out.nob⟩) (fun k hk e => by subst e; exact (HLd.out.qa HAd.out).2 hk))
      have HT2 : Hid (Tch (fun k => k = b) w1 W2) := hid ((Tch.ofBelow HBd.out).trans hT)
      have HO2 : Hid (OutM w.heap.size W2 (.slice va ll vc) ls) := hid (by
    have h1 := HO1.out.mono HB0.out.size
    rw [← HLL.out] at h1
    refine ⟨?_, h1.2.1, fun a ha => ⟨(h1.2.2.1 a ha).1.tch HT2.out ?_, (h1.2.2.1 a ha).2.1.tch HT2.out ?_, (h1.2.2.1 a ha).2.2.tch HT2.out ?_⟩, fun k hk => ?_⟩
    · exact slM_tch h1.1 HT2.out (fun k hk e => by subst e; obtain ⟨_, cur, fz, h5⟩ := h1.2.2.2 k hk; obtain ⟨es, kk, hb⟩ := HL1.out.mp.map; rw [hb] at h5; cases h5)
    · exact fun k e => by subst e; exact HL1.out.nob
    · exact fun k e => by subst e; exact HL1.out.nob
    · exact fun k e => by subst e; exact HL1.out.nob
    · obtain ⟨h4, cur, fz, h5⟩ := h1.2.2.2 k hk
      exact ⟨h4, cur, fz, HT2.out.ob h5 (fun e => by subst e; obtain ⟨es, kk, hb⟩ := HL1.out.mp.map; rw [hb] at h5; cases h5)⟩)
      clear hD hS hD2 hg hT k0 k1 k2 k4 hqb HLd HAd
      go_wp2_with fail
      go_ret
      exact ⟨_, ls, rfl, HO2.out, HS1.out, (Tch.ofBelow HB1w.out).trans HT2.out, HA2.out, by rw [if_pos HRB.out.symm]; exact HL2.out⟩
end Go.Proofs.YtplodoindppleaaGreat
namespace Go.Proofs.YtplodoindppleaaGreat
set_option linter.unusedVariables false
open Go.RowKit
open Go.Lib (hid)
abbrev Gs := Int → Option (Nat × Ax)
def Gs.ptrs (g : Gs) : Int → Option Nat := fun i => (g i).map Prod.fst
def Gs.lst (g : Gs) : Lst := fun i => (g i).map fun z => z.2.att
def Gs.set (g : Gs) (i : Int) (o : Option (Nat × Ax)) : Gs := fun j => if j = i then o else g j
theorem Gs.set_ptrs (g : Gs) (i : Int) (o : Option (Nat × Ax)) : (g.set i o).ptrs = putP g.ptrs i (o.map Prod.fst) := by
  funext j
  unfold Gs.ptrs Gs.set putP
  split <;> rfl
theorem Gs.set_lst (g : Gs) (i : Int) (o : Option (Nat × Ax)) : (g.set i o).lst = g.lst.put i (o.map fun z => z.2.att) := by
  funext j
  unfold Gs.lst Gs.set Lst.put
  split <;> rfl
theorem Lst.put_same (g : Lst) (i : Int) : g.put i (g i) = g := by
  funext j
  unfold Lst.put
  split
  · rename_i h; rw [h]
  · rfl
structure Ld (w : World) (B q b n : Nat) (nd N : Int) (g : Gs) : Prop where
  lq : Lq w B q b n nd N g.ptrs
  ea : ∀ i p x, g i = some (p, x) → x.c.i = i ∧ Ap w B p x
  ap : ∀ i j p x p' y, g i = some (p, x) → g j = some (p', y) → i ≠ j → ∀ k, TA p x k → ¬ TA p' y k
def TL (b : Nat) (g : Gs) : Nat → Prop := fun k => k = b ∨ ∃ i p x, g i = some (p, x) ∧ TA p x k
section
variable {w w' : World} {B q b n : Nat} {nd N : Int} {g : Gs}
theorem Ld.no (h : Ld w B q b n nd N g) : ∀ k, TL b g k → B ≤ k ∧ ∀ cur fz, w.heap[k]? ≠ some (.cells cur 42 fz) := by
  rintro k (rfl | ⟨i, p, x, hg, hk⟩)
  · exact ⟨h.lq.lb, h.lq.nob⟩
  · exact (h.ea i p x hg).2.no k hk
theorem Ld.on (h : Ld w B q b n nd N g) (hb : Below w.heap.size w w') : Ld w' B q b n nd N g := ⟨h.lq.on hb, fun i p x hg => ⟨(h.ea i p x hg).1, (h.ea i p x hg).2.on hb⟩, h.ap⟩
theorem Ld.tch {S : Nat → Prop} (h : Ld w B q b n nd N g) (ht : Tch S w w') (hq : ¬ S q) (hS : ∀ k, S k → B ≤ k ∧ ∀ cur fz, w.heap[k]? ≠ some (.cells cur 42 fz)) (hn : ∀ k, TL b g k → ¬ S k) : Ld w' B q b n nd N g :=
  ⟨h.lq.tch ht hq (hn b (.inl rfl)), fun i p x hg => ⟨(h.ea i p x hg).1, (h.ea i p x hg).2.tch ht hS fun k hk => hn k (.inr ⟨i, p, x, hg, hk⟩)⟩, h.ap⟩
theorem Ld.lt (h : Ld w B q b n nd N g) : ∀ k, TL b g k → k < w.heap.size := by
  rintro k (rfl | ⟨i, p, x, hg, hk⟩)
  · exact h.lq.mp.lt
  · rcases hk with rfl | hk
    · exact (h.ea i _ x hg).2.ob.lt
    · exact ((h.ea i p x hg).2.ow.lt k hk).2
theorem Ld.mono {n' : Nat} (h : Ld w B q b n nd N g) (hn : n ≤ n') : Ld w B q b n' nd N g := ⟨h.lq.mono hn, h.ea, h.ap⟩
def LdP (w : World) (B q b n : Nat) (nd N : Int) (g : Gs) (r : Lst × List An) (e : Ending) (w' : World) : Prop :=
  ∃ g' v ls, e = .returned v ∧ OutM w.heap.size w' v ls ∧ ls.map Ms.an = r.2 ∧ Ld w' B q b (n + 1) nd N g' ∧ g'.lst = r.1 ∧ Tch (TL b g) w w' ∧ (∀ k, TL b g' k → TL b g k ∨ w.heap.size ≤ k) ∧ ∀ k, v.ownBlock = some k → ¬ TL b g' k
theorem LdP.still (h : Ld w B q b n nd N g) (hb : Below w.heap.size w w') : LdP w B q b n nd N g (g.lst, []) (.returned (.slice none 0 0)) w' :=
  ⟨g, _, [], rfl, OutM.nil _ _, rfl, (h.on hb).mono (Nat.le_succ _), rfl, Tch.ofBelow hb, fun k hk => .inl hk, fun k hk => (by cases hk)⟩
theorem LdP.from {w1 : World} {r : Lst × List An} {e : Ending} (h : LdP w1 B q b n nd N g r e w') (hb : Below w.heap.size w w1) : LdP w B q b n nd N g r e w' := by
  obtain ⟨g', v, ls, h1, h2, h3, h4, h5, h6, h7, h8⟩ := h
  exact ⟨g', v, ls, h1, h2.mono hb.size, h3, h4, h5, (Tch.ofBelow hb).trans h6, fun k hk => (h7 k hk).imp id (Nat.le_trans hb.size), h8⟩
theorem Ld.act (h : Ld w B q b n nd N g) {i : Int} {p : Nat} {x : Ax} (hg : g i = some (p, x)) {r : Res} {e : Ending} (hr : ActP w B q b n nd N g.ptrs p x r e w') (hc : ∀ a, r.1 = some a → a.c = x.c) : LdP w B q b n nd N g (g.lst.put i r.1, r.2) e w' := by
  obtain ⟨v, ls, h1, h2, h3, h4, h5⟩ := hr
  obtain ⟨hi, hA⟩ := h.ea i p x hg
  have hS : ∀ k, (k = b ∨ TA p x k) → TL b g k := fun k hk => hk.imp id fun hk => ⟨i, p, x, hg, hk⟩
  have hoth : ∀ j p' y, g j = some (p', y) → j ≠ i → Ap w' B p' y := fun j p' y hj hne => by
    refine (h.ea j p' y hj).2.tch h4 (fun k hk => h.no k (hS k hk)) fun k hk hs => ?_
    rcases hs with rfl | hs
    · exact (h.lq.qa (h.ea j p' y hj).2).2 hk
    · exact h.ap j i p' y p x hj hg hne k hk hs
  rcases r with ⟨_ | a, ms⟩
  · refine ⟨g.set i none, v, ls, h1, h2, h3, ⟨?_, ?_, ?_⟩, ?_, h4.mono hS, ?_, ?_⟩
    · rw [Gs.set_ptrs, ← hi]; exact (show Lq w' B q b n nd N (putP g.ptrs x.c.i none) from h5).mono (Nat.le_succ _)
    · intro j p' y hj
      unfold Gs.set at hj
      split at hj
      · cases hj
      · rename_i hne; exact ⟨(h.ea j p' y hj).1, hoth j p' y hj hne⟩
    · intro j j' p1 y1 p2 y2 hj hj' hne
      unfold Gs.set at hj hj'
      split at hj
      · cases hj
      · split at hj'
        · cases hj'
        · exact h.ap j j' p1 y1 p2 y2 hj hj' hne
    · rw [Gs.set_lst]; rfl
    · rintro k (rfl | ⟨j, p', y, hj, hk⟩)
      · exact .inl (.inl rfl)
      · unfold Gs.set at hj
        split at hj
        · cases hj
        · exact .inl (.inr ⟨j, p', y, hj, hk⟩)
    · rintro k hk (rfl | ⟨j, p', y, hj, hk'⟩)
      · obtain ⟨_, cur, fz, h9⟩ := h2.2.2.2 k hk
        obtain ⟨es, c, hm⟩ := (show Lq w' B q k n nd N (putP g.ptrs x.c.i none) from h5).mp.map
        rw [h9] at hm; cases hm
      · unfold Gs.set at hj
        split at hj
        · cases hj
        · have h9 := h.lt k (.inr ⟨j, p', y, hj, hk'⟩)
          have := (h2.2.2.2 k hk).1
          omega
  · obtain ⟨h6, x', h7, h8, h9, h10⟩ := h5
    have hc' : x'.c = x.c := by
      have := hc a rfl
      rw [← h7] at this; exact this
    have hTA : ∀ k, TA p x' k → TA p x k ∨ w.heap.size ≤ k := by
      rintro k (hk | hk)
      · exact .inl (.inl hk)
      · exact (h9 k hk).imp .inr id
    refine ⟨g.set i (some (p, x')), v, ls, h1, h2, h3, ⟨?_, ?_, ?_⟩, ?_, h4.mono hS, ?_, ?_⟩
    · rw [Gs.set_ptrs]
      have e2 : putP g.ptrs i (some p) = g.ptrs := by
        funext j
        unfold putP
        split
        · rename_i e; subst e; unfold Gs.ptrs; rw [hg]; rfl
        · rfl
      show Lq w' B q b (n + 1) nd N (putP g.ptrs i (some p))
      rw [e2]
      exact h6.mono (Nat.le_succ _)
    · intro j p' y hj
      unfold Gs.set at hj
      split at hj
      · rename_i e
        cases hj
        exact ⟨by rw [hc', hi, e], h8⟩
      · rename_i hne; exact ⟨(h.ea j p' y hj).1, hoth j p' y hj hne⟩
    · have key : ∀ j p' y, g j = some (p', y) → j ≠ i → (∀ k, TA p x' k → ¬ TA p' y k) := fun j p' y hj hne k hk hk' => by
        rcases hTA k hk with h | h'
        · exact h.elim (fun e => h.elim (fun _ => ‹Ld w B q b n nd N g›.ap i j p x p' y hg hj (Ne.symm hne) k (hTA k hk |>.resolve_right (by have := ‹Ld w B q b n nd N g›.lt k (.inr ⟨j, p', y, hj, hk'⟩); omega)) hk') (fun _ => ‹Ld w B q b n nd N g›.ap i j p x p' y hg hj (Ne.symm hne) k (hTA k hk |>.resolve_right (by have := ‹Ld w B q b n nd N g›.lt k (.inr ⟨j, p', y, hj, hk'⟩); omega)) hk')) (fun _ => ‹Ld w B q b n nd N g›.ap i j p x p' y hg hj (Ne.symm hne) k (hTA k hk |>.resolve_right (by have := ‹Ld w B q b n nd N g›.lt k (.inr ⟨j, p', y, hj, hk'⟩); omega)) hk')
        · have := ‹Ld w B q b n nd N g›.lt k (.inr ⟨j, p', y, hj, hk'⟩); omega
      intro j j' p1 y1 p2 y2 hj hj' hne
      unfold Gs.set at hj hj'
      split at hj
      · cases hj
        split at hj'
        · rename_i e1 e2; exact absurd (e1.trans e2.symm) hne
        · rename_i hne2; exact key j' p2 y2 hj' hne2
      · rename_i hne1
        split at hj'
        · cases hj'
          exact fun k hk hk' => key j p1 y1 hj hne1 k hk' hk
        · exact h.ap j j' p1 y1 p2 y2 hj hj' hne
    · rw [Gs.set_lst]
      show g.lst.put i (some x'.att) = g.lst.put i (some a)
      rw [h7]
    · rintro k (rfl | ⟨j, p', y, hj, hk⟩)
      · exact .inl (.inl rfl)
      · unfold Gs.set at hj
        split at hj
        · cases hj
          rcases hTA k hk with h | h
          · exact .inl (.inr ⟨i, p, x, hg, h⟩)
          · exact .inr h
        · exact .inl (.inr ⟨j, p', y, hj, hk⟩)
    · rintro k hk (rfl | ⟨j, p', y, hj, hk'⟩)
      · obtain ⟨_, cur, fz, h11⟩ := h2.2.2.2 k hk
        obtain ⟨es, c, hm⟩ := h6.mp.map
        rw [h11] at hm; cases hm
      · unfold Gs.set at hj
        split at hj
        · cases hj
          rcases hk' with rfl | hk'
          · obtain ⟨_, cur, fz, h11⟩ := h2.2.2.2 k hk
            rw [show w'.heap[k]? = _ from h8.ob] at h11; injection h11 with h11; injection h11 with _ e; exact absurd e (by decide)
          · exact h10 k hk hk'
        · have h11 := h.lt k (.inr ⟨j, p', y, hj, hk'⟩)
          have := (h2.2.2.2 k hk).1
          omega
theorem Ld.beg {w1 : World} (h : Ld w B q b n nd N g) (hb : Below w.heap.size w w1) {p : Nat} (hp : w.heap.size ≤ p) {x : Ax} (hrv : x.rv.v.ownBlock = none) {so vt : Int} {vl : List C7} {e : Ending} (hr : BegP w1 B q b n nd N g.ptrs p x so vt vl e w') : LdP w B q b n nd N g (g.lst.put x.c.i (beginF nd N (g.lst x.c.i) x.att so vt vl).1, (beginF nd N (g.lst x.c.i) x.att so vt vl).2) e w' := by
  obtain ⟨v, ls, h1, h2, h3, h4, h5, h6⟩ := hr
  have h0 := h.on hb
  have hold : ∀ j p' y, g j = some (p', y) → Ap w' B p' y := fun j p' y hj => (h0.ea j p' y hj).2.tch h4 (fun k e => by subst e; exact ⟨h0.lq.lb, h0.lq.nob⟩) fun k hk e => by subst e; exact (h0.lq.qa (h0.ea j p' y hj).2).2 hk
  have hT : Tch (TL b g) w w' := (Tch.ofBelow hb).trans (h4.mono fun k e => .inl e)
  unfold beginF
  show LdP w B q b n nd N g (g.lst.put x.c.i (if rightA (mkA nd x.att.c x.att.bal so vt vl false 0) = true then (some x.att, allF nd N x.att.c x.att.bal so vt vl false) else (g.lst x.c.i, [])).1, (if rightA (mkA nd x.att.c x.att.bal so vt vl false 0) = true then (some x.att, allF nd N x.att.c x.att.bal so vt vl false) else (g.lst x.c.i, [])).2) e w'
  show LdP w B q b n nd N g (g.lst.put x.c.i (if rightA (mkA nd x.c x.bal so vt vl false 0) = true then (some x.att, allF nd N x.c x.bal so vt vl false) else (g.lst x.c.i, [])).1, (if rightA (mkA nd x.c x.bal so vt vl false 0) = true then (some x.att, allF nd N x.c x.bal so vt vl false) else (g.lst x.c.i, [])).2) e w'
  by_cases hR : rightA (mkA nd x.c x.bal so vt vl false 0) = true
  · rw [if_pos hR]
    rw [if_pos hR] at h6
    have hnew : ∀ j p' y, g j = some (p', y) → ∀ k, TA p x k → ¬ TA p' y k := fun j p' y hj k hk hk' => by
      have := h.lt k (.inr ⟨j, p', y, hj, hk'⟩)
      rcases hk with rfl | hk
      · omega
      · rw [hrv] at hk; cases hk
    refine ⟨g.set x.c.i (some (p, x)), v, ls, h1, h2.mono hb.size, h3, ⟨?_, ?_, ?_⟩, ?_, hT, ?_, ?_⟩
    · rw [Gs.set_ptrs]; exact h6
    · intro j p' y hj
      unfold Gs.set at hj
      split at hj
      · rename_i e; cases hj; exact ⟨e.symm, h5⟩
      · exact ⟨(h.ea j p' y hj).1, hold j p' y hj⟩
    · intro j j' p1 y1 p2 y2 hj hj' hne
      unfold Gs.set at hj hj'
      split at hj
      · cases hj
        split at hj'
        · rename_i e1 e2; exact absurd (e1.trans e2.symm) hne
        · exact hnew j' p2 y2 hj'
      · split at hj'
        · cases hj'
          exact fun k hk hk' => hnew j p1 y1 hj k hk' hk
        · exact h.ap j j' p1 y1 p2 y2 hj hj' hne
    · rw [Gs.set_lst]; rfl
    · rintro k (rfl | ⟨j, p', y, hj, hk⟩)
      · exact .inl (.inl rfl)
      · unfold Gs.set at hj
        split at hj
        · cases hj
          rcases hk with rfl | hk
          · exact .inr hp
          · rw [hrv] at hk; cases hk
        · exact .inl (.inr ⟨j, p', y, hj, hk⟩)
    · rintro k hk (rfl | ⟨j, p', y, hj, hk'⟩)
      · obtain ⟨_, cur, fz, h11⟩ := h2.2.2.2 k hk
        obtain ⟨es, c, hm⟩ := h6.mp.map
        rw [h11] at hm; cases hm
      · unfold Gs.set at hj
        split at hj
        · cases hj
          rcases hk' with rfl | hk'
          · obtain ⟨_, cur, fz, h11⟩ := h2.2.2.2 k hk
            rw [show w'.heap[k]? = _ from h5.ob] at h11; injection h11 with h11; injection h11 with _ e; exact absurd e (by decide)
          · rw [hrv] at hk'; cases hk'
        · have h11 := h.lt k (.inr ⟨j, p', y, hj, hk'⟩)
          have := (h2.2.2.2 k hk).1
          have := hb.size
          omega
  · rw [if_neg hR]
    rw [if_neg hR] at h6
    refine ⟨g, v, ls, h1, h2.mono hb.size, ?_, ⟨h6, fun j p' y hj => ⟨(h.ea j p' y hj).1, hold j p' y hj⟩, h.ap⟩, (Lst.put_same _ _).symm, hT, fun k hk => .inl hk, ?_⟩
    · rw [h3]; unfold allF; rw [if_neg hR]
    · rintro k hk (rfl | ⟨j, p', y, hj, hk'⟩)
      · obtain ⟨_, cur, fz, h11⟩ := h2.2.2.2 k hk
        obtain ⟨es, c, hm⟩ := h6.mp.map
        rw [h11] at hm; cases hm
      · have h11 := h.lt k (.inr ⟨j, p', y, hj, hk'⟩)
        have := (h2.2.2.2 k hk).1
        have := hb.size
        omega
end
end Go.Proofs.YtplodoindppleaaGreat

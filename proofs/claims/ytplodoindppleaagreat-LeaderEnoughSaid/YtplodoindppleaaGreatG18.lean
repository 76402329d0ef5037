import Derived.Test.YtplodoindppleaaGreatG04
import Derived.Maps.AppendAt
import Derived.Test.YtplodoindppleaaGreatLFunZm
import Derived.Test.YtplodoindppleaaGreatG13
namespace Go.Proofs.YtplodoindppleaaGreat
set_option linter.unusedVariables false
set_option linter.unusedSimpArgs false
open Go.RowKit
open Go.Lib (hid)
def Fr (n : Nat) (v v' : Value) : Prop := ∀ k, v'.ownBlock = some k → v.ownBlock = some k ∨ n ≤ k
theorem OwnM.made (w : World) {B : Nat} (hB : B ≤ w.heap.size) : OwnM (w.alloc (.cells #[] 48)) B (.slice (some ⟨w.heap.size, 0, none⟩) 0 0) [] := World.ownsRow_made w #[] 0 hB (by unfold maxLen; omega) rfl
theorem step_append_ms {ops : Array Oper} {o : Oper} {a : Act} {w : World} {K : Act → World → Prop} {Q : Exit → Act → World → Prop} {E : Prop} (hgd : o.guard = none) (s x : Operand) (ho : o.op = .call { callee := .builtin .append, args := #[s, x], argTypes := #[37, 37] })
 (B : Nat) (v : Value) (ps : List Mg) (hs : a.eval s = v) (hown : OwnG Mg.list 20 48 w B v ps) (ad : Addr) (m c : Nat) (y : Mg) (hx : a.eval x = .slice (some ad) m c) (h2 : SlG Mg.list 20 w (.slice (some ad) m c) [y]) (hlen : ps.length ≤ 100000) (hbase : B ≤ w.heap.size)
 (h : ∀ v' w', OwnG Mg.list 20 48 w' B v' (ps ++ [y]) → w.grownBy w' v.ownBlock → Fr w.heap.size v v' → K (a.put o.dst v') w') : if Region.wanted o (yielded ops a.tmps) = true then Oper.wp Tryz.prog o a w K Q else E := by
 have hw : Region.wanted o (yielded ops a.tmps) = true := by simp [Region.wanted, hgd]
 rw [if_pos hw]
 obtain ⟨i0, hi, hz0, hz1, hz2⟩ := info_parts Tryz.infoMz
 obtain ⟨b, off, cap, a2, e, ha, hc, hl⟩ := h2
 injection e with e1 e2 e3
 subst e1 e2 e3
 obtain ⟨v', w', hr, ho', hg, _, hat⟩ := run_append_own_at (P := Tryz.prog) w B 37 o.type 48 i0 _ 20 208 Tryz.underlying37 hi hz0 hz1 hz2 rfl (by decide) v ps.length (flatG Mg.list ps) hown ad [y].length c (flatG Mg.list [y]) (flatG_len kM [y]) (fun j u hu => by
  obtain rfl := Option.some.inj (ha (by simp))
  rw [addr_add']
  rw [flatG_one] at hu
  have := hc 0 y rfl j u hu
  rw [show off + 0 * 20 + j = off + j by omega] at this
  exact this) (flatG_all Mg.one' [y]) (by unfold maxLen; simp; omega) (by simp; omega) hbase
 unfold Oper.wp execOp
 simp only [ho, resolve, invoke, builtin, Sem.run_bind, Sem.run_pure, Result.andThen_ok, List.map_toArray, List.map_cons, List.map_nil, hs, hx, hr]
 refine h v' w' ?_ hg fun k hk => ?_
 · show World.ownsRow _ _ _ _ _ _ _
   rw [List.length_append, flatG_append]; exact ho'
 · rcases hat with e | e
   · exact .inl (e ▸ hk)
   · rw [e] at hk; cases hk; exact .inr (Nat.le_refl _)
theorem wpList_append_ms1 {w : World} {ops : Array Oper} {rest : List Oper} {o : Oper} {a : Act} {Q : Exit → Act → World → Prop} (hgd : o.guard = none) (s x : Operand) (ho : o.op = .call { callee := .builtin .append, args := #[s, x], argTypes := #[37, 37] })
 (B : Nat) (v : Value) (ps : List Mg) (hs : a.eval s = v) (hown : OwnM w B v ps) (ad : Addr) (m c : Nat) (y : Mg) (hx : a.eval x = .slice (some ad) m c) (h2 : SlG Mg.list 20 w (.slice (some ad) m c) [y]) (hlen : ps.length ≤ 100000) (hbase : B ≤ w.heap.size)
 (h : ∀ v' w', OwnM w' B v' (ps ++ [y]) → w.grownBy w' v.ownBlock → Fr w.heap.size v v' → wpList Tryz.prog ops Q rest (a.put o.dst v') w') : wpList Tryz.prog ops Q (o :: rest) a w := by
 obtain ⟨i0, hi, hz0, hz1, hz2⟩ := info_parts Tryz.infoMz
 obtain ⟨b, off, cap, a2, e, ha, hc, hl⟩ := h2
 injection e with e1 e2 e3
 subst e1 e2 e3
 refine wpList_append_own_at _ hgd s x 37 ho B 48 i0 _ 20 208 Tryz.underlying37 hi hz0 hz1 hz2 rfl (by decide) v ps.length (flatG Mg.list ps) hs hown ad [y].length c (flatG Mg.list [y]) hx (flatG_len kM [y]) (fun j u hu => ?_) (flatG_all Mg.one' [y]) (by unfold maxLen; simp; omega) (by simp; omega) hbase ?_
 · obtain rfl := Option.some.inj (ha (by simp))
   rw [addr_add']
   rw [flatG_one] at hu
   have := hc 0 y rfl j u hu
   rw [show off + 0 * 20 + j = off + j by omega] at this
   exact this
 · intro v' w' ho' hg _ hat
   refine h v' w' ?_ hg fun k hk => ?_
   · show World.ownsRow _ _ _ _ _ _ _
     rw [List.length_append, flatG_append]; exact ho'
   · rcases hat with e | e
     · exact .inl (e ▸ hk)
     · rw [e] at hk; cases hk; exact .inr (Nat.le_refl _)
end Go.Proofs.YtplodoindppleaaGreat
namespace Go.Proofs.YtplodoindppleaaGreat
set_option linter.unusedVariables false
open Go.RowKit
open Go.Lib (hid)
def saidM (ss : List Int) (rs : List Ms) : List Ms := rs.filter fun m => ss.contains m.m.so
theorem saidM_an (ss : List Int) (rs : List Ms) : (saidM ss rs).map Ms.an = saidF ss (rs.map Ms.an) := by unfold saidM saidF; rw [List.filter_map]; rfl
theorem saidM_next {ss : List Int} {rs : List Ms} {k : Nat} {y : Ms} (h : rs[k]? = some y) : saidM ss (rs.take (k + 1)) = saidM ss (rs.take k) ++ (if ss.contains y.m.so = true then [y] else []) := by
 unfold saidM
 rw [List.take_add_one, h, List.filter_append]
 congr 1
 simp [List.filter_cons]
theorem saidM_len (ss : List Int) (rs : List Ms) : (saidM ss rs).length ≤ rs.length := List.length_filter_le _ _
theorem saidM_mem {ss : List Int} {rs : List Ms} {m : Ms} (h : m ∈ saidM ss rs) : m ∈ rs := (List.mem_filter.1 h).1
theorem sor1 (w : World) (s : Int) : SoR (w.alloc (.cells #[.int .i64 s] 46)) w.heap.size [s] := fun j t hs => by
 rw [cellAt' (laid1_0 w _)]
 rcases j with _ | j
 · obtain rfl := Option.some.inj hs; rfl
 · simp at hs
theorem sor2 (w : World) (s t : Int) : SoR (w.alloc (.cells #[.int .i64 s, .int .i64 t] 46)) w.heap.size [s, t] := fun j u hs => by
 rw [cellAt' (laid1_0 w _)]
 rcases j with _ | _ | j
 · obtain rfl := Option.some.inj hs; rfl
 · obtain rfl := Option.some.inj hs; rfl
 · simp at hs
theorem SoR.on {w w' : World} {b : Nat} {ss : List Int} (h : SoR w b ss) (hb : Below w.heap.size w w') (hlt : b < w.heap.size) : SoR w' b ss := fun j s hs => (cell_of_heap (hb.block b hlt)).trans (h j s hs)
set_option maxHeartbeats 8000000 in
set_option maxRecDepth 100000 in
theorem cSaid {w : World} {B p b cap : Nat} {x : Ax} {ss : List Int} (h : Ap w B p x) (hl : x.rs.length ≤ 1000) (hs : SoR w b ss) (hb0 : b < w.heap.size) (hsl : ss.length ≤ 9) : Calls Tryz.prog 56 #[ptr p, .slice (some ⟨b, 0, none⟩) ss.length cap] w fun e w' => ∃ v, e = .returned v ∧ OwnM w' w.heap.size v (mgs (saidM ss x.rs)) ∧ Below w.heap.size w w' := by
 have HAP := hid h
 have HSO := hid hs
 have HSL := hid hsl
 have HBL := hid hb0
 have k12 := h.cells.2.2.2.2.2.1
 have hsl0 : SlM w x.rv.v (mgs x.rs) := OwnG.slG kM h.ow
 obtain ⟨b', o, cp, a, hv, ha, hc, hbb⟩ := hsl0
 have hlm : (mgs x.rs).length = x.rs.length := by unfold mgs; rw [List.length_map]
 rw [hlm] at hv ha hbb
 obtain ⟨m, hm⟩ : ∃ m, m = x.rs.length := ⟨_, rfl⟩
 rw [← hm] at hv ha hbb hl
 have hrv : Value.slice x.rv.a x.rv.n x.rv.c = .slice a m cp := hv
 rw [hrv] at k12
 have HN := hid hm
 have HCC := hid hc
 obtain ⟨sn, hsn⟩ : ∃ z, z = ss.length := ⟨_, rfl⟩
 have HSN := hid hsn
 have HCS : Hid (∀ W z, Below w.heap.size w W → Calls Tryz.prog 84 #[.slice (some ⟨b, 0, none⟩) sn cap, .int .i64 z] W fun e w' => e = .returned (.bool (ss.contains z)) ∧ W = w') := hid (fun W z hW => by rw [hsn]; exact cContainsS (HSO.out.on hW HBL.out) (Nat.lt_of_lt_of_le HBL.out hW.size) HSL.out z)
 rw [← hsn]
 clear h hs hb0 hsl hv hlm hm hc hrv hsn
 go_enter Tryz.func56, Tryz.ntmps56
 go_wp2_with fail
 go_loopw [5, 13] (fun s5 i wr => ∃ (k : Nat) (g : Option Addr) (gn gc : Nat), k ≤ m ∧ i = .int .i64 k ∧ s5 = .slice g gn gc ∧ Hid (Below w.heap.size w wr) ∧ Hid (OwnM wr w.heap.size (.slice g gn gc) (mgs (saidM ss (x.rs.take k))))) (fun _ i _ => m - (RowKit.intOf i).toNat)
 case atStart => exact ⟨0, none, 0, 0, Nat.zero_le _, rfl, rfl, hid (Below.refl _ _), hid (OwnG.nil _ _ _ _ _)⟩
 case round =>
  obtain ⟨k, g, gn, gc, hk, rfl, rfl, HB, HO⟩ := hrel
  by_cases hlt : k < m
  · have hlti : ((k : Int) < m) := by omega
    obtain rfl := ha (by omega)
    obtain ⟨y, hy⟩ : ∃ y, x.rs[k]? = some y := ⟨x.rs[k]'(by rw [← HN.out]; exact hlt), List.getElem?_eq_getElem (by rw [← HN.out]; exact hlt)⟩
    have hbw := hbb (by omega)
    have HC : Hid (wr.rangeAt b' (o + k * 20) y.m.list) := hid ((HCC.out.on HB.out fun _ => hbw) k y.m (at_mgs hy))
    have HY := hid hy
    clear hy hbw
    obtain ⟨so, hso⟩ : ∃ z, z = y.m.so := ⟨_, rfl⟩
    have HSOY := hid hso
    clear hso
    obtain ⟨cb, hcb⟩ : ∃ z, z = ss.contains so := ⟨_, rfl⟩
    have HCB := hid hcb
    have HCT := hid (fun W hW => HCS.out W so hW)
    rw [← hcb] at HCT
    clear hcb
    rcases cb with _ | _
    · go_wp2_with (first
       | ((with_reducible refine loadMl (x := ?lx1) (b := ?lb1) (o := ?lo1) y.m ?lg1 ?lp1 ?lxx1 ?lc1 ?_); (case lg1 => rfl); (case lp1 => rfl); (case lxx1 => rfl); (case lc1 => exact HC.out))
       | ((with_reducible refine storeM (x := ?sx2) (y := ?sy2) (b := wr.heap.size) y.m ?sg2 ?so2 ?sxx2 ?syy2 ?sc2 ?sh2); (case sg2 => rfl); (case so2 => rfl); (case sxx2 => rfl); (case syy2 => rfl); (case sc2 => exact roomZ wr); intro W1 hO hU; have HO1 : Hid (OM W1 wr.heap.size y.m) := hid hO; have HB1 : Hid (Below wr.heap.size wr W1) := hid ((laid1_b wr zeroMc).trans (hU.below wr.heap.size (Nat.le_refl _))); have c0 : W1.cell? ⟨wr.heap.size, 0, none⟩ = some (.int .i64 so) := (by rw [HSOY.out]; exact HO1.out.cell (m := y.m) (j := 0) rfl); have HBW := hid (HB.out.trans (HB1.out.mono HB.out.size)); clear hO hU)
       | (go_at_call 84; refine (HCT.out _ HBW.out).mono ?_; rintro e w' ⟨rfl, rfl⟩)
       | fail)
      go_roundw
      case rel => exact ⟨k + 1, g, gn, gc, by omega, by go_num, rfl, HBW, hid (by rw [saidM_next HY.out, ← HSOY.out, ← HCB.out]; simp; exact OwnG.on HO.out HB1.out)⟩
      case measure => first | omega | (simp [RowKit.intOf]; omega)
    · go_wp2_with (first
       | ((with_reducible refine loadMl (x := ?lx4) (b := ?lb4) (o := ?lo4) y.m ?lg4 ?lp4 ?lxx4 ?lc4 ?_); (case lg4 => rfl); (case lp4 => rfl); (case lxx4 => rfl); (case lc4 => exact HC.out))
       | ((with_reducible refine storeM (x := ?sx5) (y := ?sy5) (b := wr.heap.size) y.m ?sg5 ?so5 ?sxx5 ?syy5 ?sc5 ?sh5); (case sg5 => rfl); (case so5 => rfl); (case sxx5 => rfl); (case syy5 => rfl); (case sc5 => exact roomZ wr); intro W1 hO hU; have HO1 : Hid (OM W1 wr.heap.size y.m) := hid hO; have HB1 : Hid (Below wr.heap.size wr W1) := hid ((laid1_b wr zeroMc).trans (hU.below wr.heap.size (Nat.le_refl _))); have c0 : W1.cell? ⟨wr.heap.size, 0, none⟩ = some (.int .i64 so) := (by rw [HSOY.out]; exact HO1.out.cell (m := y.m) (j := 0) rfl); have HBW := hid (HB.out.trans (HB1.out.mono HB.out.size)); clear hO hU)
       | (go_at_call 84; refine (HCT.out _ HBW.out).mono ?_; rintro e w' ⟨rfl, rfl⟩)
       | ((with_reducible refine loadM (x := ?lx6) (b := wr.heap.size) y.m ?lg6 ?lo6 ?lxx6 ?lc6 ?lh6); (case lg6 => rfl); (case lo6 => rfl); (case lxx6 => rfl); (case lc6 => exact HO1.out))
       | ((with_reducible refine wpList_bsM (x := ?bx3) y.m ?bg3 ?bo3 ?be3 ?bh3); (case bg3 => rfl); (case bo3 => rfl); (case be3 => rfl); intro W2 hO2 hB2 _; have HO2 := hid hO2; have HB2 := hid hB2; clear hO2 hB2)
       | (at_builtin; refine wpList_append_ms1 rfl _ _ rfl w.heap.size _ (mgs (saidM ss (x.rs.take k))) rfl (OwnG.on (OwnG.on HO.out HB1.out) HB2.out) _ _ _ y.m rfl (OM.sl HO2.out 1) (by have := HN.out; have h2 := saidM_len ss (x.rs.take k); have h3 : (x.rs.take k).length ≤ k := List.length_take_le _ _; unfold mgs; rw [List.length_map]; omega) (Nat.le_trans HBW.out.size HB2.out.size) ?_; intro v5 w5 ho5 hg5 _; obtain ⟨g5, c5, n5, rfl, hn5⟩ := OwnG.asSlice ho5; have HO5 := hid ho5; have HB5 := hid ((HBW.out.trans (HB2.out.mono HBW.out.size)).grown hg5 (Nat.le_trans HBW.out.size HB2.out.size) (fun q hq => ((OwnG.on (OwnG.on HO.out HB1.out) HB2.out).lt q hq).1)); clear ho5 hg5 hn5)
       | fail)
      go_roundw
      case rel => exact ⟨k + 1, g5, n5, c5, by omega, by go_num, rfl, HB5, hid (by rw [saidM_next HY.out, ← HSOY.out, ← HCB.out]; have := HO5.out; simpa [mgs] using this)⟩
      case measure => first | omega | (simp [RowKit.intOf]; omega)
  · have hlti : ¬ ((k : Int) < m) := by omega
    have HE : Hid (x.rs.take k = x.rs) := hid (by rw [show k = m by omega, HN.out, List.take_length])
    go_wp2_with fail
    go_ret
    exact ⟨_, rfl, by have := HO.out; rwa [HE.out] at this, HB.out⟩
set_option maxHeartbeats 8000000 in
set_option maxRecDepth 100000 in
theorem cVotes {w : World} {B p : Nat} {x : Ax} (h : Ap w B p x) (hl : x.rs.length ≤ 1000) : Calls Tryz.prog 96 #[ptr p] w fun e w' => e = .returned (.int .i64 (((saidM [1] x.rs).countP fun m => m.m.fl : Nat) : Int)) ∧ Below w.heap.size w w' := by
 have HL := hid hl
 have HAP := hid h
 have HQ : Hid (Below w.heap.size w (w.alloc (.cells #[.int .i64 1] 46))) := hid (laid1_b w _)
 have HR : Hid (SoR (w.alloc (.cells #[.int .i64 1] 46)) w.heap.size [1]) := hid (sor1 w 1)
 have HZ : Hid (w.heap.size < (w.alloc (.cells #[.int .i64 1] 46)).heap.size) := hid (by simp)
 have hS := cSaid (cap := 1) (h.on HQ.out) hl HR.out HZ.out (by decide)
 clear h
 go_enter Tryz.func96, Tryz.ntmps96
 generalize hL : saidM [1] x.rs = L at hS ⊢
 have hLl : L.length ≤ 1000 := by rw [← hL]; exact Nat.le_trans (saidM_len _ _) hl
 clear hL
 go_wp2_with (first | (go_at_call 56; refine hS.mono ?_; rintro e w1 ⟨v0, rfl, ho, hB⟩; obtain ⟨ra, rc, rn, rfl, hrn⟩ := OwnG.asSlice ho; have hca : rn = L.length := (by rw [hrn]; unfold mgs; rw [List.length_map]); clear hrn; have HO := hid ho; have HC := hid hca; have HB1 := hid (HQ.out.trans (hB.mono HQ.out.size)); clear ho hB hca) | fail)
 have hsl0 : SlM w1 (.slice ra rn rc) (mgs L) := OwnG.slG kM HO.out
 obtain ⟨b', o, cp, a, hv, ha, hc, hbb⟩ := hsl0
 have hlm : (mgs L).length = L.length := by unfold mgs; rw [List.length_map]
 rw [hlm, ← HC.out] at hv ha hbb
 injection hv with hv1 hv2 hv3
 subst hv1 hv3
 have HCC := hid hc
 have hmL : rn ≤ 1000 := by have := HC.out; omega
 clear hc hlm hv2
 go_loopw [3, 10] (fun s3 i wr => ∃ (k : Nat), k ≤ rn ∧ i = .int .i64 k ∧ s3 = .int .i64 (((L.take k).countP fun m => m.m.fl : Nat) : Int) ∧ Hid (Below w1.heap.size w1 wr)) (fun _ i _ => rn - (RowKit.intOf i).toNat)
 case atStart => exact ⟨0, Nat.zero_le _, rfl, rfl, hid (Below.refl _ _)⟩
 case round =>
  obtain ⟨k, hk, rfl, rfl, HB⟩ := hrel
  obtain ⟨cn, hcn⟩ : ∃ z, z = (L.take k).countP fun m => m.m.fl := ⟨_, rfl⟩
  have hc1 : cn ≤ 1000 := by have h1 : (L.take k).countP (fun m => m.m.fl) ≤ (L.take k).length := List.countP_le_length; have h2 : (L.take k).length ≤ k := List.length_take_le _ _; omega
  rw [← hcn]
  have HCN := hid hcn
  clear hcn
  by_cases hlt : k < rn
  · have hlti : ((k : Int) < rn) := by omega
    obtain rfl := ha (by omega)
    obtain ⟨y, hy⟩ : ∃ y, L[k]? = some y := ⟨L[k]'(by rw [← HC.out]; exact hlt), List.getElem?_eq_getElem (by rw [← HC.out]; exact hlt)⟩
    have hbw := hbb (by omega)
    have HCY : Hid (wr.rangeAt b' (o + k * 20) y.m.list) := hid ((HCC.out.on HB.out fun _ => hbw) k y.m (at_mgs hy))
    have HY := hid hy
    clear hy hbw
    obtain ⟨fl, hfl⟩ : ∃ z, z = y.m.fl := ⟨_, rfl⟩
    have HFL := hid hfl
    clear hfl
    rcases fl with _ | _
    · go_wp2_with (first
       | ((with_reducible refine loadMl (x := ?lx7) (b := ?lb7) (o := ?lo7) y.m ?lg7 ?lp7 ?lxx7 ?lc7 ?_); (case lg7 => rfl); (case lp7 => rfl); (case lxx7 => rfl); (case lc7 => exact HCY.out))
       | ((with_reducible refine storeM (x := ?sx8) (y := ?sy8) (b := wr.heap.size) y.m ?sg8 ?so8 ?sxx8 ?syy8 ?sc8 ?sh8); (case sg8 => rfl); (case so8 => rfl); (case sxx8 => rfl); (case syy8 => rfl); (case sc8 => exact roomZ wr); intro W1 hO hU; have HO1 : Hid (OM W1 wr.heap.size y.m) := hid hO; have HB1' : Hid (Below wr.heap.size wr W1) := hid ((laid1_b wr zeroMc).trans (hU.below wr.heap.size (Nat.le_refl _))); have c0 : W1.cell? ⟨wr.heap.size, 13, none⟩ = some (.bool false) := (by rw [HFL.out]; exact HO1.out.cell (m := y.m) (j := 13) rfl); clear hO hU)
       | fail)
      go_roundw
      case rel => exact ⟨k + 1, by omega, by go_num, by rw [List.take_add_one, HY.out, List.countP_append, ← HCN.out]; simp [← HFL.out], hid (HB.out.trans (HB1'.out.mono HB.out.size))⟩
      case measure => first | omega | (simp [RowKit.intOf]; omega)
    · go_wp2_with (first
       | ((with_reducible refine loadMl (x := ?lx9) (b := ?lb9) (o := ?lo9) y.m ?lg9 ?lp9 ?lxx9 ?lc9 ?_); (case lg9 => rfl); (case lp9 => rfl); (case lxx9 => rfl); (case lc9 => exact HCY.out))
       | ((with_reducible refine storeM (x := ?sx10) (y := ?sy10) (b := wr.heap.size) y.m ?sg10 ?so10 ?sxx10 ?syy10 ?sc10 ?sh10); (case sg10 => rfl); (case so10 => rfl); (case sxx10 => rfl); (case syy10 => rfl); (case sc10 => exact roomZ wr); intro W1 hO hU; have HO1 : Hid (OM W1 wr.heap.size y.m) := hid hO; have HB1' : Hid (Below wr.heap.size wr W1) := hid ((laid1_b wr zeroMc).trans (hU.below wr.heap.size (Nat.le_refl _))); have c0 : W1.cell? ⟨wr.heap.size, 13, none⟩ = some (.bool true) := (by rw [HFL.out]; exact HO1.out.cell (m := y.m) (j := 13) rfl); clear hO hU)
       | fail)
      go_roundw
      case rel => exact ⟨k + 1, by omega, by go_num, by rw [List.take_add_one, HY.out, List.countP_append, ← HCN.out]; simp [← HFL.out], hid (HB.out.trans (HB1'.out.mono HB.out.size))⟩
      case measure => first | omega | (simp [RowKit.intOf]; omega)
  · have hlti : ¬ ((k : Int) < rn) := by omega
    have HE : Hid (L.take k = L) := hid (by rw [show k = rn by omega, HC.out, List.take_length])
    go_wp2_with fail
    go_ret
    have e : (cn : Nat) = L.countP (fun m => m.m.fl) := by rw [HCN.out, HE.out]
    exact ⟨by rw [← e]; rfl, HB1.out.trans (HB.out.mono HB1.out.size)⟩
end Go.Proofs.YtplodoindppleaaGreat
namespace Go.Proofs.YtplodoindppleaaGreat
set_option linter.unusedVariables false
open Go.RowKit
open Go.Lib (hid)
section
variable {md : Region.Mode} {S : World → Prop} {ops : Array Oper} {i : Nat} {o : Oper} {rs : List Nat} {fuel : Nat} {listed listed' : Array Bool} {a : Act} {w : World} {Q : Exit → Act → World → Prop} {x y : Operand} {p : Nat}
theorem rh_storeAp (z z' : Ax) (v : Int) (hi : ops[i]? = some o) (hl : listed.setIfInBounds i true = listed') (hg : o.guard = none) (ho : o.op = .store 31 x y)
 (hx : a.eval x = .pointer (some ⟨p, 8, none⟩)) (hy : a.eval y = .int .i64 v) (hd : o.dst = none) (hC : OA w p z) (he : z.arr.setIfInBounds 8 (.int .i64 v) = z'.arr) (h : ∀ W, OA W p z' → Upd p w W → S W ∧ wpAnyH Tryz.prog md ops Q S fuel listed' a W) (hs : AllReadyH Tryz.prog md ops Q S fuel listed a w rs) : AllReadyH Tryz.prog md ops Q S fuel listed a w (i :: rs) := by
 refine rh_cons hi hl hg (fun K hK => ?_) hs
 obtain ⟨h1, h2⟩ := h _ (hC.set he) (setsUpd' w p 8 [.int .i64 v])
 have hr := hK.out _ _ h1 h2
 have hc : w.cell? ⟨p, 8, none⟩ = some (z.arr[8]'(by rw [Ax.size]; decide)) := (cellAt' hC 8).trans (Array.getElem?_eq_getElem _)
 have hf := frozenAt hC 8
 unfold Oper.wp execOp
 simp only [ho, hx, hy]
 have hr2 : K a (w.setCell ⟨p, 8, none⟩ (.int .i64 v)) := hr
 go_simp
 exact hr2
theorem rh_storeAb (z z' : Ax) (v : Bool) (hi : ops[i]? = some o) (hl : listed.setIfInBounds i true = listed') (hg : o.guard = none) (ho : o.op = .store 4 x y)
 (hx : a.eval x = .pointer (some ⟨p, 11, none⟩)) (hy : a.eval y = .bool v) (hd : o.dst = none) (hC : OA w p z) (he : z.arr.setIfInBounds 11 (.bool v) = z'.arr) (h : ∀ W, OA W p z' → Upd p w W → S W ∧ wpAnyH Tryz.prog md ops Q S fuel listed' a W) (hs : AllReadyH Tryz.prog md ops Q S fuel listed a w rs) : AllReadyH Tryz.prog md ops Q S fuel listed a w (i :: rs) := by
 refine rh_cons hi hl hg (fun K hK => ?_) hs
 obtain ⟨h1, h2⟩ := h _ (hC.set he) (setsUpd' w p 11 [.bool v])
 have hr := hK.out _ _ h1 h2
 have hc : w.cell? ⟨p, 11, none⟩ = some (z.arr[11]'(by rw [Ax.size]; decide)) := (cellAt' hC 11).trans (Array.getElem?_eq_getElem _)
 have hf := frozenAt hC 11
 unfold Oper.wp execOp
 simp only [ho, hx, hy]
 have hr2 : K a (w.setCell ⟨p, 11, none⟩ (.bool v)) := hr
 go_simp
 exact hr2
theorem rh_storeAV (z : Ax) (t : Int) (r : Sv) (l : List C7) (hi : ops[i]? = some o) (hl : listed.setIfInBounds i true = listed') (hg : o.guard = none) (ho : o.op = .store 34 x y)
 (hx : a.eval x = .pointer (some ⟨p, 9, none⟩)) (hy : a.eval y = .agg (varr t r)) (hd : o.dst = none) (hC : OA w p z) (h : ∀ W, OA W p { z with vt := t, vp := r, vl := l } → Upd p w W → S W ∧ wpAnyH Tryz.prog md ops Q S fuel listed' a W) (hs : AllReadyH Tryz.prog md ops Q S fuel listed a w rs) : AllReadyH Tryz.prog md ops Q S fuel listed a w (i :: rs) := by
 refine rh_cons hi hl hg (fun K hK => ?_) hs
 refine wp_store_mid 34 x y ho p 9 _ hx hy (thereAt hC (by rw [Ax.size]; show 9 + 2 ≤ 13; decide)) (infoVl' t r) (varr_one t r) ?_
 rw [hd]
 obtain ⟨h1, h2⟩ := h _ (setsVal hC t r l) (setsUpd' w p 9 _)
 exact hK.out _ _ h1 h2
end
end Go.Proofs.YtplodoindppleaaGreat

import Derived.Test.YtplodoindppleaaGreatG18
namespace Go.Proofs.YtplodoindppleaaGreat
set_option linter.unusedVariables false
open Go.RowKit
open Go.Lib (hid)
section
variable {P : Program} {ops : Array Oper} {Q : Exit → Act → World → Prop} {md : Region.Mode} {g : Nat} {S0 S1 : World → Prop}
def GS (g : Nat) (S0 S1 : World → Prop) (L : Array Bool) (w : World) : Prop := S0 w ∧ (L.getD g true = true ∨ S1 w)
def wpAnyG (P : Program) (md : Region.Mode) (ops : Array Oper) (Q : Exit → Act → World → Prop) (g : Nat) (S0 S1 : World → Prop) : Nat → Array Bool → Act → World → Prop
 | 0, listed, a, w => Region.ready md ops listed = [] ∧ Q .normal a w
 | fuel + 1, listed, a, w =>
  (Region.ready md ops listed = [] → Q .normal a w) ∧
  ∀ i ∈ Region.ready md ops listed, wpOp P ops Q i (fun a' w' => GS g S0 S1 (listed.setIfInBounds i true) w' ∧ wpAnyG P md ops Q g S0 S1 fuel (listed.setIfInBounds i true) a' w') a w
theorem wpAny_of_gate : ∀ (fuel : Nat) (listed : Array Bool) (a : Act) (w : World), wpAnyG P md ops Q g S0 S1 fuel listed a w → wpAny P md ops Q fuel listed a w
 | 0, _, _, _, h => h
 | fuel + 1, _, _, _, h => ⟨h.1, fun i hi => wpOp_mono (fun a' w' h' => wpAny_of_gate fuel _ a' w' h'.2) (h.2 i hi)⟩
theorem GS.other {L : Array Bool} {i : Nat} {w : World} (h : i ≠ g) : GS g S0 S1 (L.setIfInBounds i true) w ↔ GS g S0 S1 L w := by
 unfold GS
 rw [getD_set_ne true h]
theorem wpAnyG_first {i : Nat} {oi : Oper} {v : Value} (hig : i ≠ g) (hi : ops[i]? = some oi) (hsel : ∀ (j : Nat) (o : Oper) cs b, ops[j]? = some o → o.op ≠ .select cs b)
 (hQ : ∀ c a w, Q (.panic c) (a.put oi.dst v) w → Q (.panic c) a w) (hw8 : ∀ og, ops[g]? = some og → ∃ e ∈ og.after, Region.binds md e = true ∧ e.on = i) :
 ∀ (fuel : Nat) (listed : Array Bool) (a : Act) (w : World),
  (∀ j oj, ops[j]? = some oj → j ≠ i → listed.getD j true = false → (∀ e ∈ oj.after, Region.binds md e = true → e.on ≠ i) → oi.apart ops oj = true) →
  i ∈ Region.ready md ops listed → YieldsIf P ops (fun w => S0 w ∧ S1 w) oi v a → GS g S0 S1 listed w → listed.getD g true = false →
  wpAnyG P md ops Q g S0 S1 fuel (listed.setIfInBounds i true) (a.put oi.dst v) w → wpAnyG P md ops Q g S0 S1 (fuel + 1) listed a w := by
 intro fuel
 induction fuel with
 | zero =>
  intro listed a w _ hr hy hS hg H
  refine ⟨fun h => (by rw [h] at hr; cases hr), fun j hj => ?_⟩
  by_cases hji : j = i
  · subst hji; exact hy.wpOp hi ⟨hS.1, hS.2.resolve_left (by rw [hg]; decide)⟩ ⟨(GS.other hig).2 hS, H⟩
  · have := ready_mono hj hji
    rw [H.1] at this
    cases this
 | succ fuel ih =>
  intro listed a w hfree hr hy hS hg H
  refine ⟨fun h => (by rw [h] at hr; cases hr), fun j hj => ?_⟩
  by_cases hji : j = i
  · subst hji; exact hy.wpOp hi ⟨hS.1, hS.2.resolve_left (by rw [hg]; decide)⟩ ⟨(GS.other hig).2 hS, H⟩
  · have h1 := H.2 j (ready_mono hj hji)
    obtain ⟨hjun, oj, hoj, hall⟩ := mem_ready.1 hj
    have hnot : ∀ e ∈ oj.after, Region.binds md e = true → e.on ≠ i := fun e he hb heq => by
     have h1 := hall e he hb
     have h0 := (mem_ready.1 hr).1
     rw [heq] at h1
     rcases Nat.lt_or_ge i listed.size with h' | h'
     · simp [h'] at h0 h1; rw [h0] at h1; cases h1
     · simp [Array.getElem?_eq_none h'] at h1
    have hjg : j ≠ g := fun e => by
     subst e
     obtain ⟨e, he, hb, ho⟩ := hw8 oj hoj
     exact hnot e he hb ho
    have h2 := wpOp_putIf hoj (hfree j oj hoj hji hjun hnot) (fun cs b => hsel i oi cs b hi) (fun cs b => hsel j oj cs b hoj) hQ hy h1
    have hfree' : ∀ k ok, ops[k]? = some ok → k ≠ i → (listed.setIfInBounds j true).getD k true = false →
     (∀ e ∈ ok.after, Region.binds md e = true → e.on ≠ i) → oi.apart ops ok = true := fun k ok hk hki hun hno => by
     refine hfree k ok hk hki ?_ hno
     by_cases hjk : j = k
     · subst hjk; exact hjun
     · rw [getD_set_ne true hjk] at hun; exact hun
    have hg2 : (listed.setIfInBounds j true).getD g true = false := by rw [getD_set_ne true hjg]; exact hg
    refine wpOp_mono (fun a' w' h3 => ?_) h2
    have h4 : GS g S0 S1 (listed.setIfInBounds j true) w' := by
     have := h3.2.1
     rw [Array.setIfInBounds_comm _ _ (Ne.symm hji), GS.other hig] at this
     exact this
    refine ⟨h4, ih (listed.setIfInBounds j true) a' w' hfree' (ready_mono hr (Ne.symm hji)) h3.1 h4 hg2 ?_⟩
    rw [Array.setIfInBounds_comm _ _ hji]
    exact h3.2.2
theorem wpAnyG_first0 {i : Nat} {oi : Oper} {v : Value} (hig : i ≠ g) (hi : ops[i]? = some oi) (hsel : ∀ (j : Nat) (o : Oper) cs b, ops[j]? = some o → o.op ≠ .select cs b)
 (hQ : ∀ c a w, Q (.panic c) (a.put oi.dst v) w → Q (.panic c) a w) :
 ∀ (fuel : Nat) (listed : Array Bool) (a : Act) (w : World),
  (∀ j oj, ops[j]? = some oj → j ≠ i → listed.getD j true = false → (∀ e ∈ oj.after, Region.binds md e = true → e.on ≠ i) → oi.apart ops oj = true) →
  i ∈ Region.ready md ops listed → YieldsIf P ops S0 oi v a → GS g S0 S1 listed w →
  wpAnyG P md ops Q g S0 S1 fuel (listed.setIfInBounds i true) (a.put oi.dst v) w → wpAnyG P md ops Q g S0 S1 (fuel + 1) listed a w := by
 intro fuel
 induction fuel with
 | zero =>
  intro listed a w _ hr hy hS H
  refine ⟨fun h => (by rw [h] at hr; cases hr), fun j hj => ?_⟩
  by_cases hji : j = i
  · subst hji; exact hy.wpOp hi hS.1 ⟨(GS.other hig).2 hS, H⟩
  · have := ready_mono hj hji
    rw [H.1] at this
    cases this
 | succ fuel ih =>
  intro listed a w hfree hr hy hS H
  refine ⟨fun h => (by rw [h] at hr; cases hr), fun j hj => ?_⟩
  by_cases hji : j = i
  · subst hji; exact hy.wpOp hi hS.1 ⟨(GS.other hig).2 hS, H⟩
  · have h1 := H.2 j (ready_mono hj hji)
    obtain ⟨hjun, oj, hoj, hall⟩ := mem_ready.1 hj
    have hnot : ∀ e ∈ oj.after, Region.binds md e = true → e.on ≠ i := fun e he hb heq => by
     have h1 := hall e he hb
     have h0 := (mem_ready.1 hr).1
     rw [heq] at h1
     rcases Nat.lt_or_ge i listed.size with h' | h'
     · simp [h'] at h0 h1; rw [h0] at h1; cases h1
     · simp [Array.getElem?_eq_none h'] at h1
    have h2 := wpOp_putIf hoj (hfree j oj hoj hji hjun hnot) (fun cs b => hsel i oi cs b hi) (fun cs b => hsel j oj cs b hoj) hQ hy h1
    have hfree' : ∀ k ok, ops[k]? = some ok → k ≠ i → (listed.setIfInBounds j true).getD k true = false →
     (∀ e ∈ ok.after, Region.binds md e = true → e.on ≠ i) → oi.apart ops ok = true := fun k ok hk hki hun hno => by
     refine hfree k ok hk hki ?_ hno
     by_cases hjk : j = k
     · subst hjk; exact hjun
     · rw [getD_set_ne true hjk] at hun; exact hun
    refine wpOp_mono (fun a' w' h3 => ?_) h2
    have h4 : GS g S0 S1 (listed.setIfInBounds j true) w' := by
     have := h3.2.1
     rw [Array.setIfInBounds_comm _ _ (Ne.symm hji), GS.other hig] at this
     exact this
    refine ⟨h4, ih (listed.setIfInBounds j true) a' w' hfree' (ready_mono hr (Ne.symm hji)) h3.1 h4 ?_⟩
    rw [Array.setIfInBounds_comm _ _ hji]
    exact h3.2.2
def gateOn (md : Region.Mode) (ops : Array Oper) (g i : Nat) : Bool := match ops[g]? with | some og => og.after.any (fun e => Region.binds md e && decide (e.on = i)) | none => true
theorem gateOn_spec {i : Nat} (h : gateOn md ops g i = true) : ∀ og, ops[g]? = some og → ∃ e ∈ og.after, Region.binds md e = true ∧ e.on = i := fun og ho => by
 unfold gateOn at h
 rw [ho] at h
 simp only [Array.any_eq_true'] at h
 obtain ⟨e, he, h⟩ := h
 simp only [Bool.and_eq_true, decide_eq_true_eq] at h
 exact ⟨e, he, h.1, h.2⟩
variable {i : Nat} {o : Oper} {fuel : Nat} {listed listed' : Array Bool} {a a' : Act} {w : World}
theorem rg_start {id n : Nat} (hm : P.follows .mixedOrders = true) (hn : ops.size = n) (hl : Array.replicate n false = listed) (h : wpAnyG P .any ops Q g S0 S1 n listed a w.drew) : (Code.region id ops true).wp P Q a w := by
 subst hn hl
 exact wp_region_any hm (wpAny_of_gate _ _ _ _ h)
theorem rg_take {v : Value} (hig : i ≠ g) (hi : ops[i]? = some o) (hs : Region.noSelect ops = true) (hf : Region.free md ops listed i = true) (hr : (Region.ready md ops listed).contains i = true)
 (hQ : ∀ c a w, Q (.panic c) (a.put o.dst v) w → Q (.panic c) a w) (hl : listed.setIfInBounds i true = listed') (hw : Region.wanted o (yielded ops a.tmps) = true) (hv : ∀ w, S0 w → (execOp a.eval o).run P w = .ok (.value v) w) (ha : a.put o.dst v = a') (hS : GS g S0 S1 listed w) (h : wpAnyG P md ops Q g S0 S1 fuel listed' a' w) : wpAnyG P md ops Q g S0 S1 (fuel + 1) listed a w := by
 subst hl ha
 exact wpAnyG_first0 hig hi (Region.noSelect_spec hs) hQ fuel listed a w (Region.free_spec hi hf) (by simpa using hr) (.inl ⟨hw, hv⟩) hS h
theorem rg_take1 {v : Value} (hig : i ≠ g) (hgo : gateOn md ops g i = true) (hgl : listed.getD g true = false) (hi : ops[i]? = some o) (hs : Region.noSelect ops = true) (hf : Region.free md ops listed i = true) (hr : (Region.ready md ops listed).contains i = true)
 (hQ : ∀ c a w, Q (.panic c) (a.put o.dst v) w → Q (.panic c) a w) (hl : listed.setIfInBounds i true = listed') (hw : Region.wanted o (yielded ops a.tmps) = true) (hv : ∀ w, S0 w ∧ S1 w → (execOp a.eval o).run P w = .ok (.value v) w) (ha : a.put o.dst v = a') (hS : GS g S0 S1 listed w) (h : wpAnyG P md ops Q g S0 S1 fuel listed' a' w) : wpAnyG P md ops Q g S0 S1 (fuel + 1) listed a w := by
 subst hl ha
 exact wpAnyG_first hig hi (Region.noSelect_spec hs) hQ (gateOn_spec hgo) fuel listed a w (Region.free_spec hi hf) (by simpa using hr) (.inl ⟨hw, hv⟩) hS hgl h
theorem rg_load {cs : List Value} {d : TypeDesc} {T : TypeId} {x : Operand} {b q : Nat} (hig : i ≠ g) (hgo : gateOn md ops g i = true) (hgl : listed.getD g true = false) (hi : ops[i]? = some o) (hs : Region.noSelect ops = true) (hf : Region.free md ops listed i = true) (hr : (Region.ready md ops listed).contains i = true)
 (hQ : ∀ c a w, Q (.panic c) (a.put o.dst (.agg cs.toArray)) w → Q (.panic c) a w) (hl : listed.setIfInBounds i true = listed') (hg : o.guard = none) (ho : o.op = .load T x) (hx : a.eval x = .pointer (some ⟨b, q, none⟩)) (hc : ∀ w, S0 w ∧ S1 w → w.rangeAt b q cs) (hu : P.underlying T = some d) (hd : d.isRow = true) (hz : (P.info? T).map (·.size) = some cs.length)
 (ha : a.put o.dst (.agg cs.toArray) = a') (hS : GS g S0 S1 listed w) (h : wpAnyG P md ops Q g S0 S1 fuel listed' a' w) : wpAnyG P md ops Q g S0 S1 (fuel + 1) listed a w := by
 subst hl ha
 exact wpAnyG_first hig hi (Region.noSelect_spec hs) hQ (gateOn_spec hgo) fuel listed a w (Region.free_spec hi hf) (by simpa using hr) (yieldsIf_load_mid (wanted_plain hg) T x ho b q hx cs d hc hu hd hz) hS hgl h
theorem rg_op (hr : Region.ready md ops listed = [i]) (hi : ops[i]? = some o) (hl : listed.setIfInBounds i true = listed') (hg : o.guard = none) (h : ∀ K' : Act → World → Prop, Shut (∀ a w, GS g S0 S1 listed' w → wpAnyG P md ops Q g S0 S1 fuel listed' a w → K' a w) → Oper.wp P o a w K' Q) : wpAnyG P md ops Q g S0 S1 (fuel + 1) listed a w := by
 subst hl
 refine ⟨fun h0 => (by rw [hr] at h0; cases h0), fun j hj => ?_⟩
 rw [hr] at hj
 obtain rfl := List.mem_singleton.1 hj
 unfold wpOp
 simp only [hi, wanted_plain hg, if_true]
 exact .inl (h _ (show Shut _ from fun a w h1 h2 => ⟨h1, h2⟩))
theorem rg_done (hr : Region.ready md ops listed = []) (h : Q .normal a w) : ∀ fuel, wpAnyG P md ops Q g S0 S1 fuel listed a w
 | 0 => ⟨hr, h⟩
 | _ + 1 => ⟨fun _ => h, by rw [hr]; simp⟩
end
section
variable {md : Region.Mode} {S0 S1 : World → Prop} {ops : Array Oper} {g i : Nat} {o : Oper} {fuel : Nat} {listed listed' : Array Bool} {a : Act} {w : World} {Q : Exit → Act → World → Prop} {x y : Operand} {b : Nat}
theorem rg_storeMV (m : Mg) (t : Int) (p : Sv) (hr : Region.ready md ops listed = [i]) (hi : ops[i]? = some o) (hl : listed.setIfInBounds i true = listed') (hg : o.guard = none) (ho : o.op = .store 34 x y)
 (hx : a.eval x = .pointer (some ⟨b, 11, none⟩)) (hy : a.eval y = .agg (varr t p)) (hd : o.dst = none) (hC : OM w b m) (h : ∀ W, OM W b { m with vt := t, vp := p } → Upd b w W → GS g S0 S1 listed' W ∧ wpAnyG Tryz.prog md ops Q g S0 S1 fuel listed' a W) : wpAnyG Tryz.prog md ops Q g S0 S1 (fuel + 1) listed a w := by
 refine rg_op hr hi hl hg fun K hK => ?_
 refine wp_store_mid 34 x y ho b 11 _ hx hy (thereAt hC (by rw [Mg.size]; show 11 + 2 ≤ 20; decide)) (infoVl' t p) (varr_one t p) ?_
 rw [hd]
 obtain ⟨h1, h2⟩ := h _ (setsMV hC t p) (setsUpd' w b 11 _)
 exact hK.out _ _ h1 h2
theorem rg_storeMA (m : Mg) (t : Int) (p : Sv) (hr : Region.ready md ops listed = [i]) (hi : ops[i]? = some o) (hl : listed.setIfInBounds i true = listed') (hg : o.guard = none) (ho : o.op = .store 34 x y)
 (hx : a.eval x = .pointer (some ⟨b, 16, none⟩)) (hy : a.eval y = .agg (varr t p)) (hd : o.dst = none) (hC : OM w b m) (h : ∀ W, OM W b { m with xt := t, xp := p } → Upd b w W → GS g S0 S1 listed' W ∧ wpAnyG Tryz.prog md ops Q g S0 S1 fuel listed' a W) : wpAnyG Tryz.prog md ops Q g S0 S1 (fuel + 1) listed a w := by
 refine rg_op hr hi hl hg fun K hK => ?_
 refine wp_store_mid 34 x y ho b 16 _ hx hy (thereAt hC (by rw [Mg.size]; show 16 + 2 ≤ 20; decide)) (infoVl' t p) (varr_one t p) ?_
 rw [hd]
 obtain ⟨h1, h2⟩ := h _ (setsMA hC t p) (setsUpd' w b 16 _)
 exact hK.out _ _ h1 h2
theorem rg_storeMF (m : Mg) (t : Int) (p : Sv) (hr : Region.ready md ops listed = [i]) (hi : ops[i]? = some o) (hl : listed.setIfInBounds i true = listed') (hg : o.guard = none) (ho : o.op = .store 34 x y)
 (hx : a.eval x = .pointer (some ⟨b, 18, none⟩)) (hy : a.eval y = .agg (varr t p)) (hd : o.dst = none) (hC : OM w b m) (h : ∀ W, OM W b { m with ft := t, fp := p } → Upd b w W → GS g S0 S1 listed' W ∧ wpAnyG Tryz.prog md ops Q g S0 S1 fuel listed' a W) : wpAnyG Tryz.prog md ops Q g S0 S1 (fuel + 1) listed a w := by
 refine rg_op hr hi hl hg fun K hK => ?_
 refine wp_store_mid 34 x y ho b 18 _ hx hy (thereAt hC (by rw [Mg.size]; show 18 + 2 ≤ 20; decide)) (infoVl' t p) (varr_one t p) ?_
 rw [hd]
 obtain ⟨h1, h2⟩ := h _ (setsMF hC t p) (setsUpd' w b 18 _)
 exact hK.out _ _ h1 h2
theorem rg_bsM (m : Mg) (hr : Region.ready md ops listed = [i]) (hi : ops[i]? = some o) (hl : listed.setIfInBounds i true = listed') (hg : o.guard = none) (ho : o.op = .buildSlice 37 1 #[(0, x)]) (hx : a.eval x = .agg m.arr)
 (h : ∀ W, OM W w.heap.size m → Below w.heap.size w W → GS g S0 S1 listed' W ∧ wpAnyG Tryz.prog md ops Q g S0 S1 fuel listed' (a.put o.dst (.slice (some ⟨w.heap.size, 0, none⟩) 1 1)) W) : wpAnyG Tryz.prog md ops Q g S0 S1 (fuel + 1) listed a w := by
 refine rg_op hr hi hl hg fun K hK => ?_
 unfold Oper.wp execOp
 simp only [ho, List.map_toArray, List.map_cons, List.map_nil, hx, Sem.run_bind, run_bs1 Tryz.underlying37 Tryz.sizeOf48 Tryz.zeroValue48 (Mg.size m) (by decide) (by decide) w, Result.andThen_ok]
 obtain ⟨h1, h2⟩ := h _ (heap_alloc_new w _) ((Below.refl _ w).alloc (Nat.le_refl _) _)
 exact hK.out _ _ h1 h2
theorem rg_append (hr : Region.ready md ops listed = [i]) (hi : ops[i]? = some o) (hl : listed.setIfInBounds i true = listed') (hg : o.guard = none) (s : Operand) (ho : o.op = .call { callee := .builtin .append, args := #[s, x], argTypes := #[37, 37] })
 (B : Nat) (v : Value) (ps : List Mg) (hs : a.eval s = v) (hown : OwnM w B v ps) (ad : Addr) (m c : Nat) (z : Mg) (hx : a.eval x = .slice (some ad) m c) (h2 : SlM w (.slice (some ad) m c) [z]) (hlen : ps.length ≤ 100000) (hbase : B ≤ w.heap.size)
 (h : ∀ v' w', OwnM w' B v' (ps ++ [z]) → w.grownBy w' v.ownBlock → Fr w.heap.size v v' → GS g S0 S1 listed' w' ∧ wpAnyG Tryz.prog md ops Q g S0 S1 fuel listed' (a.put o.dst v') w') : wpAnyG Tryz.prog md ops Q g S0 S1 (fuel + 1) listed a w := by
 refine rg_op hr hi hl hg fun K hK => ?_
 have := step_append_ms (E := True) (Q := Q) (K := K) (ops := ops) hg s x ho B v ps hs hown ad m c z hx h2 hlen hbase fun v' w' h1 h2 h3 => by
  obtain ⟨h4, h5⟩ := h v' w' h1 h2 h3
  exact hK.out _ _ h4 h5
 rwa [if_pos (wanted_plain hg)] at this
theorem rg_storeAs {p : Nat} (z z' : Ax) (v : Sv) (hr : Region.ready md ops listed = [i]) (hi : ops[i]? = some o) (hl : listed.setIfInBounds i true = listed') (hg : o.guard = none) (ho : o.op = .store 37 x y)
 (hx : a.eval x = .pointer (some ⟨p, 12, none⟩)) (hy : a.eval y = .slice v.a v.n v.c) (hd : o.dst = none) (hC : OA w p z) (he : z.arr.setIfInBounds 12 (.slice v.a v.n v.c) = z'.arr) (h : ∀ W, OA W p z' → Upd p w W → GS g S0 S1 listed' W ∧ wpAnyG Tryz.prog md ops Q g S0 S1 fuel listed' a W) : wpAnyG Tryz.prog md ops Q g S0 S1 (fuel + 1) listed a w := by
 refine rg_op hr hi hl hg fun K hK => ?_
 obtain ⟨h1, h2⟩ := h _ (hC.set he) (setsUpd' w p 12 [.slice v.a v.n v.c])
 have hr := hK.out _ _ h1 h2
 have hc : w.cell? ⟨p, 12, none⟩ = some (z.arr[12]'(by rw [Ax.size]; decide)) := (cellAt' hC 12).trans (Array.getElem?_eq_getElem _)
 have hf := frozenAt hC 12
 unfold Oper.wp execOp
 simp only [ho, hx, hy]
 have hr2 : K a (w.setCell ⟨p, 12, none⟩ (.slice v.a v.n v.c)) := hr
 go_simp
 exact hr2
end
end Go.Proofs.YtplodoindppleaaGreat

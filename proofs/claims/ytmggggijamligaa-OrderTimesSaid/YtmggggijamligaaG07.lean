import Derived.Test.YtmggggijamligaaG05
import Derived.OrdersHeld
import Derived.Test.YtmggggijamligaaYEntZm
namespace Go.Proofs.Ytmggggijamligaa
set_option linter.unusedVariables false
open Go.RowKit
open Go.Lib (hid)
section
variable {P : Program} {ops : Array Oper} {Q : Exit → Act → World → Prop} {md : Region.Mode} {g : Nat} {S0 S1 : World → Prop}
def GS (g : Nat) (S0 S1 : World → Prop) (L : Array Bool) (w : World) : Prop := S0 w ∧ (L.getD g true = true ∨ S1 w)
def wpAnyG (P : Program) (md : Region.Mode) (ops : Array Oper) (Q : Exit → Act → World → Prop) (g : Nat) (S0 S1 : World → Prop) : Nat → Array Bool → Act → World → Prop
  | 0, listed, a, w => Region.ready md ops listed = [] ∧ Q .normal a w
  | fuel + 1, listed, a, w =>
    (Region.ready md ops listed = [] → Q .normal a w) ∧
    ∀ i ∈ Region.ready md ops listed, wpOp P ops Q i (fun a' w' => GS g S0 S1 (listed.setIfInBounds i true) w' ∧ wpAnyG P md ops Q g S0 S1 fuel (listed.setIfInBounds i true) a' w') a w
theorem wpAny_of_gate : ∀ (fuel : Nat) (listed : Array Bool) (a : Act) (w : World), wpAnyG P md ops Q g S0 S1 fuel listed a w → wpAny P md ops Q fuel listed a w
  | 0, _, _, _, h => h
  | fuel + 1, _, _, _, h => ⟨h.1, fun i hi => wpOp_mono (fun a' w' h' => wpAny_of_gate fuel _ a' w' h'.2) (h.2 i hi)⟩
theorem GS.other {L : Array Bool} {i : Nat} {w : World} (h : i ≠ g) : GS g S0 S1 (L.setIfInBounds i true) w ↔ GS g S0 S1 L w := by
  unfold GS
  rw [getD_set_ne true h]
theorem wpAnyG_first {i : Nat} {oi : Oper} {v : Value} (hig : i ≠ g) (hi : ops[i]? = some oi) (hsel : ∀ (j : Nat) (o : Oper) cs b, ops[j]? = some o → o.op ≠ .select cs b)
    (hQ : ∀ c a w, Q (.panic c) (a.put oi.dst v) w → Q (.panic c) a w) (hw8 : ∀ og, ops[g]? = some og → ∃ e ∈ og.after, Region.binds md e = true ∧ e.on = i) :
    ∀ (fuel : Nat) (listed : Array Bool) (a : Act) (w : World),
      (∀ j oj, ops[j]? = some oj → j ≠ i → listed.getD j true = false → (∀ e ∈ oj.after, Region.binds md e = true → e.on ≠ i) → oi.apart ops oj = true) →
      i ∈ Region.ready md ops listed → YieldsIf P ops (fun w => S0 w ∧ S1 w) oi v a → GS g S0 S1 listed w → listed.getD g true = false →
      wpAnyG P md ops Q g S0 S1 fuel (listed.setIfInBounds i true) (a.put oi.dst v) w → wpAnyG P md ops Q g S0 S1 (fuel + 1) listed a w := by
  intro fuel
  induction fuel with
  | zero =>
    intro listed a w _ hr hy hS hg H
    refine ⟨fun h => (by rw [h] at hr; cases hr), fun j hj => ?_⟩
    by_cases hji : j = i
    · subst hji; exact hy.wpOp hi ⟨hS.1, hS.2.resolve_left (by rw [hg]; decide)⟩ ⟨(GS.other hig).2 hS, H⟩
    · have := ready_mono hj hji
      rw [H.1] at this
      cases this
  | succ fuel ih =>
    intro listed a w hfree hr hy hS hg H
    refine ⟨fun h => (by rw [h] at hr; cases hr), fun j hj => ?_⟩
    by_cases hji : j = i
    · subst hji; exact hy.wpOp hi ⟨hS.1, hS.2.resolve_left (by rw [hg]; decide)⟩ ⟨(GS.other hig).2 hS, H⟩
    · have h1 := H.2 j (ready_mono hj hji)
      obtain ⟨hjun, oj, hoj, hall⟩ := mem_ready.1 hj
      have hnot : ∀ e ∈ oj.after, Region.binds md e = true → e.on ≠ i := fun e he hb heq => by
        have h1 := hall e he hb
        have h0 := (mem_ready.1 hr).1
        rw [heq] at h1
        rcases Nat.lt_or_ge i listed.size with h' | h'
        · simp [h'] at h0 h1; rw [h0] at h1; cases h1
        · simp [Array.getElem?_eq_none h'] at h1
      have hjg : j ≠ g := fun e => by
        subst e
        obtain ⟨e, he, hb, ho⟩ := hw8 oj hoj
        exact hnot e he hb ho
      have h2 := wpOp_putIf hoj (hfree j oj hoj hji hjun hnot) (fun cs b => hsel i oi cs b hi) (fun cs b => hsel j oj cs b hoj) hQ hy h1
      have hfree' : ∀ k ok, ops[k]? = some ok → k ≠ i → (listed.setIfInBounds j true).getD k true = false →
          (∀ e ∈ ok.after, Region.binds md e = true → e.on ≠ i) → oi.apart ops ok = true := fun k ok hk hki hun hno => by
        refine hfree k ok hk hki ?_ hno
        by_cases hjk : j = k
        · subst hjk; exact hjun
        · rw [getD_set_ne true hjk] at hun; exact hun
      have hg2 : (listed.setIfInBounds j true).getD g true = false := by rw [getD_set_ne true hjg]; exact hg
      refine wpOp_mono (fun a' w' h3 => ?_) h2
      have h4 : GS g S0 S1 (listed.setIfInBounds j true) w' := by
        have := h3.2.1
        rw [Array.setIfInBounds_comm _ _ (Ne.symm hji), GS.other hig] at this
        exact this
      refine ⟨h4, ih (listed.setIfInBounds j true) a' w' hfree' (ready_mono hr (Ne.symm hji)) h3.1 h4 hg2 ?_⟩
      rw [Array.setIfInBounds_comm _ _ hji]
      exact h3.2.2
theorem wpAnyG_first0 {i : Nat} {oi : Oper} {v : Value} (hig : i ≠ g) (hi : ops[i]? = some oi) (hsel : ∀ (j : Nat) (o : Oper) cs b, ops[j]? = some o → o.op ≠ .select cs b)
    (hQ : ∀ c a w, Q (.panic c) (a.put oi.dst v) w → Q (.panic c) a w) :
    ∀ (fuel : Nat) (listed : Array Bool) (a : Act) (w : World),
      (∀ j oj, ops[j]? = some oj → j ≠ i → listed.getD j true = false → (∀ e ∈ oj.after, Region.binds md e = true → e.on ≠ i) → oi.apart ops oj = true) →
      i ∈ Region.ready md ops listed → YieldsIf P ops S0 oi v a → GS g S0 S1 listed w →
      wpAnyG P md ops Q g S0 S1 fuel (listed.setIfInBounds i true) (a.put oi.dst v) w → wpAnyG P md ops Q g S0 S1 (fuel + 1) listed a w := by
  intro fuel
  induction fuel with
  | zero =>
    intro listed a w _ hr hy hS H
    refine ⟨fun h => (by rw [h] at hr; cases hr), fun j hj => ?_⟩
    by_cases hji : j = i
    · subst hji; exact hy.wpOp hi hS.1 ⟨(GS.other hig).2 hS, H⟩
    · have := ready_mono hj hji
      rw [H.1] at this
      cases this
  | succ fuel ih =>
    intro listed a w hfree hr hy hS H
    refine ⟨fun h => (by rw [h] at hr; cases hr), fun j hj => ?_⟩
    by_cases hji : j = i
    · subst hji; exact hy.wpOp hi hS.1 ⟨(GS.other hig).2 hS, H⟩
    · have h1 := H.2 j (ready_mono hj hji)
      obtain ⟨hjun, oj, hoj, hall⟩ := mem_ready.1 hj
      have hnot : ∀ e ∈ oj.after, Region.binds md e = true → e.on ≠ i := fun e he hb heq => by
        have h1 := hall e he hb
        have h0 := (mem_ready.1 hr).1
        rw [heq] at h1
        rcases Nat.lt_or_ge i listed.size with h' | h'
        · simp [h'] at h0 h1; rw [h0] at h1; cases h1
        · simp [Array.getElem?_eq_none h'] at h1
      have h2 := wpOp_putIf hoj (hfree j oj hoj hji hjun hnot) (fun cs b => hsel i oi cs b hi) (fun cs b => hsel j oj cs b hoj) hQ hy h1
      have hfree' : ∀ k ok, ops[k]? = some ok → k ≠ i → (listed.setIfInBounds j true).getD k true = false →
          (∀ e ∈ ok.after, Region.binds md e = true → e.on ≠ i) → oi.apart ops ok = true := fun k ok hk hki hun hno => by
        refine hfree k ok hk hki ?_ hno
        by_cases hjk : j = k
        · subst hjk; exact hjun
        · rw [getD_set_ne true hjk] at hun; exact hun
      refine wpOp_mono (fun a' w' h3 => ?_) h2
      have h4 : GS g S0 S1 (listed.setIfInBounds j true) w' := by
        have := h3.2.1
        rw [Array.setIfInBounds_comm _ _ (Ne.symm hji), GS.other hig] at this
        exact this
      refine ⟨h4, ih (listed.setIfInBounds j true) a' w' hfree' (ready_mono hr (Ne.symm hji)) h3.1 h4 ?_⟩
      rw [Array.setIfInBounds_comm _ _ hji]
      exact h3.2.2
def gateOn (md : Region.Mode) (ops : Array Oper) (g i : Nat) : Bool := match ops[g]? with | some og => og.after.any (fun e => Region.binds md e && decide (e.on = i)) | none => true
theorem gateOn_spec {i : Nat} (h : gateOn md ops g i = true) : ∀ og, ops[g]? = some og → ∃ e ∈ og.after, Region.binds md e = true ∧ e.on = i := fun og ho => by
  unfold gateOn at h
  rw [ho] at h
  simp only [Array.any_eq_true'] at h
  obtain ⟨e, he, h⟩ := h
  simp only [Bool.and_eq_true, decide_eq_true_eq] at h
  exact ⟨e, he, h.1, h.2⟩
variable {i : Nat} {o : Oper} {fuel : Nat} {listed listed' : Array Bool} {a a' : Act} {w : World}
theorem rg_start {id n : Nat} (hm : P.follows .mixedOrders = true) (hn : ops.size = n) (hl : Array.replicate n false = listed) (h : wpAnyG P .any ops Q g S0 S1 n listed a w.drew) : (Code.region id ops true).wp P Q a w := by
  subst hn hl
  exact wp_region_any hm (wpAny_of_gate _ _ _ _ h)
theorem rg_take {v : Value} (hig : i ≠ g) (hi : ops[i]? = some o) (hs : Region.noSelect ops = true) (hf : Region.free md ops listed i = true) (hr : (Region.ready md ops listed).contains i = true)
    (hQ : ∀ c a w, Q (.panic c) (a.put o.dst v) w → Q (.panic c) a w) (hl : listed.setIfInBounds i true = listed') (hw : Region.wanted o (yielded ops a.tmps) = true) (hv : ∀ w, S0 w → (execOp a.eval o).run P w = .ok (.value v) w) (ha : a.put o.dst v = a') (hS : GS g S0 S1 listed w) (h : wpAnyG P md ops Q g S0 S1 fuel listed' a' w) : wpAnyG P md ops Q g S0 S1 (fuel + 1) listed a w := by
  subst hl ha
  exact wpAnyG_first0 hig hi (Region.noSelect_spec hs) hQ fuel listed a w (Region.free_spec hi hf) (by simpa using hr) (.inl ⟨hw, hv⟩) hS h
theorem rg_take1 {v : Value} (hig : i ≠ g) (hgo : gateOn md ops g i = true) (hgl : listed.getD g true = false) (hi : ops[i]? = some o) (hs : Region.noSelect ops = true) (hf : Region.free md ops listed i = true) (hr : (Region.ready md ops listed).contains i = true)
    (hQ : ∀ c a w, Q (.panic c) (a.put o.dst v) w → Q (.panic c) a w) (hl : listed.setIfInBounds i true = listed') (hw : Region.wanted o (yielded ops a.tmps) = true) (hv : ∀ w, S0 w ∧ S1 w → (execOp a.eval o).run P w = .ok (.value v) w) (ha : a.put o.dst v = a') (hS : GS g S0 S1 listed w) (h : wpAnyG P md ops Q g S0 S1 fuel listed' a' w) : wpAnyG P md ops Q g S0 S1 (fuel + 1) listed a w := by
  subst hl ha
  exact wpAnyG_first hig hi (Region.noSelect_spec hs) hQ (gateOn_spec hgo) fuel listed a w (Region.free_spec hi hf) (by simpa using hr) (.inl ⟨hw, hv⟩) hS hgl h
theorem rg_load {cs : List Value} {d : TypeDesc} {T : TypeId} {x : Operand} {b q : Nat} (hig : i ≠ g) (hgo : gateOn md ops g i = true) (hgl : listed.getD g true = false) (hi : ops[i]? = some o) (hs : Region.noSelect ops = true) (hf : Region.free md ops listed i = true) (hr : (Region.ready md ops listed).contains i = true)
    (hQ : ∀ c a w, Q (.panic c) (a.put o.dst (.agg cs.toArray)) w → Q (.panic c) a w) (hl : listed.setIfInBounds i true = listed') (hg : o.guard = none) (ho : o.op = .load T x) (hx : a.eval x = .pointer (some ⟨b, q, none⟩)) (hc : ∀ w, S0 w ∧ S1 w → w.rangeAt b q cs) (hu : P.underlying T = some d) (hd : d.isRow = true) (hz : (P.info? T).map (·.size) = some cs.length)
    (ha : a.put o.dst (.agg cs.toArray) = a') (hS : GS g S0 S1 listed w) (h : wpAnyG P md ops Q g S0 S1 fuel listed' a' w) : wpAnyG P md ops Q g S0 S1 (fuel + 1) listed a w := by
  subst hl ha
  exact wpAnyG_first hig hi (Region.noSelect_spec hs) hQ (gateOn_spec hgo) fuel listed a w (Region.free_spec hi hf) (by simpa using hr) (yieldsIf_load_mid (wantedP hg) T x ho b q hx cs d hc hu hd hz) hS hgl h
theorem rg_op (hr : Region.ready md ops listed = [i]) (hi : ops[i]? = some o) (hl : listed.setIfInBounds i true = listed') (hg : o.guard = none) (h : ∀ K' : Act → World → Prop, Shut (∀ a w, GS g S0 S1 listed' w → wpAnyG P md ops Q g S0 S1 fuel listed' a w → K' a w) → Oper.wp P o a w K' Q) : wpAnyG P md ops Q g S0 S1 (fuel + 1) listed a w := by
  subst hl
  refine ⟨fun h0 => (by rw [hr] at h0; cases h0), fun j hj => ?_⟩
  rw [hr] at hj
  obtain rfl := List.mem_singleton.1 hj
  unfold wpOp
  simp only [hi, wantedP hg, if_true]
  exact .inl (h _ (show Shut _ from fun a w h1 h2 => ⟨h1, h2⟩))
theorem rg_done (hr : Region.ready md ops listed = []) (h : Q .normal a w) : ∀ fuel, wpAnyG P md ops Q g S0 S1 fuel listed a w
  | 0 => ⟨hr, h⟩
  | _ + 1 => ⟨fun _ => h, by rw [hr]; simp⟩
end
section
variable {P : Program} {ops : Array Oper} {Q : Exit → Act → World → Prop} {md : Region.Mode} {g : Nat} {S0 S1 : World → Prop} {fuel : Nat} {listed : Array Bool} {a : Act} {w : World}
theorem gt (i : Nat) {o : Oper} {v : Value} {l' : Array Bool} {a' : Act} (hS : GS g S0 S1 listed w) (h : wpAnyG P md ops Q g S0 S1 fuel l' a' w) (hi : ops[i]? = some o := by (simp only [gA, gB, gC]; try rfl)) (hl : listed.setIfInBounds i true = l' := by (simp only [gD, gE, gF]; try rfl))
    (hv : ∀ w, S0 w → (execOp a.eval o).run P w = .ok (.value v) w := by (intro W hW; go_simp; try with_reducible rfl)) (ha : a.put o.dst v = a' := by (simp only [Act.put, gD, gE, gF]; try rfl))
    (hw : Region.wanted o (yielded ops a.tmps) = true := by rfl) (hQ : ∀ c a w, Q (.panic c) (a.put o.dst v) w → Q (.panic c) a w := by exact fun _ _ _ h => h) (hig : i ≠ g := by decide)
    (hs : Region.noSelect ops = true := by kernel_rfl) (hf : Region.free md ops listed i = true := by kernel_rfl) (hr : (Region.ready md ops listed).contains i = true := by kernel_rfl) : wpAnyG P md ops Q g S0 S1 (fuel + 1) listed a w :=
  rg_take hig hi hs hf hr hQ hl hw hv ha hS h
theorem gt1 (i : Nat) {o : Oper} {v : Value} {l' : Array Bool} {a' : Act} (hS : GS g S0 S1 listed w) (h : wpAnyG P md ops Q g S0 S1 fuel l' a' w) (hi : ops[i]? = some o := by (simp only [gA, gB, gC]; try rfl)) (hl : listed.setIfInBounds i true = l' := by (simp only [gD, gE, gF]; try rfl))
    (hv : ∀ w, S0 w ∧ S1 w → (execOp a.eval o).run P w = .ok (.value v) w := by (intro W hW; go_simp; try with_reducible rfl)) (ha : a.put o.dst v = a' := by (simp only [Act.put, gD, gE, gF]; try rfl))
    (hw : Region.wanted o (yielded ops a.tmps) = true := by rfl) (hQ : ∀ c a w, Q (.panic c) (a.put o.dst v) w → Q (.panic c) a w := by exact fun _ _ _ h => h) (hig : i ≠ g := by decide) (hgo : gateOn md ops g i = true := by kernel_rfl) (hgl : listed.getD g true = false := by rfl)
    (hs : Region.noSelect ops = true := by kernel_rfl) (hf : Region.free md ops listed i = true := by kernel_rfl) (hr : (Region.ready md ops listed).contains i = true := by kernel_rfl) : wpAnyG P md ops Q g S0 S1 (fuel + 1) listed a w :=
  rg_take1 hig hgo hgl hi hs hf hr hQ hl hw hv ha hS h
theorem gl (i : Nat) (cs : List Value) (b q : Nat) {o : Oper} {T : TypeId} {x : Operand} {d : TypeDesc} {l' : Array Bool} {a' : Act} (hc : ∀ w, S0 w ∧ S1 w → w.rangeAt b q cs) (hu : P.underlying T = some d) (hS : GS g S0 S1 listed w) (h : wpAnyG P md ops Q g S0 S1 fuel l' a' w) (hi : ops[i]? = some o := by (simp only [gA, gB, gC]; try rfl)) (hl : listed.setIfInBounds i true = l' := by (simp only [gD, gE, gF]; try rfl)) (ho : o.op = .load T x := by rfl) (hx : a.eval x = .pointer (some ⟨b, q, none⟩) := by rfl) (ha : a.put o.dst (.agg cs.toArray) = a' := by (simp only [Act.put, gD, gE, gF]; try rfl)) (hd : d.isRow = true := by rfl) (hz : (P.info? T).map (·.size) = some cs.length := by kernel_rfl)
    (hg : o.guard = none := by rfl) (hQ : ∀ c a w, Q (.panic c) (a.put o.dst (.agg cs.toArray)) w → Q (.panic c) a w := by exact fun _ _ _ h => h) (hig : i ≠ g := by decide) (hgo : gateOn md ops g i = true := by kernel_rfl) (hgl : listed.getD g true = false := by rfl)
    (hs : Region.noSelect ops = true := by kernel_rfl) (hf : Region.free md ops listed i = true := by kernel_rfl) (hr : (Region.ready md ops listed).contains i = true := by kernel_rfl) : wpAnyG P md ops Q g S0 S1 (fuel + 1) listed a w :=
  rg_load hig hgo hgl hi hs hf hr hQ hl hg ho hx hc hu hd hz ha hS h
theorem go1 (i : Nat) {o : Oper} {l' : Array Bool} (h : ∀ K' : Act → World → Prop, Shut (∀ a w, GS g S0 S1 l' w → wpAnyG P md ops Q g S0 S1 fuel l' a w → K' a w) → Oper.wp P o a w K' Q) (hi : ops[i]? = some o := by (simp only [gA, gB, gC]; try rfl)) (hl : listed.setIfInBounds i true = l' := by (simp only [gD, gE, gF]; try rfl)) (hg : o.guard = none := by rfl) (hr : Region.ready md ops listed = [i] := by kernel_rfl) : wpAnyG P md ops Q g S0 S1 (fuel + 1) listed a w :=
  rg_op hr hi hl hg h
end
end Go.Proofs.Ytmggggijamligaa
namespace Go.Proofs.Ytmggggijamligaa
set_option linter.unusedVariables false
open Go.RowKit
open Go.Lib (hid)
theorem HpAt.R_lt {W : World} {B R : Nat} {rc : Array Value} {tv : Value} {tu : List Tn} (h : HpAt W B R rc tv tu) : R < W.heap.size := (Array.getElem?_eq_some_iff.1 h.blk).1
def HpS (R : Nat) (tv : Value) : Nat → Prop := fun k => k = R ∨ tv.ownBlock = some k
theorem obOn {w w' : World} {k : Nat} {o : Obj} {B : Nat} (h : w.heap[k]? = some o) (hb : Below B w w') (hk : k < B) : w'.heap[k]? = some o := (hb.block k hk).trans h
theorem frozenR {W : World} {R : Nat} {rc : Array Value} {T : TypeId} (h : W.heap[R]? = some (.cells rc T (0, 0))) (j : Nat) : W.frozen? ⟨R, j, none⟩ = false := frozen_of_row W R j rc T h
theorem setR {W : World} {R : Nat} {rc : Array Value} {T : TypeId} (h : W.heap[R]? = some (.cells rc T (0, 0))) (j : Nat) (u : Value) : (W.setCell ⟨R, j, none⟩ u).heap[R]? = some (.cells (rc.setIfInBounds j u) T (0, 0)) := heap_setCell_same W R j rc T u h
theorem wp_append_t1 {w : World} {o : Oper} {a : Act} {K : Act → World → Prop} {Q : Exit → Act → World → Prop} (s x : Operand) (ho : o.op = .call { callee := .builtin .append, args := #[s, x], argTypes := #[71, 71] })
    (B : Nat) (v : Value) (ps : List Tn) (hs : a.eval s = v) (hown : OwnT w B v ps) (p : Nat) (d : Tn) (hx : a.eval x = .slice (some ⟨p, 0, none⟩) 1 1) (h2 : w.heap[p]? = some (.cells (tnC d).toArray 81 (0, 0))) (hlen : ps.length ≤ 1000000) (hbase : B ≤ w.heap.size)
    (h : ∀ v' w', OwnT w' B v' (ps ++ [d]) → w.grownBy w' v.ownBlock → (v'.ownBlock = v.ownBlock ∨ v'.ownBlock = some w.heap.size) → K (a.put o.dst v') w') : o.wp Try.prog a w K Q := by
  obtain ⟨i0, hi, hz0, hz1, hz2⟩ := info_parts Try.infoT
  obtain ⟨v', w', hr, ho', hg, _, hat⟩ := run_append_own_at (P := Try.prog) w B 71 o.type 81 i0 _ 2 16 Try.underlying71 hi hz0 hz1 hz2 rfl (by decide) v ps.length (flatG tnC ps) hown ⟨p, 0, none⟩ 1 1 (tnC d) rfl (fun j u hu => by rw [addr_add, cellAt' h2 j, ← Array.getElem?_toList]; exact hu) (oneT d) (by unfold maxLen; omega) (by omega) hbase
  unfold Oper.wp execOp
  simp only [ho, resolve, invoke, builtin, Sem.run_bind, Sem.run_pure, Result.andThen_ok, List.map_toArray, List.map_cons, List.map_nil, hs, hx, hr]
  exact h v' w' (by show World.ownsRow _ _ _ _ _ _ _; rw [flatG_append, flatG_one, List.length_append]; exact ho') hg hat
theorem as_turn (v : Value) (w : World) : (Instr.typeAssert (.iface 81 v) 20 81 false).run Try.prog w = .ok v w := by kernel_rfl
set_option maxHeartbeats 4000000 in
set_option maxRecDepth 100000 in
theorem cPushT {w : World} {B R : Nat} {rc : Array Value} {tv : Value} {l : List Tn} (h : HpAt w B R rc tv l) (hl : l.length ≤ 1000000) (hB : B ≤ w.heap.size) (x : Tn) : Calls Try.prog 58 #[.pointer (some ⟨R, 5, none⟩), .iface 81 (.agg (tnC x).toArray)] w fun e w' => e = .returned (.tuple #[]) ∧ ∃ tv', HpAt w' B R (rc.setIfInBounds 5 tv') tv' (l ++ [x]) ∧ Tch (HpS R tv) w w' ∧ (tv'.ownBlock = tv.ownBlock ∨ ∃ g, tv'.ownBlock = some g ∧ w.heap.size ≤ g) := by
  have HH := hid h
  have HL := hid hl
  have HBB := hid hB
  obtain ⟨ga, ca, na, htv, -⟩ := h.own.asSlice
  subst htv
  clear h hl hB
  have ha := as_turn (.agg (tnC x).toArray)
  go_enter Try.func58, Try.ntmps58
  refine rg_start (g := 9) (S0 := fun _ => True) (S1 := fun W => W.cell? ⟨R, 5, none⟩ = some (.slice ga na ca)) (n := 10) (listed := #[false, false, false, false, false, false, false, false, false, false]) (by kernel_rfl) (by rfl) (by rfl) ?_
  have HHD : Hid (HpAt w.drew B R rc (.slice ga na ca) l) := hid ⟨HH.out.blk, HH.out.at5, HH.out.own⟩
  have HSZ : Hid (w.drew.heap.size = w.heap.size) := hid rfl
  have HTD : Hid (Tch (HpS R (.slice ga na ca)) w w.drew) := hid (Tch.refl _ w).drew
  generalize w.drew = wd at HHD HSZ HTD ⊢
  have gs : ∀ {L : Array Bool} {W : World}, W.cell? ⟨R, 5, none⟩ = some (.slice ga na ca) → GS 9 (fun _ => True) (fun W => W.cell? ⟨R, 5, none⟩ = some (.slice ga na ca)) L W := fun h => ⟨trivial, .inr h⟩
  refine gt 0 (gs HHD.out.cell) ?_
  refine gt 1 (gs HHD.out.cell) ?_
  refine gt 2 (gs HHD.out.cell) ?_
  refine gt1 3 (gs HHD.out.cell) ?_ (hv := by (intro W hW; have c5 := hW.2; go_simp; try with_reducible rfl))
  refine gt 4 (gs HHD.out.cell) ?_
  refine gt 5 (gs HHD.out.cell) ?_
  refine go1 6 ?_
  intro K hK
  refine wp_bs1 (tnC x).toArray rfl rfl Try.underlying71 Try.sizeOf81 Try.zeroValue81 rfl (by decide) (by decide) ?_
  have HBA : Hid (Below wd.heap.size wd (wd.alloc (.cells (tnC x).toArray 81))) := hid ((Below.refl _ wd).alloc (Nat.le_refl _) _)
  have HNA : Hid ((wd.alloc (.cells (tnC x).toArray 81)).heap[wd.heap.size]? = some (.cells (tnC x).toArray 81 (0, 0))) := hid (heap_alloc_new wd _)
  generalize wd.alloc (.cells (tnC x).toArray 81) = wa at HBA HNA ⊢
  have HHA : Hid (HpAt wa B R rc (.slice ga na ca) l) := hid ⟨obOn HHD.out.blk HBA.out HHD.out.R_lt, HHD.out.at5, HHD.out.own.on HBA.out⟩
  refine hK.out _ _ (gs HHA.out.cell) ?_
  clear hK K
  refine go1 7 ?_
  intro K hK
  refine wp_append_t1 _ _ rfl B (.slice ga na ca) l rfl HHA.out.own wd.heap.size x rfl HNA.out HL.out (by have := HBA.out.size; have := HSZ.out; have := HBB.out; omega) ?_
  intro v2 w2 hown2 hg2 hat2
  have HO2 := hid hown2
  have HG2 := hid hg2
  have HAT := hid hat2
  have HBK : Hid (w2.heap[R]? = some (.cells rc 73 (0, 0))) := hid ((hg2.block R HHA.out.R_lt (fun e => HHA.out.apart _ e.symm rfl)).trans HHA.out.blk)
  have HC2 : Hid (w2.cell? ⟨R, 5, none⟩ = some (.slice ga na ca)) := hid (by rw [cell_of_row w2 R 5 rc _ _ HBK.out]; exact HH.out.at5)
  clear hown2 hg2 hat2
  refine hK.out _ _ (gs HC2.out) ?_
  clear hK K
  refine gt 8 (gs HC2.out) ?_
  refine go1 9 ?_
  intro K hK
  have c5 := HC2.out
  have f5 := frozenR HBK.out 5
  obtain ⟨g2, k2, n2, hv2, -⟩ := HO2.out.asSlice
  subst hv2
  go_simp
  refine hK.out _ _ ⟨trivial, .inl rfl⟩ ?_
  clear hK K
  refine rg_done (by kernel_rfl) ?_ _
  go_end0
  have HS5 : rc.size > 5 := (Array.getElem?_eq_some_iff.1 HH.out.at5).1
  have HNE : ∀ k, (Value.slice g2 n2 k2).ownBlock = some k → k ≠ R := fun k hk e => by
    subst e
    rcases HO2.out.2 with ⟨e1, _⟩ | ⟨g', cap', cur', e1, _, hg', _⟩
    · rw [e1] at hk; cases hk
    · rw [e1] at hk; cases hk
      rw [HBK.out] at hg'
      injection hg' with hg'
      injection hg' with _ e2
      exact absurd e2 (by decide)
  have HSZ2 : w.heap.size ≤ wa.heap.size := by have := HBA.out.size; have := HSZ.out; omega
  refine ⟨rfl, .slice g2 n2 k2, ⟨setR HBK.out 5 _, by rw [Array.getElem?_setIfInBounds_self_of_lt HS5], own_tch HO2.out (S := fun k => k = R) (Tch.ofGrown (grownSet w2 ⟨R, 5, none⟩ _) (fun k hk => by cases hk; rfl)) (fun k hk => HNE k hk)⟩, ?_, ?_⟩
  · exact ((HTD.out.trans (Tch.ofBelow HBA.out)).trans (Tch.ofGrown HG2.out (fun k hk => .inr hk))).trans (Tch.ofGrown (grownSet w2 ⟨R, 5, none⟩ _) (fun k hk => .inl (by cases hk; rfl)))
  · rcases HAT.out with h | h
    · exact .inl h
    · exact .inr ⟨_, h, HSZ2⟩
end Go.Proofs.Ytmggggijamligaa
namespace Go.Proofs.Ytmggggijamligaa
set_option linter.unusedVariables false
open Go.RowKit
open Go.Lib (hid)
theorem flatT_take : ∀ (l : List Tn) (k : Nat), flatG tnC (l.take k) = (flatG tnC l).take (k * 2)
  | [], k => by simp [flatG]
  | a :: l, 0 => by simp [flatG]
  | a :: l, k + 1 => by
    rw [List.take_succ_cons, flatG_cons, flatG_cons, flatT_take l k, show (k + 1) * 2 = k * 2 + 1 + 1 by omega]
    rfl
theorem own_takeT {w : World} {B : Nat} {g : Option Addr} {m cap k : Nat} {l : List Tn} (h : OwnT w B (.slice g m cap) l) (hk : k ≤ l.length) : OwnT w B (.slice g k cap) (l.take k) := by
  have hkl : (l.take k).length = k := by rw [List.length_take]; omega
  refine ⟨by rw [flatG_len kT, hkl], ?_⟩
  rw [hkl]
  rcases h.2 with ⟨e, h0⟩ | ⟨b, cap', cur, e, hb, hg, hn, hm, hs, ht⟩
  · cases e
    exact .inl ⟨by congr 1; omega, by omega⟩
  · cases e
    refine .inr ⟨b, cap, cur, rfl, hb, hg, by omega, hm, hs, ?_⟩
    rw [flatT_take, ← ht, List.take_take, Nat.min_eq_left (by omega)]
set_option maxHeartbeats 4000000 in
set_option maxRecDepth 100000 in
theorem cPopT {w : World} {B R n : Nat} {rc : Array Value} {tv : Value} {l : List Tn} (h : HpAt w B R rc tv l) (hl : l.length = n + 1) (hB : B ≤ w.heap.size) : Calls Try.prog 57 #[.pointer (some ⟨R, 5, none⟩)] w fun e w' => e = .returned (.iface 81 (.agg (tnC (atT l n)).toArray)) ∧ ∃ tv', HpAt w' B R (rc.setIfInBounds 5 tv') tv' (l.take n) ∧ Tch (HpS R tv) w w' ∧ tv'.ownBlock = tv.ownBlock := by
  rcases h.own.shape with ⟨_, rfl⟩ | ⟨g, cap, rfl, hn, hm, hB2, hg, hR, hf⟩
  · cases hl
  obtain ⟨a0, a1⟩ := hR n _ (atT_some (by omega))
  obtain ⟨x, hx⟩ : ∃ x, x = atT l n := ⟨_, rfl⟩
  rw [← hx] at a0 a1 ⊢
  obtain ⟨xt, xp⟩ := x
  dsimp only at a0 a1
  have HH := hid h
  have HL := hid hl
  have HX := hid hx
  have c5 := h.cell
  have f5 := frozenR h.blk 5
  obtain ⟨m, hm2⟩ : ∃ m, m = l.length := ⟨_, rfl⟩
  rw [← hm2] at c5 hl hn ⊢
  have HM := hid hm2
  have hgw := hg
  have hnm : ((m : Int) - 1) = (n : Int) := by omega
  have hnm2 : ((n : Int) < m) := by omega
  have hcapm : (n : Int) ≤ cap := by omega
  have hwr : IntKind.i64.wrap (n : Int) = n := by
    have := hm; unfold maxLen at this
    rw [IntKind.wrap_i64]; omega
  have HRL := hid h.R_lt
  have hneR : R ≠ g := h.apart g rfl
  have hRw : R < w.heap.size := h.R_lt
  clear hR hf h hx hl hm2 hB hB2
  go_enter Try.func57, Try.ntmps57
  go_wp2_with fail
  go_region
  go_wp2_with fail
  have HB1 : Hid (Below w.heap.size w (w.alloc (.cells #[.int .i64 xt, .int .i64 (xp : Int)] 81)).drew) := hid (belowDrew ((Below.refl _ w).alloc (Nat.le_refl _) _))
  have HN1 : Hid ((w.alloc (.cells #[.int .i64 xt, .int .i64 (xp : Int)] 81)).drew.heap[w.heap.size]? = some (.cells #[.int .i64 xt, .int .i64 (xp : Int)] 81 (0, 0))) := hid (heap_alloc_new w _)
  generalize (w.alloc (.cells #[.int .i64 xt, .int .i64 (xp : Int)] 81)).drew = W1 at HB1 HN1 ⊢
  have d5 : W1.cell? ⟨R, 5, none⟩ = some (.slice (some ⟨g, 0, none⟩) m cap) := (HB1.out.cell hRw).trans c5
  have HBK : Hid (W1.heap[R]? = some (.cells rc 73 (0, 0))) := hid ((HB1.out.block R hRw).trans HH.out.blk)
  have g5 := frozenR HBK.out 5
  have e0 : W1.cell? ⟨w.heap.size, 0, none⟩ = some (.int .i64 xt) := (cellAt' HN1.out 0).trans rfl
  have e1 : W1.cell? ⟨w.heap.size, 1, none⟩ = some (.int .i64 (xp : Int)) := (cellAt' HN1.out 1).trans rfl
  have hRn : R ≠ w.heap.size := by omega
  clear a0 a1 c5 f5
  go_region
  go_wp2_with fail
  go_ret
  have HS5 : rc.size > 5 := (Array.getElem?_eq_some_iff.1 HH.out.at5).1
  have HO1 : OwnT W1 B (.slice (some ⟨g, 0, none⟩) m cap) l := by have := HH.out.own.on HB1.out; rw [← HM.out] at this; exact this
  refine ⟨rfl, .slice (some ⟨g, 0, none⟩) n cap, ⟨setR HBK.out 5 _, by rw [Array.getElem?_setIfInBounds_self_of_lt HS5], ?_⟩, ?_, rfl⟩
  · refine own_tch (own_takeT HO1 (k := n) (by rw [HL.out]; omega)) (S := fun k => k = R) (Tch.ofGrown (grownSet W1 ⟨R, 5, none⟩ _) (fun k hk => by cases hk; rfl)).drew (fun k hk e => ?_)
    cases hk; exact hneR e.symm
  · exact ((Tch.ofBelow HB1.out).trans (Tch.ofGrown (grownSet W1 ⟨R, 5, none⟩ _) (fun k hk => .inl (by cases hk; rfl)))).drew
end Go.Proofs.Ytmggggijamligaa

import Derived.Test.YtlehcaacfgocaaaGreatG43
import Derived.Test.YtlehcaacfgocaaaGreatG12
import Derived.Deep.LoopGhost
namespace Go.Proofs.YtlehcaacfgocaaaGreat
set_option linter.unusedVariables false
open Go.RowKit
open Go.Lib (hid)
theorem sayOk_app {ask : An → Option (List C7)} {zs : List En} : ∀ {es bs : List An} {l : List Sa}, SayOk ask zs l es → SayOk ask zs (sayAll ask l es) bs → SayOk ask zs l (es ++ bs)
  | [], bs, l, _, h2 => h2
  | a :: es, bs, l, h1, h2 => ⟨h1.1, sayOk_app h1.2 h2⟩
theorem sayAll_app (ask : An → Option (List C7)) (l : List Sa) (es bs : List An) : sayAll ask l (es ++ bs) = sayAll ask (sayAll ask l es) bs := List.foldl_append ..
theorem SInv.gr {xs ys : List En} {l : List Sa} (h : SInv xs l) (hg : Gr xs ys) (hf : ∀ i, hasE ys i = true → (lkE ys i).e.ft ≠ 0 → hasE xs i = true ∧ (lkE xs i).e.ft = (lkE ys i).e.ft) : SInv ys l :=
  ⟨fun a ha => by
    obtain ⟨h1, h2, h3, h4, h5⟩ := h.at' a ha
    obtain ⟨g1, g2⟩ := hg _ h1
    obtain ⟨l1, l2, l3⟩ := g2.lo h3
    exact ⟨g1, g2.c.trans h2, l1, by omega, by omega⟩, fun i hi h0 => by
    obtain ⟨k1, k2⟩ := hf i hi h0
    rw [← k2] at h0 ⊢
    exact h.fs i k1 h0⟩
theorem step_s {nd : Int} {xs ys zs : List En} {x : Ms} {l : List Sa} {es : List An} {ask : An → Option (List C7)} (hs : SInv xs l) (hD : DecS xs ys x es) (hP : StepP xs ys) (hA : ∀ a ∈ es, AnsK nd ys x a ∧ a.so ≠ 6) (hh : hasE xs x.m.c.i = true) (hk : (lkE xs x.m.c.i).e.c = x.m.c) (hv : x.m.vt ≠ 0)
    (hask : ∀ a : An, a.c = x.m.c → a.tt = x.m.fr → a.bal = x.m.bal → a.vt = x.m.vt → ask a = some x.v) (hg : Gr ys zs) (hn : Nd ys zs) : SayOk ask zs l es ∧ SInv ys (sayAll ask l es) := by
  have hy : hasE ys x.m.c.i = true := (hP.gr _ hh).1
  rcases has : es with _ | ⟨a, es'⟩
  · subst has
    refine ⟨trivial, hs.gr hP.gr fun i hi h0 => ?_⟩
    rcases hD.ft i hi h0 with h | ⟨a, ha, _⟩
    · exact h
    · cases ha
  · have : es' = [] := by have := hD.one; rw [has] at this; simp at this; exact this
    subst this
    obtain ⟨hAa, h6⟩ := hA a (by rw [has]; exact List.mem_cons_self)
    by_cases h1 : a.so = 1
    · obtain ⟨o1, o2, o3, o4⟩ := hAa.okay h1
      have ha : ask a = some x.v := hask a hAa.c hAa.tt (hAa.bal (by omega)).1 o1
      refine ⟨⟨fun _ hf => ?_, trivial⟩, ?_, ?_⟩
      · rw [ha]
        refine ⟨rfl, ?_⟩
        rcases hD.ok a (by rw [has]; exact List.mem_cons_self) h1 with h | ⟨hK, hH, hvl⟩
        · exfalso
          obtain ⟨b, hb, b1, b2⟩ := hs.fs _ hh (by rw [h]; exact hv)
          unfold firstB at hf
          have := List.all_eq_true.1 hf b hb
          rw [h] at b2
          rw [hAa.c, o1, b1, b2] at this
          simp at this
        · rw [hvl, hAa.c, o1]
          exact fair_d hs (hP.gr.trans hg) (Nd.trans hP.gr hP.nd hn) hK hH
      · intro b hb
        have old : ∀ b ∈ l, hasE ys b.c.i = true ∧ (lkE ys b.c.i).e.c = b.c ∧ (lkE ys b.c.i).e.lo ≠ 0 ∧ (lkE ys b.c.i).e.lo ≤ b.t ∧ b.t ≤ (lkE ys b.c.i).e.hi := fun b hb => by
          obtain ⟨k1, k2, k3, k4, k5⟩ := hs.at' b hb
          obtain ⟨g1, g2⟩ := hP.gr _ k1
          obtain ⟨l1, l2, l3⟩ := g2.lo k3
          exact ⟨g1, g2.c.trans k2, l1, by omega, by omega⟩
        show _
        unfold sayAll sayF at hb
        simp only [List.foldl_cons, List.foldl_nil] at hb
        split at hb
        · rcases List.mem_append.1 hb with hb | hb
          · exact old b hb
          · rw [List.mem_singleton] at hb
            subst hb
            show hasE ys a.c.i = true ∧ (lkE ys a.c.i).e.c = a.c ∧ (lkE ys a.c.i).e.lo ≠ 0 ∧ (lkE ys a.c.i).e.lo ≤ a.vt ∧ a.vt ≤ (lkE ys a.c.i).e.hi
            rw [hAa.c, o1]
            exact ⟨hy, ((hP.gr _ hh).2.c).trans hk, o2, o3, o4⟩
        · exact old b hb
      · intro i hi h0
        rcases hD.ft i hi h0 with ⟨k1, k2⟩ | ⟨_, _, _, rfl, k2⟩
        · rw [← k2] at h0 ⊢
          obtain ⟨b, hb, b1, b2⟩ := hs.fs i k1 h0
          exact ⟨b, say_mem ask l a b hb, b1, b2⟩
        · obtain ⟨b, hb, b1, b2⟩ := say_has ask l h1
          exact ⟨b, hb, by rw [b1, hAa.c], by rw [b2, o1, k2]⟩
    · have e : sayAll ask l [a] = l := by unfold sayAll sayF; simp [h1]
      rw [e]
      refine ⟨⟨fun h => absurd h h1, trivial⟩, hs.gr hP.gr fun i hi h0 => ?_⟩
      rcases hD.ft i hi h0 with h | ⟨b, hb, hb1, _⟩
      · exact h
      · rw [has, List.mem_singleton] at hb; subst hb; exact absurd hb1 h1
theorem thru_s {nd : Int} {ask : An → Option (List C7)} : ∀ {ws : List Ms} {s : Sd} {l : List Sa}, Iv s ws → SInv s.xs l → (∀ x ∈ ws, ∀ a : An, a.c = x.m.c → a.tt = x.m.fr → a.bal = x.m.bal → a.vt = x.m.vt → ask a = some x.v) →
    (∀ zs, Gr (thruF nd s ws).1.xs zs → Nd (thruF nd s ws).1.xs zs → SayOk ask zs l (thruF nd s ws).2.2) ∧ SInv (thruF nd s ws).1.xs (sayAll ask l (thruF nd s ws).2.2)
  | [], s, l, h, hs, _ => ⟨fun _ _ _ => trivial, hs⟩
  | m :: ws, s, l, h, hs, hask => by
    unfold thruF
    split
    · exact ⟨fun _ _ _ => trivial, hs⟩
    · have hm : m ∈ m :: ws := List.mem_cons_self
      obtain ⟨h1, h2⟩ := ans_p (nd := nd) (h.wt m hm) (h.pr m hm) h.fv
      have hD := ans_s (nd := nd) (h.wt m hm)
      have hg1 := gd_ans (nd := nd) h.gd (h.wt m hm)
      have hv : m.m.vt ≠ 0 := by have := valid_ne (full_parts (h.wt m hm).full).1; omega
      have h' := (h.sub (ws' := ws) fun x hx => List.mem_cons_of_mem _ hx).gr h1.gr hg1 h1.fv
      obtain ⟨k1, k2, k3, k4⟩ := thru_p (nd := nd) h'
      have key : ∀ zs, Gr (ansD nd s m).1.xs zs → Nd (ansD nd s m).1.xs zs → _ := fun zs hg hn => step_s hs hD h1 h2 (h.wt m hm).has (h.kn m hm) hv (hask m hm) hg hn
      have hs1 := (key _ (Gr.refl _) (Nd.refl _)).2
      obtain ⟨t1, t2⟩ := thru_s (nd := nd) (ask := ask) h' hs1 fun x hx => hask x (List.mem_cons_of_mem _ hx)
      dsimp only
      refine ⟨fun zs hg hn => sayOk_app (key zs (k1.gr.trans hg) (Nd.trans k1.gr k1.nd hn)).1 (t1 zs hg hn), ?_⟩
      rw [sayAll_app]
      exact t2
def Uq (ws : List Ms) : Prop := ws.Pairwise fun x y => ¬ (x.m.c.i = y.m.c.i ∧ x.m.fr = y.m.fr)
theorem Uq.sub {ws ws' : List Ms} (h : Uq ws) (hs : ws'.Sublist ws) : Uq ws' := List.Pairwise.sublist hs h
theorem Uq.wait {s : Sd} {ws : List Ms} {m : Ms} (h : Uq ws) (hk : ∀ x ∈ ws, (lkE s.xs x.m.c.i).e.c = x.m.c) (hm : (lkE s.xs m.m.c.i).e.c = m.m.c) : Uq (waitF ws m) := by
  unfold waitF Uq
  refine List.pairwise_append.2 ⟨h.sub List.filter_sublist, List.pairwise_singleton _ _, fun x hx y hy => ?_⟩
  rw [List.mem_singleton] at hy
  subst hy
  obtain ⟨h1, h2⟩ := List.mem_filter.1 hx
  rintro ⟨e1, e2⟩
  have : x.m.c = y.m.c := by rw [← hk x h1, ← hm, e1]
  unfold delB at h2
  rw [C7.same_iff.2 this, decide_eq_true e2] at h2
  simp at h2
def askP (a : An) (x : Ms) : Bool := decide (x.m.so = 0) && (decide (x.m.c.i = a.c.i) && (decide (x.m.fr = a.tt) && (decide (x.m.bal = a.bal) && decide (x.m.vt = a.vt))))
def askF (ws : List Ms) (m : Ms) (a : An) : Option (List C7) := ((ws ++ [m]).reverse.find? (askP a)).map Ms.v
theorem ask_own {ws : List Ms} {m : Ms} (h0 : m.m.so = 0) {a : An} (h1 : a.c = m.m.c) (h2 : a.tt = m.m.fr) (h3 : a.bal = m.m.bal) (h4 : a.vt = m.m.vt) : askF ws m a = some m.v := by
  unfold askF
  rw [List.reverse_append]
  have : askP a m = true := by unfold askP; rw [h0, h1, h2, h3, h4]; simp
  show (List.find? (askP a) (m :: ws.reverse)).map Ms.v = _
  rw [List.find?_cons_of_pos this]; rfl
theorem ask_wait {ws : List Ms} {m : Ms} (hm : m.m.so ≠ 0) (hu : Uq ws) {x : Ms} (hx : x ∈ ws) (h0 : x.m.so = 0) {a : An} (h1 : a.c = x.m.c) (h2 : a.tt = x.m.fr) (h3 : a.bal = x.m.bal) (h4 : a.vt = x.m.vt) : askF ws m a = some x.v := by
  unfold askF
  rw [List.reverse_append]
  have hn : ¬ askP a m = true := by unfold askP; simp [hm]
  show (List.find? (askP a) (m :: ws.reverse)).map Ms.v = _
  rw [List.find?_cons_of_neg hn]
  have hp : askP a x = true := by unfold askP; rw [h0, h1, h2, h3, h4]; simp
  rcases hf : List.find? (askP a) ws.reverse with _ | y
  · have := List.find?_eq_none.1 hf x (List.mem_reverse.2 hx)
    exact absurd hp this
  · have hy := List.mem_reverse.1 (List.mem_of_find?_eq_some hf)
    have hyp := List.find?_some hf
    unfold askP at hyp
    simp only [Bool.and_eq_true, decide_eq_true_eq] at hyp
    have e : x = y := by
      refine Classical.byContradiction fun hne => ?_
      obtain ⟨i, hi, hxi⟩ := List.getElem_of_mem hx
      obtain ⟨j, hj, hyj⟩ := List.getElem_of_mem hy
      have hij : i ≠ j := fun e => hne (by subst e; rw [← hxi, ← hyj])
      have hp := List.pairwise_iff_getElem.1 hu
      have ec : x.m.c.i = y.m.c.i := by rw [hyp.2.1, h1]
      have ef : x.m.fr = y.m.fr := by rw [hyp.2.2.1, h2]
      rcases Nat.lt_or_gt_of_ne hij with hlt | hlt
      · exact hp i j hi hj hlt (by rw [hxi, hyj]; exact ⟨ec, ef⟩)
      · exact hp j i hj hi hlt (by rw [hxi, hyj]; exact ⟨ec.symm, ef.symm⟩)
    rw [e]; rfl
end Go.Proofs.YtlehcaacfgocaaaGreat
namespace Go.Proofs.YtlehcaacfgocaaaGreat
set_option linter.unusedVariables false
open Go.RowKit
open Go.Lib (hid)
theorem no_okay {ask : An → Option (List C7)} {zs : List En} : ∀ {es : List An} {l : List Sa}, (∀ a ∈ es, a.so ≠ 1) → SayOk ask zs l es ∧ sayAll ask l es = l
  | [], l, _ => ⟨trivial, rfl⟩
  | a :: es, l, h => by
    have h1 : a.so ≠ 1 := h a List.mem_cons_self
    have e : sayF ask l a = l := by unfold sayF; rw [if_neg (fun hh => h1 hh.1)]
    obtain ⟨k1, k2⟩ := no_okay (ask := ask) (zs := zs) (es := es) (l := l) fun b hb => h b (List.mem_cons_of_mem _ hb)
    refine ⟨⟨fun hh => absurd hh h1, by rw [e]; exact k1⟩, ?_⟩
    show sayAll ask (sayF ask l a) es = l
    rw [e]; exact k2
theorem SInv.snoc {xs : List En} {l : List Sa} {z : En} (h : SInv xs l) (hh : hasE xs z.id = true) (hg : Gr1 (lkE xs z.id) z) (hf : z.e.ft = (lkE xs z.id).e.ft) : SInv (xs ++ [z]) l :=
  h.gr (gr_snoc fun _ => hg) fun i hi h0 => by
    rw [hs_snoc] at hi
    rw [lk_snoc]
    by_cases e : z.id = i
    · rw [if_pos e]; subst e; exact ⟨hh, hf.symm⟩
    · rw [if_neg e] at hi ⊢; exact ⟨hi, rfl⟩
theorem SInv.ready {s : Sd} {l : List Sa} {m : Ms} (h : SInv s.xs l) : SInv (readyS s m).xs l :=
  h.gr (fresh_gr _ _) fun i hi h0 => by
    by_cases hs : hasE s.xs i = true
    · exact ⟨hs, by show _ = (lkE (s.xs ++ freshF s.xs (m.m.c :: m.v)) i).e.ft; rw [(fresh_lk hs _).2]⟩
    · exfalso
      apply h0
      show (lkE (s.xs ++ freshF s.xs (m.m.c :: m.v)) i).e.ft = 0
      have hi' : hasE (s.xs ++ freshF s.xs (m.m.c :: m.v)) i = true := hi
      rw [hs_app] at hi'
      rw [lk_app]
      rcases hf : hasE (freshF s.xs (m.m.c :: m.v)) i with _ | _
      · rw [hf] at hi'; exact absurd hi' hs
      · obtain ⟨c, _, hc⟩ := fresh_new (lkE_mem hf).1
        rw [if_pos rfl, hc]
structure HS (s : Sd) (ws : List Ms) (m : Ms) (l : List Sa) (r : Sd × List Ms × List An) : Prop where
  ok : SayOk (askF ws m) r.1.xs l r.2.2
  uq : Uq r.2.1
  inv : SInv r.1.xs (sayAll (askF ws m) l r.2.2)
theorem hs_no {s : Sd} {ws ws' : List Ms} {m : Ms} {l : List Sa} {r : Sd} {es : List An} (h : ∀ a ∈ es, a.so ≠ 1) (hu : Uq ws') (hi : SInv r.xs l) : HS s ws m l (r, ws', es) := by
  obtain ⟨k1, k2⟩ := no_okay (ask := askF ws m) (zs := r.xs) (l := l) h
  exact ⟨k1, hu, by show SInv r.xs (sayAll (askF ws m) l es); rw [k2]; exact hi⟩
theorem prop_s {nd : Int} {s : Sd} {ws : List Ms} {m : Ms} {l : List Sa} (h : Iv s ws) (hu : Uq ws) (hi : SInv s.xs l) (hs : m.m.so = 0) (hsh : m.short 1024) (hr : rightM m = true) (hh : hasE s.xs m.m.c.i = true) (hc : (lkE s.xs m.m.c.i).e.c = m.m.c) (hb : ¬ m.m.bal < (lkE s.xs m.m.c.i).e.pr) :
    HS s ws m l (proposeF nd s ws m (lkE s.xs m.m.c.i)) := by
  have hfi := h.fv _ hh
  obtain ⟨g, g1, g2, g3, g4, g5, g6⟩ := prop_gr (y := lkE s.xs m.m.c.i) hb
  have hyi : (propY m (lkE s.xs m.m.c.i)).id = m.m.c.i := by show (propY m (lkE s.xs m.m.c.i)).e.c.i = _; rw [g2, hc]
  have hst : StepP s.xs (putD s (propY m (lkE s.xs m.m.c.i))).xs := stepP_snoc h.fv (by rw [hyi]; exact g) (by rw [hyi]; exact g3) (fv1_gr hfi g g4)
  have hl : lkE (putD s (propY m (lkE s.xs m.m.c.i))).xs m.m.c.i = propY m (lkE s.xs m.m.c.i) := by unfold putD; rw [lk_snoc, if_pos hyi]
  have hw : Wt (putD s (propY m (lkE s.xs m.m.c.i))) m := ⟨hs, hsh, own_full hr (.inl hs), (hst.gr _ hh).1, (right_bal hr).2⟩
  have hi2 : SInv (putD s (propY m (lkE s.xs m.m.c.i))).xs l := hi.snoc (by rw [hyi]; exact hh) (by rw [hyi]; exact g) (by rw [hyi]; exact g4)
  have hd := dec_p (nd := nd) hw (by rw [hl, g1]; exact Int.le_refl _) hst.fv
  have hD := dec_s (nd := nd) hw
  rw [hl] at hd hD
  have hv : m.m.vt ≠ 0 := by have := valid_ne (full_parts hw.full).1; omega
  obtain ⟨k1, k2⟩ := step_s (ask := askF ws m) hi2 hD hd.1 hd.2 hw.has (by rw [hl, g2, hc]) hv (fun a a1 a2 a3 a4 => ask_own hs a1 a2 a3 a4) (Gr.refl _) (Nd.refl _)
  unfold proposeF
  refine ⟨k1, ?_, k2⟩
  dsimp only
  split
  · exact hu.wait (s := s) h.kn hc
  · exact hu
theorem answer_s {nd : Int} {s : Sd} {ws : List Ms} {m : Ms} {l : List Sa} (h : Iv s ws) (hu : Uq ws) (hi : SInv s.xs l) (hsh : m.short 1024) (hr : rightM m = true) (htk : takesB m.m.so = true) (hh : hasE s.xs m.m.c.i = true) (hc : (lkE s.xs m.m.c.i).e.c = m.m.c) : HS s ws m l (answerT nd s ws m (lkE s.xs m.m.c.i)) := by
  have hid' := (lkE_mem hh).2
  unfold answerT
  split
  · refine hs_no (fun a ha => ?_) hu hi
    rw [List.mem_singleton] at ha; subst ha; simp [backA]
  · split
    · refine hs_no (fun a ha => ?_) hu hi
      rw [List.mem_singleton] at ha; subst ha; simp [backA]
    · rename_i h1 h2
      unfold takeF
      split
      · rename_i h0; exact prop_s h hu hi h0 hsh hr hh hc (fun hlt => h2 ⟨by omega, hlt⟩)
      · split
        · rename_i h3
          have hb : ¬ m.m.bal < (lkE s.xs m.m.c.i).e.pr := fun hlt => h2 ⟨by omega, hlt⟩
          have hyi : (promY (lkE s.xs m.m.c.i) m.m.bal).id = m.m.c.i := hid'
          unfold prepareF
          refine hs_no (fun a ha => ?_) hu ?_
          · split at ha
            · rw [List.mem_singleton] at ha; subst ha; simp [backA]
            · cases ha
          · rw [fresh_xs]
            exact hi.snoc (by rw [hyi]; exact hh) (by rw [hyi]; exact prom_gr hb) (by rw [hyi]; rfl)
        · split
          · rename_i h5
            have hb : ¬ m.m.bal < (lkE s.xs m.m.c.i).e.pr := fun hlt => h2 ⟨by omega, hlt⟩
            have hv := (full_parts (own_full hr (.inr (.inl h5)))).1
            unfold acceptF
            split
            · exact hs_no (fun a ha => by cases ha) hu hi
            · obtain ⟨d1, d2, d3⟩ := acc_dn (lkE s.xs m.m.c.i) hv
              have hyi : (accY (lkE s.xs m.m.c.i) m).id = m.m.c.i := d3.trans hid'
              refine hs_no (fun a ha => ?_) hu (hi.snoc (by rw [hyi]; exact hh) (by rw [hyi]; exact (acc_gr hv hb).1) (by rw [hyi]; exact d2))
              rw [List.mem_singleton] at ha; subst ha; simp [backA]
          · rename_i h0 h3 h5
            have h7 : m.m.so = 7 := by
              unfold takesB at htk
              simp only [Bool.or_eq_true, decide_eq_true_eq] at htk
              omega
            have hful := own_full hr (.inr (.inr h7))
            have hry := h.gd _ (lkE_mem hh).1
            have key : ∀ z : En, z.id = m.m.c.i → Gr1 (lkE s.xs m.m.c.i) z → z.e.ft = (lkE s.xs m.m.c.i).e.ft → z.right = true → HS s ws m l (thruF nd (putD s z) ws) := fun z hz g hft hzr => by
              have hg : Gr s.xs (putD s z).xs := gr_snoc fun _ => by rw [hz]; exact g
              have hf : Fv (putD s z).xs := fv_snoc h.fv (fv1_gr (h.fv _ hh) g hft)
              have hiv := h.gr hg (gd_put h.gd hzr) hf
              obtain ⟨k1, k2, k3, k4⟩ := thru_p (nd := nd) hiv
              obtain ⟨t1, t2⟩ := thru_s (nd := nd) (ask := askF ws m) hiv (hi.snoc (z := z) (by rw [hz]; exact hh) (by rw [hz]; exact g) (by rw [hz]; exact hft)) fun x hx a a1 a2 a3 a4 => ask_wait (by omega) hu hx (h.wt x hx).so a1 a2 a3 a4
              exact ⟨t1 _ (Gr.refl _) (Nd.refl _), hu.sub k3, t2⟩
            unfold settleF
            split
            · split
              · exact key _ hid' (Gr1.refl _) rfl hry
              · exact hs_no (fun a ha => by cases ha) hu hi
            · rename_i hd
              exact key _ hid' (fin_gr hd) rfl (right_fin hry hful)
theorem handle_s {nd : Int} {s : Sd} {ws : List Ms} {m : Ms} {l : List Sa} (h : Iv s ws) (hu : Uq ws) (hsh : m.short 1024) (hl : s.ov = true ∨ SInv s.xs l) :
    SayOk (askF ws m) (handleF nd s ws m).1.xs l (handleF nd s ws m).2.2 ∧ Uq (handleF nd s ws m).2.1 ∧ ((handleF nd s ws m).1.ov = true ∨ SInv (handleF nd s ws m).1.xs (sayAll (askF ws m) l (handleF nd s ws m).2.2)) := by
  unfold handleF
  split
  · rename_i ht
    have hi : SInv s.xs l := by rcases hl with h1 | h1; rw [ht.1] at h1; cases h1; exact h1
    obtain ⟨h1, h2, h3, h4⟩ := ready_iv h ht.2.2.2
    have hA := answer_s (nd := nd) h1 hu hi.ready hsh ht.2.1 ht.2.2.1 h3 h4
    unfold overF
    split
    · rename_i ho
      exact ⟨trivial, hA.uq, .inl ho⟩
    · exact ⟨hA.ok, hA.uq, .inr hA.inv⟩
  · exact ⟨trivial, hu, hl⟩
theorem handle_pr {nd : Int} {s : Sd} {ws : List Ms} {m : Ms} (h : Iv s ws) (hsh : m.short 1024) (i : Int) : (lookE s.xs i).pr ≤ (lookE (handleF nd s ws m).1.xs i).pr := by
  have hp := handle_p (nd := nd) h hsh
  rw [← lkE_e, ← lkE_e]
  by_cases hh : hasE s.xs i = true
  · exact (hp.gr i hh).2.pr
  · have : (lkE s.xs i).e.pr = 0 := by
      unfold lkE
      rw [has_none (by simpa using hh)]; rfl
    rw [this]
    by_cases h2 : hasE (handleF nd s ws m).1.xs i = true
    · have := (right_iff.1 (hp.iv.gd _ (lkE_mem h2).1)).2.1
      exact (within_true.1 this).1
    · have : (lkE (handleF nd s ws m).1.xs i).e.pr = 0 := by
        unfold lkE
        rw [has_none (by simpa using h2)]; rfl
      rw [this]; exact Int.le_refl _
end Go.Proofs.YtlehcaacfgocaaaGreat
namespace Go.Proofs.YtlehcaacfgocaaaGreat
set_option linter.unusedVariables false
open Go.RowKit
open Go.Lib (hid)
structure Sm where
  c : C7
  t : Int
  p : Sv
def Sm.list (m : Sm) : List Value := [.int .i64 m.c.i, .int .i64 m.c.k, .int .i64 m.c.s, .int .i64 m.c.t, .int .i64 m.c.d, .int .i64 m.c.p, .int .i64 m.c.q, .int .i64 m.t, m.p.v]
def Sm.arr (m : Sm) : Array Value := m.list.toArray
theorem Sm.len (m : Sm) : m.list.length = 9 := rfl
theorem Sm.size (m : Sm) : m.arr.size = 9 := rfl
theorem Sm.toList (m : Sm) : m.arr.toList = m.list := by unfold Sm.arr; simp
theorem Sm.one' (m : Sm) : ∀ u ∈ m.list, u.oneCell' = true := fun v hv => by
  unfold Sm.list at hv; simp at hv
  rcases hv with h | h | h | h | h | h | h | h | h <;> subst h <;> rfl
theorem Sm.one (m : Sm) : m.arr.all (·.oneCell') = true := all_oneCell_toArray m.one'
abbrev kSm : ∀ m : Sm, m.list.length = 9 := Sm.len
structure Sx where
  m : Sm
  l : List C7
def Sx.sa (x : Sx) : Sa := ⟨x.m.c, x.m.t, x.l⟩
abbrev sms (l : List Sx) : List Sm := l.map Sx.m
abbrev SlS (w : World) (v : Value) (l : List Sm) : Prop := SlG Sm.list 9 w v l
abbrev OwnS (w : World) (B : Nat) (v : Value) (l : List Sm) : Prop := OwnG Sm.list 9 74 w B v l
theorem at_sms {l : List Sx} {j : Nat} {x : Sx} (h : l[j]? = some x) : (sms l)[j]? = some x.m := by unfold sms; rw [List.getElem?_map, h]; rfl
set_option maxHeartbeats 4000000 in
set_option maxRecDepth 100000 in
theorem cFirst {v : Value} {l : List Sx} {w : World} (h : SlS w v (sms l)) (hl : l.length ≤ 100000) (c : C7) (t : Int) : Calls Tryz.prog 22 #[v, c.v, .int .i64 t] w fun e w' => e = .returned (.bool (firstB (l.map Sx.sa) c.i t)) ∧ Below w.heap.size w w' := by
  obtain ⟨b, o, cap, a, rfl, ha, hc, hb⟩ := h
  have hlm : (sms l).length = l.length := by unfold sms; rw [List.length_map]
  rw [hlm] at ha hb ⊢
  have HCC := hid hc
  obtain ⟨n, hn⟩ : ∃ n, n = l.length := ⟨_, rfl⟩
  rw [← hn] at ha hb hl ⊢
  have HN := hid hn
  have HBX : Hid ((w.alloc (.cells #[.int .i64 c.i, .int .i64 c.k, .int .i64 c.s, .int .i64 c.t, .int .i64 c.d, .int .i64 c.p, .int .i64 c.q] 45)).heap[w.heap.size]? = some (.cells #[.int .i64 c.i, .int .i64 c.k, .int .i64 c.s, .int .i64 c.t, .int .i64 c.d, .int .i64 c.p, .int .i64 c.q] 45 (0, 0))) := hid (heap_alloc_new w _)
  have HB0 : Hid (Below w.heap.size w (w.alloc (.cells #[.int .i64 c.i, .int .i64 c.k, .int .i64 c.s, .int .i64 c.t, .int .i64 c.d, .int .i64 c.p, .int .i64 c.q] 45))) := hid (laid1_b w _)
  clear hn hc hlm
  go_enter Tryz.func22, Tryz.ntmps22
  go_upto_region 1 with fail
  generalize w.alloc (.cells #[.int .i64 c.i, .int .i64 c.k, .int .i64 c.s, .int .i64 c.t, .int .i64 c.d, .int .i64 c.p, .int .i64 c.q] 45) = W0 at HBX HB0 ⊢
  obtain ⟨p, hp⟩ : ∃ p, p = w.heap.size := ⟨_, rfl⟩
  rw [← hp] at HBX ⊢
  clear hp
  go_wp2_with fail
  go_loopw [7] (fun i wr => ∃ (k : Nat), k ≤ n ∧ i = .int .i64 k ∧ Hid (∀ y ∈ l.take k, ¬ (y.m.c.i = c.i ∧ y.m.t = t)) ∧ Hid (Below W0.heap.size W0 wr)) (fun i _ => n - (RowKit.intOf i).toNat)
  case atStart => exact ⟨0, Nat.zero_le _, rfl, hid (by simp), hid (Below.refl _ _)⟩
  case round =>
    obtain ⟨k, hk, rfl, HALL, HB⟩ := hrel
    have HBw : Hid (Below w.heap.size w wr) := hid (HB0.out.trans (HB.out.mono HB0.out.size))
    by_cases hlt : k < n
    · have hlti : ((k : Int) < n) := by omega
      obtain rfl := ha (by omega)
      obtain ⟨y, hy⟩ : ∃ y, l[k]? = some y := ⟨l[k]'(by rw [← HN.out]; exact hlt), List.getElem?_eq_getElem (by rw [← HN.out]; exact hlt)⟩
      have hbw := hb (by omega)
      have HC : Hid (wr.rangeAt b (o + k * 9) y.m.list) := hid ((HCC.out.on HBw.out fun _ => hbw) k y.m (at_sms hy))
      have HY := hid hy
      obtain ⟨yi, hyi⟩ : ∃ z, z = y.m.c.i := ⟨_, rfl⟩
      obtain ⟨yt, hyt⟩ : ∃ z, z = y.m.t := ⟨_, rfl⟩
      have k0 : wr.cell? ⟨b, o + k * 9, none⟩ = some (.int .i64 yi) := by rw [hyi]; exact HC.out 0 (.int .i64 y.m.c.i) rfl
      have k7 : wr.cell? ⟨b, o + k * 9 + 7, none⟩ = some (.int .i64 yt) := by rw [hyt]; exact HC.out 7 (.int .i64 y.m.t) rfl
      have kc : wr.cell? ⟨p, 0, none⟩ = some (.int .i64 c.i) := (cellAt' (heapB HBX.out HB.out (Array.getElem?_eq_some_iff.1 HBX.out).1) 0).trans rfl
      have HYI := hid hyi
      have HYT := hid hyt
      have hnx : ¬ (yi = c.i ∧ yt = t) → ∀ z ∈ l.take (k + 1), ¬ (z.m.c.i = c.i ∧ z.m.t = t) := fun hne z hz => by
        rw [List.take_add_one, HY.out] at hz
        rcases List.mem_append.1 hz with hz | hz
        · exact HALL.out z hz
        · simp at hz; subst hz; rw [← HYI.out, ← HYT.out]; exact hne
      have HNX := hid hnx
      clear hy hbw hyi hyt hnx
      by_cases h1 : yi = c.i
      · have h1b : (yi == c.i) = true := by simpa using h1
        by_cases h2 : yt = t
        · have h2b : (yt == t) = true := by simpa using h2
          have HF : Hid (firstB (l.map Sx.sa) c.i t = false) := hid (by
            unfold firstB
            rw [List.all_eq_false]
            refine ⟨y.sa, List.mem_map.2 ⟨y, List.mem_of_getElem? HY.out, rfl⟩, ?_⟩
            have e1 : y.sa.c.i = c.i := HYI.out.symm.trans h1
            have e2 : y.sa.t = t := HYT.out.symm.trans h2
            simp [e1, e2])
          clear h1 h2
          go_wp2_with fail
          go_quiet (fail)
          go_wp2_with fail
          go_ret
          exact ⟨ret_bool HF.out.symm, Below.drewN' HBw.out nq⟩
        · have h2b : (yt == t) = false := by simpa using h2
          have H2 := hid h2
          clear h1 h2
          go_wp2_with fail
          go_quiet (fail)
          go_wp2_with fail
          go_roundw
          case rel => exact ⟨k + 1, by omega, by go_num, hid (HNX.out fun e => H2.out e.2), hid (Below.drewN' HB.out nq)⟩
          case measure => simp [RowKit.intOf]; omega
      · have h1b : (yi == c.i) = false := by simpa using h1
        have H1 := hid h1
        clear h1
        go_wp2_with fail
        go_quiet (fail)
        go_wp2_with fail
        go_roundw
        case rel => exact ⟨k + 1, by omega, by go_num, hid (HNX.out fun e => H1.out e.1), hid (Below.drewN' HB.out nq)⟩
        case measure => simp [RowKit.intOf]; omega
    · have hkk : k = n := by omega
      have hnl : ¬ ((k : Int) < n) := by omega
      have HF : Hid (firstB (l.map Sx.sa) c.i t = true) := hid (by
        unfold firstB
        rw [List.all_eq_true]
        intro z hz
        obtain ⟨y, hy, rfl⟩ := List.mem_map.1 hz
        have := HALL.out y (by rw [hkk, HN.out, List.take_length]; exact hy)
        by_cases e1 : y.sa.c.i = c.i
        · by_cases e2 : y.sa.t = t
          · exact absurd ⟨e1, e2⟩ this
          · simp [e2]
        · simp [e1])
      go_wp2_with fail
      go_ret
      exact ⟨ret_bool HF.out.symm, HBw.out⟩
end Go.Proofs.YtlehcaacfgocaaaGreat

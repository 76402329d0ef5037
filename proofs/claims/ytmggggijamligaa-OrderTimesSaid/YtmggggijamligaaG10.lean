import Derived.Test.YtmggggijamligaaG09
import Derived.Test.YtmggggijamligaaG07
namespace Go.Proofs.Ytmggggijamligaa
set_option linter.unusedVariables false
open Go.RowKit
open Go.Lib (hid)
open Go.Sort (grow)
section
variable {P : Program} {md : Region.Mode} {S : World → Prop} {ops : Array Oper} {fuel : Nat} {listed : Array Bool} {a : Act} {w : World} {Q : Exit → Act → World → Prop}
theorem du (i : Nat) {o : Oper} {l' : Array Bool} {a' : Act} (hS : S w) (h : wpAnyH P md ops Q S fuel l' a' w) (hi : ops[i]? = some o := by (simp only [gA, gB, gC]; try rfl)) (hl : listed.setIfInBounds i true = l' := by (simp only [gD, gE, gF]; try rfl)) (ha : a.put o.dst undef = a' := by (simp only [Act.put, gD, gE, gF]; try rfl))
    (hw : Region.wanted o (yielded ops a.tmps) = false := by rfl) (hQ : ∀ c a w, Q (.panic c) (a.put o.dst undef) w → Q (.panic c) a w := by exact fun _ _ _ h => h)
    (hs : Region.noSelect ops = true := by kernel_rfl) (hf : Region.free md ops listed i = true := by kernel_rfl) (hr : (Region.ready md ops listed).contains i = true := by kernel_rfl) : wpAnyH P md ops Q S (fuel + 1) listed a w := by
  subst hl ha
  exact wpAnyH_take hi hs hf hr hQ (.inr ⟨hw, rfl⟩) hS h
theorem dlw (i : Nat) (cs : List Value) (b q : Nat) {o : Oper} {T : TypeId} {x : Operand} {d : TypeDesc} {l' : Array Bool} {a' : Act} (hc : ∀ w, S w → w.rangeAt b q cs) (hu : P.underlying T = some d) (hS : S w) (h : wpAnyH P md ops Q S fuel l' a' w) (hi : ops[i]? = some o := by (simp only [gA, gB, gC]; try rfl)) (hl : listed.setIfInBounds i true = l' := by (simp only [gD, gE, gF]; try rfl)) (ho : o.op = .load T x := by rfl) (hx : a.eval x = .pointer (some ⟨b, q, none⟩) := by rfl) (ha : a.put o.dst (.agg cs.toArray) = a' := by (simp only [Act.put, gD, gE, gF]; try rfl)) (hd : d.isRow = true := by rfl) (hz : (P.info? T).map (·.size) = some cs.length := by kernel_rfl)
    (hw : Region.wanted o (yielded ops a.tmps) = true := by rfl) (hQ : ∀ c a w, Q (.panic c) (a.put o.dst (.agg cs.toArray)) w → Q (.panic c) a w := by exact fun _ _ _ h => h)
    (hs : Region.noSelect ops = true := by kernel_rfl) (hf : Region.free md ops listed i = true := by kernel_rfl) (hr : (Region.ready md ops listed).contains i = true := by kernel_rfl) : wpAnyH P md ops Q S (fuel + 1) listed a w := by
  subst hl ha
  exact wpAnyH_take hi hs hf hr hQ (yieldsIf_load_mid hw T x ho b q hx cs d hc hu hd hz) hS h
theorem dopw (i : Nat) {o : Oper} {l' : Array Bool} (h : ∀ K' : Act → World → Prop, Shut (∀ a w, S w → wpAnyH P md ops Q S fuel l' a w → K' a w) → Oper.wp P o a w K' Q) (hi : ops[i]? = some o := by (simp only [gA, gB, gC]; try rfl)) (hl : listed.setIfInBounds i true = l' := by (simp only [gD, gE, gF]; try rfl)) (hw : Region.wanted o (yielded ops a.tmps) = true := by rfl) (hr : Region.ready md ops listed = [i] := by kernel_rfl) : wpAnyH P md ops Q S (fuel + 1) listed a w := by
  subst hl
  refine wpAnyH_ready hr (by simp) (AllReadyH.cons hi (fun K' hK => ?_) AllReadyH.nil)
  rw [if_pos hw]
  exact h K' (fun a w h1 h2 => hK.out a w h1 (fun _ => h2))
end
theorem findN_mem {l : List En} {i : Nat} {x : En} (hx : l[i]? = some x) : ∃ j, findN l x.id = some j := by
  rcases h : findN l x.id with _ | j
  · have := findN_none h
    rw [List.find?_eq_none] at this
    exact absurd (this x (List.mem_of_getElem? hx)) (by simp [isId])
  · exact ⟨j, rfl⟩
set_option maxHeartbeats 8000000 in
set_option maxRecDepth 100000 in
theorem cOpen {w : World} {lv : Value} {F H nf nh : Nat} {l : List En} {had : List Int} (hV : Vw w lv F H nf nh l had) (hl : l.length ≤ 1000) {i : Nat} {x : En} (hx : l[i]? = some x) {r : Bool} (hr : r = waitB l had i x) : Calls Try.prog 21 #[.agg (vwC lv F H), .int .i64 i] w fun e w' => e = .returned (.bool r) ∧ Below w.heap.size w w' := by
  have HV := hid hV
  have HR := hid hr
  obtain ⟨id, hid'⟩ : ∃ z, z = x.id := ⟨_, rfl⟩
  have HW : Hid (wfI id) := hid (by rw [hid']; exact (hV.wf.1 x (List.mem_of_getElem? hx)).1)
  have hD : Hid (∀ W, Below w.heap.size w W → ∀ q, q = hasI had id → Calls Try.prog 28 #[.agg (vwC lv F H), .int .i64 id] W fun e w' => e = .returned (.bool q) ∧ Below W.heap.size W w') := hid (fun W hW q hq => cDeliv (hV.mh.on hW) HW.out hq)
  obtain ⟨j, hj⟩ := findN_mem hx
  rw [← hid'] at hj
  have HJ := hid hj
  have hil := (List.getElem?_eq_some_iff.1 hx).1
  obtain ⟨b, o, cap, hlv, hbw, hrg⟩ := hV.sl.entry hx
  obtain ⟨m, hm⟩ : ∃ m, m = l.length := ⟨_, rfl⟩
  rw [← hm] at hlv hil hl
  obtain ⟨dn, hdn⟩ : ∃ z, z = x.e.dn := ⟨_, rfl⟩
  have HWT : Hid (waitB l had i x = (dn && !hasI had id && decide (some j = some i))) := hid (by unfold waitB; rw [← hid', hj, hdn])
  have a0 : w.cell? ⟨b, o + i * 19, none⟩ = some (.int .i64 id) := by rw [hid']; exact hrg 0 _ rfl
  have a16 : w.cell? ⟨b, o + i * 19 + 16, none⟩ = some (.bool dn) := by rw [hdn]; exact hrg 16 _ rfl
  have hji : ((i : Int) < m) := by omega
  subst hlv
  clear hV hr hj hx hm hrg hid' hdn
  unfold vwC at hD ⊢
  go_enter Try.func21, Try.ntmps21
  go_upto_region 1 with fail
  have HB : Hid (Below w.heap.size w (w.alloc (.cells #[.slice (some ⟨b, o, none⟩) m cap, .map (some F), .map (some H)] 63))) := hid ((Below.refl _ w).alloc (Nat.le_refl _) _)
  have HN : Hid ((w.alloc (.cells #[.slice (some ⟨b, o, none⟩) m cap, .map (some F), .map (some H)] 63)).heap[w.heap.size]? = some (.cells #[.slice (some ⟨b, o, none⟩) m cap, .map (some F), .map (some H)] 63 (0, 0))) := hid (heap_alloc_new w _)
  generalize w.alloc (.cells #[.slice (some ⟨b, o, none⟩) m cap, .map (some F), .map (some H)] 63) = W at HB HN ⊢
  have hVW : w.heap.size < W.heap.size := (Array.getElem?_eq_some_iff.1 HN.out).1
  have hbW : b < W.heap.size := Nat.lt_trans hbw hVW
  have CV : Hid (∀ W2, Below W.heap.size W W2 → W2.rangeAt w.heap.size 0 [.slice (some ⟨b, o, none⟩) m cap, .map (some F), .map (some H)]) := hid (fun W2 hW2 j v hv => by rw [Nat.zero_add]; exact (hW2.cell hVW).trans ((cellAt' HN.out j).trans (by rw [← Array.getElem?_toList]; exact hv)))
  have C0 : Hid (∀ W2, Below W.heap.size W W2 → W2.cell? ⟨w.heap.size, 0, none⟩ = some (.slice (some ⟨b, o, none⟩) m cap)) := hid (fun W2 hW2 => (hW2.cell hVW).trans ((cellAt' HN.out 0).trans rfl))
  have C1 : Hid (∀ W2, Below W.heap.size W W2 → W2.cell? ⟨w.heap.size, 1, none⟩ = some (.map (some F))) := hid (fun W2 hW2 => (hW2.cell hVW).trans ((cellAt' HN.out 1).trans rfl))
  have G0 : Hid (∀ W2, Below W.heap.size W W2 → W2.cell? ⟨b, o + i * 19, none⟩ = some (.int .i64 id)) := hid (fun W2 hW2 => (hW2.cell hbW).trans ((HB.out.cell hbw).trans a0))
  have G16 : Hid (∀ W2, Below W.heap.size W W2 → W2.cell? ⟨b, o + i * 19 + 16, none⟩ = some (.bool dn)) := hid (fun W2 hW2 => (hW2.cell hbW).trans ((HB.out.cell hbw).trans a16))
  have LK : Hid (∀ W2, Below W.heap.size W W2 → Sem.run Try.prog (Instr.lookup 60 (.map (some F)) (.int .i64 id) false) W2 = .ok (.int .i64 (j : Int)) W2) := hid (fun W2 hW2 => by
    have := run_lookF ((HV.out.mf.on HB.out).on hW2) HW.out
    rw [HJ.out] at this
    exact this)
  obtain ⟨q, hq⟩ : ∃ q, q = hasI had id := ⟨_, rfl⟩
  have HQ := hid hq
  clear hq a0 a16 HV
  rcases dn with _ | _
  · have HRT : Hid (r = false) := hid (by rw [HR.out, HWT.out]; rfl)
    refine d0 (Below W.heap.size W) 33 (Array.replicate 33 false) ?_
    rw [show Array.replicate 33 false = #[false, false, false, false, false, false, false, false, false, false, false, false, false, false, false, false, false, false, false, false, false, false, false, false, false, false, false, false, false, false, false, false, false] from rfl]
    have HS0 : Hid (Below W.heap.size W W.drew) := hid (belowDrew (Below.refl _ W))
    generalize W.drew = wd at HS0 ⊢
    refine dt 0 HS0.out ?_
    refine dt 1 HS0.out ?_ (hv := by (intro W2 hW2; have c := C0.out W2 hW2; go_simp; try with_reducible rfl))
    refine dt 2 HS0.out ?_
    refine dt 3 HS0.out ?_
    refine dt 4 HS0.out ?_
    refine dt 5 HS0.out ?_ (hv := by (intro W2 hW2; have c := G16.out W2 hW2; go_simp; try with_reducible rfl))
    refine dt 6 HS0.out ?_
    refine du 7 HS0.out ?_
    refine du 8 HS0.out ?_
    refine du 9 HS0.out ?_
    refine du 10 HS0.out ?_
    refine du 11 HS0.out ?_
    refine du 12 HS0.out ?_
    refine du 13 HS0.out ?_
    refine du 14 HS0.out ?_
    refine du 15 HS0.out ?_
    refine du 16 HS0.out ?_
    refine du 17 HS0.out ?_
    refine du 18 HS0.out ?_
    refine dt 19 HS0.out ?_
    refine dt 20 HS0.out ?_
    refine du 21 HS0.out ?_
    refine du 22 HS0.out ?_
    refine du 23 HS0.out ?_
    refine du 24 HS0.out ?_
    refine du 25 HS0.out ?_
    refine du 26 HS0.out ?_
    refine du 27 HS0.out ?_
    refine du 28 HS0.out ?_
    refine du 29 HS0.out ?_
    refine du 30 HS0.out ?_
    refine dt 31 HS0.out ?_
    refine dt 32 HS0.out ?_
    refine wpAnyH_done (by kernel_rfl) ?_ _
    go_wp2_with fail
    go_ret
    exact ⟨by rw [HRT.out]; rfl, HB.out.trans (HS0.out.mono HB.out.size)⟩
  by_cases he : j = i
  · subst he
    have hee : ((j : Int) == (j : Int)) = true := by simp
    have HRT : Hid (r = !q) := hid (by rw [HR.out, HWT.out, ← HQ.out]; simp)
    refine d0 (Below W.heap.size W) 33 (Array.replicate 33 false) ?_
    rw [show Array.replicate 33 false = #[false, false, false, false, false, false, false, false, false, false, false, false, false, false, false, false, false, false, false, false, false, false, false, false, false, false, false, false, false, false, false, false, false] from rfl]
    have HS0 : Hid (Below W.heap.size W W.drew) := hid (belowDrew (Below.refl _ W))
    generalize W.drew = wd at HS0 ⊢
    refine dt 0 HS0.out ?_
    refine dt 1 HS0.out ?_ (hv := by (intro W2 hW2; have c := C0.out W2 hW2; go_simp; try with_reducible rfl))
    refine dt 2 HS0.out ?_
    refine dt 3 HS0.out ?_
    refine dt 4 HS0.out ?_
    refine dt 5 HS0.out ?_ (hv := by (intro W2 hW2; have c := G16.out W2 hW2; go_simp; try with_reducible rfl))
    refine dt 6 HS0.out ?_
    refine dt 7 HS0.out ?_
    refine dt 8 HS0.out ?_ (hv := by (intro W2 hW2; have c := C1.out W2 hW2; go_simp; try with_reducible rfl))
    refine dt 9 HS0.out ?_
    refine dt 10 HS0.out ?_ (hv := by (intro W2 hW2; have c := C0.out W2 hW2; go_simp; try with_reducible rfl))
    refine dt 11 HS0.out ?_
    refine dt 12 HS0.out ?_
    refine dt 13 HS0.out ?_
    refine dt 14 HS0.out ?_
    refine dt 15 HS0.out ?_ (hv := by (intro W2 hW2; have c := G0.out W2 hW2; go_simp; try with_reducible rfl))
    refine dt 16 HS0.out ?_ (hv := by (intro W2 hW2; have c := LK.out W2 hW2; go_simp; try with_reducible rfl))
    refine dt 17 HS0.out ?_
    refine dt 18 HS0.out ?_
    refine dt 19 HS0.out ?_
    refine dt 20 HS0.out ?_
    refine dlw 21 [.slice (some ⟨b, o, none⟩) m cap, .map (some F), .map (some H)] w.heap.size 0 (fun W2 hW2 => CV.out W2 hW2) Try.underlying63 HS0.out ?_
    refine dt 22 HS0.out ?_
    refine dt 23 HS0.out ?_ (hv := by (intro W2 hW2; have c := C0.out W2 hW2; go_simp; try with_reducible rfl))
    refine dt 24 HS0.out ?_
    refine dt 25 HS0.out ?_
    refine dt 26 HS0.out ?_
    refine dt 27 HS0.out ?_
    refine dt 28 HS0.out ?_ (hv := by (intro W2 hW2; have c := G0.out W2 hW2; go_simp; try with_reducible rfl))
    refine dopw 29 ?_
    intro K hK
    go_simp
    refine (hD.out wd (HB.out.trans (HS0.out.mono HB.out.size)) q HQ.out).mono ?_
    rintro e w1 ⟨rfl, hB1⟩
    have HS1 : Hid (Below W.heap.size W w1) := hid (HS0.out.trans (hB1.mono HS0.out.size))
    clear hB1
    refine hK.out _ _ HS1.out ?_
    clear hK K
    refine dt 30 HS1.out ?_
    refine dt 31 HS1.out ?_
    refine dt 32 HS1.out ?_
    refine wpAnyH_done (by kernel_rfl) ?_ _
    go_wp2_with fail
    go_ret
    exact ⟨by rw [HRT.out]; rfl, HB.out.trans (HS1.out.mono HB.out.size)⟩
  · have hee : ((j : Int) == (i : Int)) = false := by simp; omega
    have HRT : Hid (r = false) := hid (by rw [HR.out, HWT.out, decide_eq_false (fun h => he (Option.some.inj h))]; simp)
    refine d0 (Below W.heap.size W) 33 (Array.replicate 33 false) ?_
    rw [show Array.replicate 33 false = #[false, false, false, false, false, false, false, false, false, false, false, false, false, false, false, false, false, false, false, false, false, false, false, false, false, false, false, false, false, false, false, false, false] from rfl]
    have HS0 : Hid (Below W.heap.size W W.drew) := hid (belowDrew (Below.refl _ W))
    generalize W.drew = wd at HS0 ⊢
    refine dt 0 HS0.out ?_
    refine dt 1 HS0.out ?_ (hv := by (intro W2 hW2; have c := C0.out W2 hW2; go_simp; try with_reducible rfl))
    refine dt 2 HS0.out ?_
    refine dt 3 HS0.out ?_
    refine dt 4 HS0.out ?_
    refine dt 5 HS0.out ?_ (hv := by (intro W2 hW2; have c := G16.out W2 hW2; go_simp; try with_reducible rfl))
    refine dt 6 HS0.out ?_
    refine dt 7 HS0.out ?_
    refine dt 8 HS0.out ?_ (hv := by (intro W2 hW2; have c := C1.out W2 hW2; go_simp; try with_reducible rfl))
    refine dt 9 HS0.out ?_
    refine dt 10 HS0.out ?_ (hv := by (intro W2 hW2; have c := C0.out W2 hW2; go_simp; try with_reducible rfl))
    refine dt 11 HS0.out ?_
    refine dt 12 HS0.out ?_
    refine dt 13 HS0.out ?_
    refine dt 14 HS0.out ?_
    refine dt 15 HS0.out ?_ (hv := by (intro W2 hW2; have c := G0.out W2 hW2; go_simp; try with_reducible rfl))
    refine dt 16 HS0.out ?_ (hv := by (intro W2 hW2; have c := LK.out W2 hW2; go_simp; try with_reducible rfl))
    refine dt 17 HS0.out ?_
    refine dt 18 HS0.out ?_
    refine dt 19 HS0.out ?_
    refine dt 20 HS0.out ?_
    refine du 21 HS0.out ?_
    refine du 22 HS0.out ?_
    refine du 23 HS0.out ?_
    refine du 24 HS0.out ?_
    refine du 25 HS0.out ?_
    refine du 26 HS0.out ?_
    refine du 27 HS0.out ?_
    refine du 28 HS0.out ?_
    refine du 29 HS0.out ?_
    refine du 30 HS0.out ?_
    refine dt 31 HS0.out ?_
    refine dt 32 HS0.out ?_
    refine wpAnyH_done (by kernel_rfl) ?_ _
    go_wp2_with fail
    go_ret
    exact ⟨by rw [HRT.out]; rfl, HB.out.trans (HS0.out.mono HB.out.size)⟩
end Go.Proofs.Ytmggggijamligaa
namespace Go.Proofs.Ytmggggijamligaa
set_option linter.unusedVariables false
open Go.RowKit
open Go.Lib (hid)
theorem Sl.row {w : World} {v : Value} {cs : List C7} (h : Sl w v cs) : ∃ b o cap a, v = .slice a cs.length cap ∧ (0 < cs.length → a = some ⟨b, o, none⟩ ∧ b < w.heap.size) ∧ ∀ k c, cs[k]? = some c → w.rangeAt b (o + k * 7) c.cells := by
  obtain ⟨b, o, cap, a, hv, hn, ha, hc, hb⟩ := h
  exact ⟨b, o, cap, a, hv, fun h0 => ⟨ha h0, hb h0⟩, fun k c hk j u hu => by rw [Nat.add_assoc]; exact hc k c hk j u hu⟩
theorem dep_next2 {l : List En} {had : List Int} {t : Int} {vs : List C7} {k : Nat} {c : C7} (hc : vs[k]? = some c) (h : ∀ z ∈ vs.take k, depB l had t z = true) (h1 : depB l had t c = true) : ∀ z ∈ vs.take (k + 1), depB l had t z = true := fun z hz => by
  rw [List.take_add_one, hc] at hz
  rcases List.mem_append.1 hz with hz | hz
  · exact h z hz
  · simp at hz; subst hz; exact h1
set_option maxHeartbeats 8000000 in
set_option maxRecDepth 100000 in
theorem cReady {w : World} {lv : Value} {F H nf nh : Nat} {l : List En} {had : List Int} (hV : Vw w lv F H nf nh l had) (hl : l.length ≤ 1000) {i : Nat} {x : En} (hx : l[i]? = some x) (hxs : x.v.length ≤ 100) {r : Bool} (hr : r = x.v.all (depB l had x.e.vt)) : Calls Try.prog 22 #[.agg (vwC lv F H), .int .i64 i] w fun e w' => e = .returned (.bool r) ∧ Below w.heap.size w w' := by
  have HV := hid hV
  have HR := hid hr
  have hil := (List.getElem?_eq_some_iff.1 hx).1
  have HWF : Hid (∀ c ∈ x.v, wfI c.i) := hid (hV.wf.1 x (List.mem_of_getElem? hx)).2
  obtain ⟨t, ht⟩ : ∃ z, z = x.e.vt := ⟨_, rfl⟩
  have HT := hid ht
  have hS : Hid (∀ W, Below w.heap.size w W → ∀ (c : C7) (q : Bool), c ∈ x.v → q = !depB l had t c → Calls Try.prog 29 #[.agg (vwC lv F H), .int .i64 c.i, .int .i64 t] W fun e w' => e = .returned (.bool q) ∧ Below W.heap.size W w') := hid (fun W hW c q hc hq => cStopped (hV.on hW) hl rfl (HWF.out c hc) hq)
  obtain ⟨b, o, cap, hlv, hbw, hrg⟩ := hV.sl.entry hx
  obtain ⟨pb, po, pcap, pa, hpv, hpa, hpc⟩ := (hV.at' x (List.mem_of_getElem? hx)).2.2.row
  obtain ⟨m, hm⟩ : ∃ m, m = l.length := ⟨_, rfl⟩
  rw [← hm] at hlv hil hl
  obtain ⟨n, hn⟩ : ∃ n, n = x.v.length := ⟨_, rfl⟩
  rw [← hn] at hpv hpa hxs
  have HPC := hid hpc
  have HPN := hid hn
  have a17 : w.cell? ⟨b, o + i * 19 + 17, none⟩ = some (.int .i64 t) := by rw [ht]; exact hrg 17 _ rfl
  have a18 : w.cell? ⟨b, o + i * 19 + 18, none⟩ = some (.slice pa n pcap) := by rw [← hpv]; exact hrg 18 _ rfl
  have hji : ((i : Int) < m) := by omega
  subst hlv
  have HX := hid hx
  clear hV hr hx hm hrg hn hpc ht hpv
  unfold vwC at hS ⊢
  go_enter Try.func22, Try.ntmps22
  go_upto_region 1 with fail
  have HB : Hid (Below w.heap.size w (w.alloc (.cells #[.slice (some ⟨b, o, none⟩) m cap, .map (some F), .map (some H)] 63))) := hid ((Below.refl _ w).alloc (Nat.le_refl _) _)
  have HN : Hid ((w.alloc (.cells #[.slice (some ⟨b, o, none⟩) m cap, .map (some F), .map (some H)] 63)).heap[w.heap.size]? = some (.cells #[.slice (some ⟨b, o, none⟩) m cap, .map (some F), .map (some H)] 63 (0, 0))) := hid (heap_alloc_new w _)
  generalize w.alloc (.cells #[.slice (some ⟨b, o, none⟩) m cap, .map (some F), .map (some H)] 63) = W at HB HN ⊢
  have hVW : w.heap.size < W.heap.size := (Array.getElem?_eq_some_iff.1 HN.out).1
  have hbW : b < W.heap.size := Nat.lt_trans hbw hVW
  have CV : Hid (∀ W2, Below W.heap.size W W2 → W2.rangeAt w.heap.size 0 [.slice (some ⟨b, o, none⟩) m cap, .map (some F), .map (some H)]) := hid (fun W2 hW2 j v hv => by rw [Nat.zero_add]; exact (hW2.cell hVW).trans ((cellAt' HN.out j).trans (by rw [← Array.getElem?_toList]; exact hv)))
  have C0 : Hid (∀ W2, Below W.heap.size W W2 → W2.cell? ⟨w.heap.size, 0, none⟩ = some (.slice (some ⟨b, o, none⟩) m cap)) := hid (fun W2 hW2 => (hW2.cell hVW).trans ((cellAt' HN.out 0).trans rfl))
  have G17 : Hid (∀ W2, Below W.heap.size W W2 → W2.cell? ⟨b, o + i * 19 + 17, none⟩ = some (.int .i64 t)) := hid (fun W2 hW2 => (hW2.cell hbW).trans ((HB.out.cell hbw).trans a17))
  have c0 := C0.out W (Below.refl _ W)
  have g18 : W.cell? ⟨b, o + i * 19 + 18, none⟩ = some (.slice pa n pcap) := (HB.out.cell hbw).trans a18
  clear a17 a18 HV
  go_wp2_with fail
  go_loopw [15] (fun s15 wr => ∃ (k : Nat), k ≤ n ∧ s15 = .int .i64 k ∧ Hid (∀ z ∈ x.v.take k, depB l had t z = true) ∧ Hid (Below W.heap.size W wr)) (fun s15 _ => n - (RowKit.intOf s15).toNat)
  case atStart => exact ⟨0, Nat.zero_le _, rfl, hid (by simp), hid (Below.refl _ _)⟩
  case round =>
    clear c0 g18
    obtain ⟨k, hk, rfl, HNO, HBR⟩ := hrel
    by_cases hlt : k < n
    · have hlti : ((k : Int) < n) := by omega
      obtain ⟨rfl, hpb⟩ := hpa (by omega)
      obtain ⟨c, hc⟩ : ∃ c, x.v[k]? = some c := ⟨x.v[k]'(by rw [← HPN.out]; exact hlt), List.getElem?_eq_getElem (by rw [← HPN.out]; exact hlt)⟩
      have HC := hid hc
      have HBW : Hid (Below w.heap.size w wr) := hid (HB.out.trans (HBR.out.mono HB.out.size))
      obtain ⟨d0, d1, d2, d3, d4, d5, d6⟩ : CmdR wr pb (po + k * 7) c := by
        have := fun j u hu => (HBW.out.cell hpb).trans (HPC.out k c hc j u hu)
        exact ⟨this 0 _ rfl, this 1 _ rfl, this 2 _ rfl, this 3 _ rfl, this 4 _ rfl, this 5 _ rfl, this 6 _ rfl⟩
      clear hc
      go_upto_region 4 with fail
      have HBA : Hid (Below wr.heap.size wr (wr.alloc (.cells #[.int .i64 c.i, .int .i64 c.k, .int .i64 c.s, .int .i64 c.t, .int .i64 c.d, .int .i64 c.p, .int .i64 c.q] 31))) := hid ((Below.refl _ wr).alloc (Nat.le_refl _) _)
      have HNA : Hid ((wr.alloc (.cells #[.int .i64 c.i, .int .i64 c.k, .int .i64 c.s, .int .i64 c.t, .int .i64 c.d, .int .i64 c.p, .int .i64 c.q] 31)).heap[wr.heap.size]? = some (.cells #[.int .i64 c.i, .int .i64 c.k, .int .i64 c.s, .int .i64 c.t, .int .i64 c.d, .int .i64 c.p, .int .i64 c.q] 31 (0, 0))) := hid (heap_alloc_new wr _)
      generalize wr.alloc (.cells #[.int .i64 c.i, .int .i64 c.k, .int .i64 c.s, .int .i64 c.t, .int .i64 c.d, .int .i64 c.p, .int .i64 c.q] 31) = wa at HBA HNA ⊢
      have HBX : Hid (Below W.heap.size W wa) := hid (HBR.out.trans (HBA.out.mono HBR.out.size))
      have hcw : wr.heap.size < wa.heap.size := (Array.getElem?_eq_some_iff.1 HNA.out).1
      have CI : Hid (∀ W2, Below wa.heap.size wa W2 → W2.cell? ⟨wr.heap.size, 0, none⟩ = some (.int .i64 c.i)) := hid (fun W2 hW2 => (hW2.cell hcw).trans ((cellAt' HNA.out 0).trans rfl))
      have BX : Hid (∀ W2, Below wa.heap.size wa W2 → Below W.heap.size W W2) := hid (fun W2 hW2 => HBX.out.trans (hW2.mono HBX.out.size))
      obtain ⟨q, hq⟩ : ∃ q, q = !depB l had t c := ⟨_, rfl⟩
      have HQ := hid hq
      obtain ⟨ci, hci⟩ : ∃ z, z = c.i := ⟨_, rfl⟩
      have HCI := hid hci
      rw [← hci] at CI
      clear hq hci d0 d1 d2 d3 d4 d5 d6
      refine d0 (Below wa.heap.size wa) 11 (Array.replicate 11 false) ?_
      rw [show Array.replicate 11 false = #[false, false, false, false, false, false, false, false, false, false, false] from rfl]
      have HS0 : Hid (Below wa.heap.size wa wa.drew) := hid (belowDrew (Below.refl _ wa))
      generalize wa.drew = wd at HS0 ⊢
      refine dl 0 [.slice (some ⟨b, o, none⟩) m cap, .map (some F), .map (some H)] w.heap.size 0 (fun W2 hW2 => CV.out W2 (BX.out W2 hW2)) Try.underlying63 HS0.out ?_
      refine dt 1 HS0.out ?_
      refine dt 2 HS0.out ?_ (hv := by (intro W2 hW2; have c := CI.out W2 hW2; go_simp; try with_reducible rfl))
      refine dt 3 HS0.out ?_
      refine dt 4 HS0.out ?_ (hv := by (intro W2 hW2; have c := C0.out W2 (BX.out W2 hW2); go_simp; try with_reducible rfl))
      refine dt 5 HS0.out ?_
      refine dt 6 HS0.out ?_
      refine dt 7 HS0.out ?_
      refine dt 8 HS0.out ?_
      refine dt 9 HS0.out ?_ (hv := by (intro W2 hW2; have c := G17.out W2 (BX.out W2 hW2); go_simp; try with_reducible rfl))
      refine dop 10 ?_
      intro K hK
      go_simp
      have hcall := hS.out wd (HB.out.trans ((BX.out wd HS0.out).mono HB.out.size)) c q (List.mem_of_getElem? HC.out) HQ.out
      rw [← HCI.out] at hcall
      refine hcall.mono ?_
      clear hcall
      rintro e w1 ⟨rfl, hB1⟩
      have HS1 : Hid (Below wa.heap.size wa w1) := hid (HS0.out.trans (hB1.mono HS0.out.size))
      clear hB1
      refine hK.out _ _ HS1.out ?_
      clear hK K
      refine wpAnyH_done (by kernel_rfl) ?_ _
      rcases q with _ | _
      · have HD : Hid (depB l had t c = true) := hid (by have := HQ.out; simpa using this.symm)
        go_wp2_with fail
        go_roundw
        case rel => exact ⟨k + 1, by omega, by go_num, hid (dep_next2 HC.out HNO.out HD.out), hid (BX.out w1 HS1.out)⟩
        case measure => first | omega | (simp [RowKit.intOf]; omega)
      · have HRT : Hid (r = false) := hid (by
          have hd : depB l had t c = false := by have := HQ.out; simpa using this.symm
          rw [HR.out, List.all_eq_false]
          exact ⟨c, List.mem_of_getElem? HC.out, by rw [← HT.out, hd]; decide⟩)
        go_wp2_with fail
        go_ret
        exact ⟨by rw [HRT.out]; rfl, HB.out.trans ((BX.out w1 HS1.out).mono HB.out.size)⟩
    · have hlti : ¬ ((k : Int) < n) := by omega
      have hkn : k = n := by omega
      have HRT : Hid (r = true) := hid (by rw [HR.out, List.all_eq_true, ← HT.out]; exact fun c hc => HNO.out c (by rw [hkn, HPN.out, List.take_length]; exact hc))
      go_wp2_with fail
      go_ret
      exact ⟨by rw [HRT.out]; rfl, HB.out.trans (HBR.out.mono HB.out.size)⟩
end Go.Proofs.Ytmggggijamligaa

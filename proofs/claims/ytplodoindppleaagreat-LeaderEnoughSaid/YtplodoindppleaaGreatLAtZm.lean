import Derived.Test.YtplodoindppleaaGreatG29
import Derived.Test.YtplodoindppleaaGreatLEnuZm
import Derived.Laws.ResultCell
namespace Go.Proofs.YtplodoindppleaaGreat
set_option linter.unusedVariables false
open Go.RowKit
open Go.Lib (hid)
theorem szOf {w : World} {B q b n : Nat} {nd N : Int} {g : Gs} {sent got : List An} (hL : Ld w B q b n nd N g) (hI : InvL nd N sent got g.lst) (hN : 3 ≤ N ∧ N ≤ 9) : ∀ i p x, g i = some (p, x) → Sz 37 x := fun i p x hg => by
  have h := hI i x.att (by unfold Gs.lst; rw [hg]; rfl)
  refine ⟨?_, h.vl, fun m hm => ?_, ?_⟩
  · have := h.len hN.2
    rw [rs_len] at this
    omega
  · exact (h.gt m.an (List.mem_map.2 ⟨m, hm, rfl⟩)).1.sh
  · have hc : x.c.ok = true := h.cok.1
    have : 16 ≤ x.c.i ∧ x.c.i < 4112 := by
      unfold C7.ok oneB at hc
      simp only [Bool.and_eq_true] at hc
      have hh : namedB x.c.i = true := by
        first | exact hc.1 | exact hc.1.1 | exact hc.1.1.1 | exact hc.1.1.1.1
      have := named_true.1 hh
      exact ⟨this.1, this.2.1⟩
    have h1 := this.1
    have h2 := this.2
    clear hc
    exact i64_wf (by omega)
theorem nodup_sub {l k : List Int} (hd : l.Nodup) (h : ∀ x ∈ l, x ∈ k) : l.length ≤ k.length := by
  induction l generalizing k with
  | nil => exact Nat.zero_le _
  | cons x l ih =>
    have hx := h x List.mem_cons_self
    obtain ⟨hn, hd⟩ := List.nodup_cons.1 hd
    have := ih hd (k := k.erase x) fun y hy => by
      have hne : y ≠ x := fun e => hn (e ▸ hy)
      exact (List.mem_erase_of_ne hne).2 (h y (List.mem_cons_of_mem _ hy))
    rw [List.length_erase_of_mem hx] at this
    have hp := List.length_pos_of_mem hx
    rw [List.length_cons]
    omega
theorem seen_sub {k : Ms} : ∀ {ls : List Ms} {sn : List Int} {f : Int}, f ∈ sn → f ∈ ls.foldl (seenS k) sn
  | [], _, _, h => h
  | m :: ls, sn, f, h => by
    refine seen_sub (ls := ls) ?_
    unfold seenS
    split
    · exact List.mem_append_left _ h
    · exact h
theorem seen_mem {k : Ms} : ∀ {ls : List Ms} {sn : List Int} {m : Ms}, m ∈ ls → likeB k m = true → m.m.fr ∈ ls.foldl (seenS k) sn
  | [], _, _, h, _ => by cases h
  | x :: ls, sn, m, h, hl => by
    rcases List.mem_cons.1 h with rfl | h
    · refine seen_sub (ls := ls) ?_
      unfold seenS
      split
      · exact List.mem_append_right _ (List.mem_singleton.2 rfl)
      · rename_i hn
        rcases hc : sn.contains m.m.fr with _ | _
        · exact absurd ⟨hl, hc⟩ hn
        · exact List.contains_iff_mem.1 hc
    · exact seen_mem (ls := ls) h hl
theorem seen_ge {k : Ms} {ls : List Ms} {rs : List An} (hd : (rs.map An.fr).Nodup) (h : ∀ r ∈ rs, ∃ m ∈ ls, m.an = r ∧ likeB k m = true) : rs.length ≤ (seenF k ls).length := by
  have := nodup_sub (k := seenF k ls) hd fun f hf => by
    obtain ⟨r, hr, rfl⟩ := List.mem_map.1 hf
    obtain ⟨m, hm, rfl, hl⟩ := h r hr
    exact seen_mem hm hl
  rwa [List.length_map] at this
theorem sameB_refl' (l : List C7) : sameB l l = true := by
  first | exact sameB_refl l | (unfold sameB; simp) | (rw [sameB_iff])
theorem ask_of {sent : List Ms} {so bal : Int} {c : C7} {o : Ms} (h : ∃ s ∈ sent.map Ms.an, s.so = so ∧ s.bal = bal ∧ s.c = c ∧ s.vt = o.m.vt ∧ s.vl = o.v) : askB sent so bal c o = true := by
  obtain ⟨s, hs, h1, h2, h3, h4, h5⟩ := h
  obtain ⟨x, hx, rfl⟩ := List.mem_map.1 hs
  refine ask_yes hx ?_
  have e1 : x.m.so = so := h1
  have e2 : x.m.bal = bal := h2
  have e3 : x.m.c = c := h3
  have e4 : x.m.vt = o.m.vt := h4
  have e5 : x.v = o.v := h5
  unfold isAsk sameVB
  rw [e1, e2, e3, e4, e5]
  simp [C7.same_iff.2 rfl, sameB_refl']
theorem six_none {m : An} (h : rightA m = true) (hs : m.so = 6) : m.vt = 0 := by
  have ho := (right_own h).2.2.2.2.2
  have hs' : (ofA m).m.so = 6 := hs
  unfold ownB at ho
  rw [if_neg (by omega), if_neg (by omega), if_neg (by omega), if_neg (by omega), if_neg (by omega)] at ho
  simp only [Bool.and_eq_true] at ho
  have h1 := ho.1
  unfold noneVAF noneL noneB at h1
  simp at h1
  first | exact h1.1 | exact h1.1.1 | exact h1.1.1.1
theorem enough_of {N : Int} {sent got : List Ms} {m o : Ms} (h : EnA N (sent.map Ms.an) (got.map Ms.an) m.an o.an) : enoughB N sent got m o = true := by
  unfold enoughB
  rcases h with ⟨h1, h2, h3⟩ | ⟨h1, h2, h3, rs, h4, h5, h6⟩ | ⟨h1, h2, rs, h4, h5, h6⟩
  · have e1 : m.m.so = 7 := h1
    have e2 : m.m.vt = o.m.vt := h2
    have e3 : m.v = o.v := h3
    rw [if_pos e1]
    unfold sameVB
    rw [e2, e3]
    simp [sameB_refl']
  · have e1 : m.m.so = 1 := h1
    have e3 : m.m.bal = 0 := h3
    rw [if_neg (by omega), if_pos e1, ask_of (c := m.m.c) (by exact h2), e3]
    have hge := seen_ge (k := likeK m o) (ls := got) h5 fun r hr => by
      obtain ⟨g1, g2, g3, g4, g5, g6, g7⟩ := h4 r hr
      obtain ⟨x, hx, rfl⟩ := List.mem_map.1 g1
      refine ⟨x, hx, rfl, ?_⟩
      have f2 : rightM x = true := g2
      have f3 : x.m.so = 1 := g3
      have f4 : x.m.c = m.m.c := g4
      have f5 : x.m.bal = 0 := g5
      have f6 : x.m.vt = o.m.vt := g6
      have f7 : x.m.fl = true := g7
      unfold likeB likeK
      rw [if_pos e1, f2, f3, f4, f5, f6, f7]
      simp [C7.same_iff.2 rfl]
    simp
    omega
  · have e1 : m.m.so = 6 := h1
    rw [if_neg (by omega), if_neg (by omega), if_pos e1, ask_of (c := m.m.c) (by exact h2)]
    have hge := seen_ge (k := likeK m o) (ls := got) h5 fun r hr => by
      obtain ⟨g1, g2, g3, g4, g5⟩ := h4 r hr
      obtain ⟨x, hx, rfl⟩ := List.mem_map.1 g1
      refine ⟨x, hx, rfl, ?_⟩
      have f2 : rightM x = true := g2
      have f3 : x.m.so = 6 := g3
      have f4 : x.m.c = m.m.c := g4
      have f5 : x.m.bal = m.m.bal := g5
      have f6 : x.m.vt = 0 := six_none g2 g3
      unfold likeB likeK
      rw [if_neg (by omega), f2, f3, f4, f5, f6]
      simp [C7.same_iff.2 rfl]
    simp
    omega
theorem results_ttc {fn : Func} {s u p : Tmp} {ty : TypeId} (h : fn.results = #[.tmp s, .tmp u, .cell p ty]) (tmps : Array Value) (P : Program) (w : World) :
    (results fn tmps).run P w =
      ((asAddr (tmps.getD p undef)).run P w).andThen fun a w₁ => ((loadVar ty a).run P w₁).andThen fun v w₂ => .ok (.tuple #[tmps.getD s undef, tmps.getD u undef, v]) w₂ := by
  simp only [results, h]
  simp [Sem.run_bind, Result.andThen]
theorem ret_ttc {P : Program} {fn : Func} {a : Act} {w : World} {s p u : Tmp} {ty : TypeId} {b o : Nat} {cs : List Value} {d : TypeDesc} {v1 v2 : Value} (h : fn.results = #[.tmp s, .tmp u, .cell p ty]) (hp : a.tmps.getD p undef = .pointer (some ⟨b, o, none⟩)) (h1 : a.tmps.getD s undef = v1) (h2 : a.tmps.getD u undef = v2)
    (hc : w.rangeAt b o cs) (ht : P.underlying ty = some d) (hd : d.isRow = true) (hi : (P.info? ty).map (·.size) = some cs.length) : (results fn a.tmps).run P w = .ok (.tuple #[v1, v2, .agg cs.toArray]) w := by
  rw [results_ttc h, hp, h1, h2]
  simp [asAddr, run_loadVar_mid w b o ty cs d hc ht hd hi, Result.andThen]
set_option maxHeartbeats 8000000 in
set_option maxRecDepth 100000 in
theorem cAtL_no {w : World} {B q b n : Nat} {nd N : Int} {g : Gs} (h : Ld w B q b n nd N g) {i : Int} (hw : (Lit.int .i64 i).wf = true) (hg : g i = none) : Calls Tryz.prog 9 #[ptr q, .int .i64 i] w fun e w' => e = .returned (.tuple #[.int .i64 0, .int .i64 0, .agg #[.int .i64 0, .slice none 0 0]]) ∧ Below w.heap.size w w' := by
  have HB0 : Hid (Below w.heap.size w (w.alloc zeroVc)) := hid ((Below.refl _ w).alloc (Nat.le_refl _) _)
  have HR0 : Hid (RoomV (w.alloc zeroVc) w.heap.size) := hid (roomVZ w)
  have HL0 := hid (h.on HB0.out)
  have hlk := run_lookL HL0.out.lq.mp hw
  rw [show g.ptrs i = none by unfold Gs.ptrs; rw [hg]; rfl] at hlk
  rw [show ptrO none = Value.pointer none from rfl] at hlk
  obtain ⟨k0, k1, k2⟩ := HL0.out.lq.cells
  go_enter Tryz.func9, Tryz.ntmps9
  go_upto_region 1 with fail
  generalize w.alloc zeroVc = W0 at HB0 HR0 HL0 hlk k0 k1 k2 ⊢
  go_wp2_with (first | ((with_reducible refine storeV (x := ?wx11) (y := ?wy11) (b := w.heap.size) 0 zS ?wg11 ?wo11 ?wxx11 ?wyy11 ?wc11 ?wh11); (case wg11 => rfl); (case wo11 => rfl); (case wxx11 => rfl); (case wyy11 => rfl); (case wc11 => exact HR0.out); intro W2 hO hU; have HO2 := hid hO; have HB2 : Hid (Below w.heap.size w W2) := hid (HB0.out.trans (hU.below w.heap.size (Nat.le_refl _))); clear hO hU) | fail)
  refine bodyPost_ret (ret_ttc rfl rfl rfl rfl HO2.out.range Tryz.underlying34 rfl (infoVl _ _)) rfl ⟨rfl, HB2.out⟩
end Go.Proofs.YtplodoindppleaaGreat

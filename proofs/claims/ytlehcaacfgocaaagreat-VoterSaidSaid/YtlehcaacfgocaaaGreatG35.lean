import Derived.Test.YtlehcaacfgocaaaGreatVBaseZm
import Derived.Test.YtlehcaacfgocaaaGreatG05
import Derived.Test.YtlehcaacfgocaaaGreatQNewZm
import Derived.Test.YtlehcaacfgocaaaGreatG01
import Derived.Test.YtlehcaacfgocaaaGreatVSetZm
namespace Go.Proofs.YtlehcaacfgocaaaGreat
set_option linter.unusedVariables false
open Go.RowKit
open Go.Lib (hid)
theorem cSortW (x : Int) (w : World) : Calls Tryz.prog 61 #[.int .i64 x] w fun e w' => e = .returned (.bool (inB x 9)) ∧ w = w' := by
  have hc : (0 ≤ x ∧ x < 9) ∨ (0 ≤ x ∧ ¬ x < 9) ∨ ¬ 0 ≤ x := by omega
  rcases hc with ⟨h1, h2⟩ | ⟨h1, h2⟩ | h1
  · have e1 : inB x 9 = true := by simp [inB, h1, h2]
    rw [e1]
    go_enter Tryz.func61, Tryz.ntmps61
    go_wp2
    go_ret
    exact ⟨rfl, rfl⟩
  · have e1 : inB x 9 = false := by simp [inB, h2]
    rw [e1]
    go_enter Tryz.func61, Tryz.ntmps61
    go_wp2
    go_ret
    exact ⟨rfl, rfl⟩
  · have e1 : inB x 9 = false := by simp [inB, h1]
    rw [e1]
    go_enter Tryz.func61, Tryz.ntmps61
    go_wp2
    go_ret
    exact ⟨rfl, rfl⟩
theorem cReplicaW (x : Int) (w : World) : Calls Tryz.prog 62 #[.int .i64 x] w fun e w' => e = .returned (.bool (inB x 9)) ∧ w = w' := by
  have hc : (0 ≤ x ∧ x < 9) ∨ (0 ≤ x ∧ ¬ x < 9) ∨ ¬ 0 ≤ x := by omega
  rcases hc with ⟨h1, h2⟩ | ⟨h1, h2⟩ | h1
  · have e1 : inB x 9 = true := by simp [inB, h1, h2]
    rw [e1]
    go_enter Tryz.func62, Tryz.ntmps62
    go_wp2
    go_ret
    exact ⟨rfl, rfl⟩
  · have e1 : inB x 9 = false := by simp [inB, h2]
    rw [e1]
    go_enter Tryz.func62, Tryz.ntmps62
    go_wp2
    go_ret
    exact ⟨rfl, rfl⟩
  · have e1 : inB x 9 = false := by simp [inB, h1]
    rw [e1]
    go_enter Tryz.func62, Tryz.ntmps62
    go_wp2
    go_ret
    exact ⟨rfl, rfl⟩
theorem cBallotW (t : Int) (w : World) : Calls Tryz.prog 63 #[.int .i64 t] w fun e w' => e = .returned (.bool (withinB t 1048576)) ∧ w = w' := by
  by_cases h0 : 0 ≤ t
  · go_enter Tryz.func63, Tryz.ntmps63
    go_wp2
    go_ret
    exact ⟨ret_bool (by unfold withinB; symm; simp; omega), rfl⟩
  · go_enter Tryz.func63, Tryz.ntmps63
    go_wp2
    go_ret
    exact ⟨ret_bool (by unfold withinB; symm; simp; omega), rfl⟩
set_option maxHeartbeats 600000 in
set_option maxRecDepth 100000 in
theorem cStampedW {v : Value} {l : List C7} {w : World} (t : Int) (h : Sl w v l) (hl : l.length ≤ 1024) : Calls Tryz.prog 108 #[.agg #[.int .i64 t, v]] w fun e w' => e = .returned (.bool (fullB t l)) ∧ Below w.heap.size w w' := by
  obtain ⟨_, _, cap, a, hv, _⟩ := id h
  subst hv
  have hS := cSetRight (h.on ((Below.refl _ w).alloc (Nat.le_refl _) (boxV t (.slice a l.length cap)))) hl
  have hV := fun W => cValid t W
  rcases hv : validB t with _ | _
  · rw [hv] at hV
    have HE := hid (show fullB t l = false by unfold fullB; rw [hv]; rfl)
    clear hv
    go_enter Tryz.func108, Tryz.ntmps108
    go_wp2_with (first | (go_at_call 106; refine (hV _).mono ?_; rintro e w' ⟨rfl, rfl⟩) | (go_at_call 110; refine hS.mono ?_; rintro e w1 ⟨rfl, hB⟩; have HB := hid hB; clear hB))
    go_ret
    exact ⟨ret_bool HE.out.symm, ((Below.refl _ w).alloc (Nat.le_refl _) _)⟩
  · rw [hv] at hV
    have HE := hid (show fullB t l = setB l by unfold fullB; rw [hv]; rfl)
    clear hv
    go_enter Tryz.func108, Tryz.ntmps108
    go_wp2_with (first | (go_at_call 106; refine (hV _).mono ?_; rintro e w' ⟨rfl, rfl⟩) | (go_at_call 110; refine hS.mono ?_; rintro e w1 ⟨rfl, hB⟩; have HB := hid hB; clear hB))
    go_ret
    exact ⟨ret_bool HE.out.symm, ((Below.refl _ w).alloc (Nat.le_refl _) _).trans (HB.out.mono (by simp))⟩
structure Vv where
  t : Int
  p : Sv
  l : List C7
def RowsV (w : World) (b o : Nat) (vs : List Vv) : Prop := ∀ (j : Nat) (x : Vv), vs[j]? = some x → w.cell? ⟨b, o + j * 2, none⟩ = some (.int .i64 x.t) ∧ w.cell? ⟨b, o + j * 2 + 1, none⟩ = some (.slice x.p.a x.p.n x.p.c) ∧ x.p.n = x.l.length
def noneL (vs : List Vv) : Bool := vs.all fun x => noneB x.t x.l
set_option maxHeartbeats 4000000 in
set_option maxRecDepth 100000 in
theorem cNoneW {w : World} {b cap : Nat} {vs : List Vv} (h : RowsV w b 0 vs) (hb : b < w.heap.size) (hl : vs.length ≤ 100) : Calls Tryz.prog 109 #[.slice (some ⟨b, 0, none⟩) vs.length cap] w fun e w' => e = .returned (.bool (noneL vs)) ∧ Below w.heap.size w w' := by
  have HR := hid h
  obtain ⟨n, hn⟩ : ∃ n, n = vs.length := ⟨_, rfl⟩
  rw [← hn] at hl ⊢
  have HN := hid hn
  clear h hn
  go_enter Tryz.func109, Tryz.ntmps109
  go_wp2_with fail
  go_loopw [4, 7] (fun _ s7 wr => ∃ k : Nat, k ≤ n ∧ s7 = .int .i64 k ∧ Hid (∀ x ∈ vs.take k, noneB x.t x.l = true) ∧ Below w.heap.size w wr) (fun _ s7 _ => n - (RowKit.intOf s7).toNat)
  case atStart => exact ⟨0, Nat.zero_le _, rfl, hid (by simp), Below.refl _ _⟩
  case round =>
    obtain ⟨k, hk, rfl, HA, hB⟩ := hrel
    have HB := hid hB
    by_cases hlt : k < n
    · have hltz : (k : Int) < (n : Int) := by omega
      obtain ⟨x, hx⟩ : ∃ x, vs[k]? = some x := ⟨vs[k]'(by rw [← HN.out]; exact hlt), List.getElem?_eq_getElem (by rw [← HN.out]; exact hlt)⟩
      obtain ⟨k0, k1, hpn⟩ := HR.out k x hx
      rw [Nat.zero_add] at k0 k1
      have d0 := (hB.cell (p := ⟨b, k * 2, none⟩) hb).trans k0
      have d1 := (hB.cell (p := ⟨b, k * 2 + 1, none⟩) hb).trans k1
      have HX := hid hx
      have HPN := hid hpn
      obtain ⟨⟨xt, ⟨pa, pn, pc⟩, xl⟩, hxx⟩ : ∃ y : Vv, y = x := ⟨x, rfl⟩
      subst hxx
      clear hx hpn k0 k1 hB
      have HBx : Hid (Below w.heap.size w (wr.alloc (.cells #[.int .i64 xt, .slice pa pn pc] 48))) := hid (HB.out.alloc HB.out.size _)
      by_cases h1 : xt = 0
      · by_cases h2 : 0 < pn
        · have h2z : (0 : Int) < (pn : Int) := by omega
          have HE : Hid (noneL vs = false) := hid (by
            unfold noneL
            rw [List.all_eq_false]
            refine ⟨_, List.mem_of_getElem? HX.out, ?_⟩
            have := HPN.out
            simp only [noneB, Bool.and_eq_true, decide_eq_true_eq]
            simp only at this
            omega)
          subst h1
          go_wp2_with fail
          go_ret
          exact ⟨ret_bool HE.out.symm, by first | exact HBx.out | exact HB.out⟩
        · have h2z : ¬ (0 : Int) < (pn : Int) := by omega
          have HNX : Hid (noneB xt xl = true) := hid (by
            have := HPN.out
            simp only at this
            simp only [noneB, Bool.and_eq_true, decide_eq_true_eq]
            omega)
          subst h1
          go_wp2_with fail
          go_roundw
          case rel => exact ⟨k + 1, by omega, by go_num, hid (fun y hy => by
            rw [List.take_add_one, HX.out] at hy
            rcases List.mem_append.1 hy with hy | hy
            · exact HA.out y hy
            · simp at hy; subst hy; exact HNX.out), by first | exact HBx.out | exact HB.out⟩
          case measure => first | omega | (simp [RowKit.intOf]; omega)
      · have HE : Hid (noneL vs = false) := hid (by
          unfold noneL
          rw [List.all_eq_false]
          refine ⟨_, List.mem_of_getElem? HX.out, ?_⟩
          simp only [noneB, Bool.and_eq_true, decide_eq_true_eq]
          omega)
        go_wp2_with fail
        go_ret
        exact ⟨ret_bool HE.out.symm, by first | exact HBx.out | exact HB.out⟩
    · have hltz : ¬ (k : Int) < (n : Int) := by omega
      have HE : Hid (noneL vs = true) := hid (by
        unfold noneL
        rw [List.all_eq_true]
        intro x hx
        refine HA.out x ?_
        rw [show k = vs.length by have := HN.out; omega, List.take_length]; exact hx)
      go_wp2_with fail
      go_ret
      exact ⟨ret_bool HE.out.symm, HB.out⟩
end Go.Proofs.YtlehcaacfgocaaaGreat
namespace Go.Proofs.YtlehcaacfgocaaaGreat
set_option linter.unusedVariables false
open Go.RowKit
open Go.Lib (hid)
abbrev noneAF (m : Ms) : Bool := noneL [⟨m.m.xt, m.m.xp, m.a⟩, ⟨m.m.ft, m.m.fp, m.f⟩]
abbrev noneVAF (m : Ms) : Bool := noneL [⟨m.m.vt, m.m.vp, m.v⟩, ⟨m.m.xt, m.m.xp, m.a⟩, ⟨m.m.ft, m.m.fp, m.f⟩]
def ownB (m : Ms) : Bool :=
  if m.m.so = 0 ∨ m.m.so = 1 then fullB m.m.vt m.v && (decide (m.m.s = 0) && (decide (m.m.ab = 0) && noneAF m))
  else if m.m.so = 2 then fullB m.m.vt m.v && (!m.m.fl && (validB m.m.s && (decide (m.m.ab = 0) && noneAF m)))
  else if m.m.so = 4 then decide (m.m.vt = 0) && (setB m.v && (validB m.m.s && (withinB m.m.ab 1048576 && ((noneB m.m.xt m.a || fullB m.m.xt m.a) && (noneB m.m.ft m.f || fullB m.m.ft m.f)))))
  else if m.m.so = 5 ∨ m.m.so = 7 then fullB m.m.vt m.v && (!m.m.fl && (decide (m.m.s = 0) && (decide (m.m.ab = 0) && noneAF m)))
  else if m.m.so = 8 then noneVAF m && (!m.m.fl && (decide (m.m.s = 0) && withinB m.m.ab 1048576))
  else noneVAF m && (!m.m.fl && (decide (m.m.s = 0) && decide (m.m.ab = 0)))
theorem Sl.lenP {w : World} {p : Sv} {l : List C7} (h : Sl w p.v l) : p.n = l.length := by
  obtain ⟨_, _, cap, a, hv', _⟩ := id h
  injection hv'
theorem wp_bsV1 {w : World} (x : Vv) : RowsV (w.alloc (.cells #[.int .i64 x.t, .slice x.p.a x.p.n x.p.c] 48)) w.heap.size 0 [x] ↔ x.p.n = x.l.length := by
  constructor
  · intro h; exact (h 0 x rfl).2.2
  · intro h j y hy
    rcases j with _ | j
    · rw [List.getElem?_cons_zero] at hy
      obtain rfl := Option.some.inj hy
      have ho := heap_alloc_new w (.cells #[.int .i64 x.t, .slice x.p.a x.p.n x.p.c] 48)
      exact ⟨(cellAt' ho 0).trans rfl, (cellAt' ho 1).trans rfl, h⟩
    · simp at hy
theorem wp_bsV2 {w : World} {x y : Vv} (hx : x.p.n = x.l.length) (hy : y.p.n = y.l.length) : RowsV (w.alloc (.cells #[.int .i64 x.t, .slice x.p.a x.p.n x.p.c, .int .i64 y.t, .slice y.p.a y.p.n y.p.c] 48)) w.heap.size 0 [x, y] := fun j z hz => by
  have ho := heap_alloc_new w (.cells #[.int .i64 x.t, .slice x.p.a x.p.n x.p.c, .int .i64 y.t, .slice y.p.a y.p.n y.p.c] 48)
  rcases j with _ | _ | j
  · obtain rfl := Option.some.inj hz
    exact ⟨(cellAt' ho 0).trans rfl, (cellAt' ho 1).trans rfl, hx⟩
  · obtain rfl := Option.some.inj hz
    exact ⟨(cellAt' ho 2).trans rfl, (cellAt' ho 3).trans rfl, hy⟩
  · simp at hz
theorem wp_bsV3 {w : World} {x y u : Vv} (hx : x.p.n = x.l.length) (hy : y.p.n = y.l.length) (hu : u.p.n = u.l.length) : RowsV (w.alloc (.cells #[.int .i64 x.t, .slice x.p.a x.p.n x.p.c, .int .i64 y.t, .slice y.p.a y.p.n y.p.c, .int .i64 u.t, .slice u.p.a u.p.n u.p.c] 48)) w.heap.size 0 [x, y, u] := fun j z hz => by
  have ho := heap_alloc_new w (.cells #[.int .i64 x.t, .slice x.p.a x.p.n x.p.c, .int .i64 y.t, .slice y.p.a y.p.n y.p.c, .int .i64 u.t, .slice u.p.a u.p.n u.p.c] 48)
  rcases j with _ | _ | _ | j
  · obtain rfl := Option.some.inj hz
    exact ⟨(cellAt' ho 0).trans rfl, (cellAt' ho 1).trans rfl, hx⟩
  · obtain rfl := Option.some.inj hz
    exact ⟨(cellAt' ho 2).trans rfl, (cellAt' ho 3).trans rfl, hy⟩
  · obtain rfl := Option.some.inj hz
    exact ⟨(cellAt' ho 4).trans rfl, (cellAt' ho 5).trans rfl, hu⟩
  · simp at hz
set_option maxHeartbeats 1600000 in
set_option maxRecDepth 100000 in
theorem cOrNoneW {w : World} {p : Sv} {l : List C7} (t : Int) (h : Sl w p.v l) (hl : l.length ≤ 1024) : Calls Tryz.prog 111 #[.agg #[.int .i64 t, p.v]] w fun e w' => e = .returned (.bool (noneB t l || fullB t l)) ∧ Below w.heap.size w w' := by
  obtain ⟨pa, pn, pc⟩ := p
  have hpn := h.lenP
  have HB1 := hid (laid1_b w (.cells #[.int .i64 t, .slice pa pn pc] 48))
  have HX : Hid ((w.alloc (.cells #[.int .i64 t, .slice pa pn pc] 48)).heap[w.heap.size]? = some (.cells #[.int .i64 t, .slice pa pn pc] 48 (0, 0))) := hid (laid1_0 w _)
  obtain ⟨r, hr⟩ : ∃ r, r = noneB t l := ⟨_, rfl⟩
  have e : noneL [⟨t, ⟨pa, pn, pc⟩, l⟩] = r := by rw [hr]; simp [noneL]
  have hN : ∀ W : World, Calls Tryz.prog 109 #[.slice (some ⟨W.heap.size, 0, none⟩) 1 1] (W.alloc (.cells #[.int .i64 t, .slice pa pn pc] 48)) fun e w' => e = .returned (.bool r) ∧ Below (W.alloc (.cells #[.int .i64 t, .slice pa pn pc] 48)).heap.size (W.alloc (.cells #[.int .i64 t, .slice pa pn pc] 48)) w' := fun W => by
    have := cNoneW (cap := 1) ((wp_bsV1 (w := W) ⟨t, ⟨pa, pn, pc⟩, l⟩).2 hpn) (by simp) (by simp)
    rw [e] at this
    exact this
  have hF := fun W hB => cStampedW (w := W) t (h.on hB) hl
  have HN := hid hN
  have HF := hid hF
  rw [← hr]
  clear hr hN hF e h hpn
  have tok : Hid (0 = 0) := hid rfl
  rcases r with _ | _
  · go_enter Tryz.func111, Tryz.ntmps111
    go_wp2_with (first
      | (clear tok; (with_reducible refine opaqueW (w.alloc (.cells #[.int .i64 t, .slice pa pn pc] 48)) ?_); intro W0 hW; rw [← hW] at HB1 HX; clear hW; have k0 : W0.cell? ⟨w.heap.size, 0, none⟩ = some (.int .i64 t) := (cellAt' HX.out 0).trans rfl; have k1 : W0.cell? ⟨w.heap.size, 1, none⟩ = some (.slice pa pn pc) := (cellAt' HX.out 1).trans rfl)
      | (go_at_call 109; refine (HN.out W0).mono ?_; rintro z w2 ⟨rfl, hB⟩; have hb0 : Below W0.heap.size W0 w2 := (laid1_b W0 _).trans (hB.mono (by simp)); have HB2 := hid (HB1.out.trans (hb0.mono HB1.out.size)); have hX2 := heapB HX.out hb0 (Array.getElem?_eq_some_iff.1 HX.out).1; have q0 : w2.cell? ⟨w.heap.size, 0, none⟩ = some (.int .i64 t) := (cellAt' hX2 0).trans rfl; have q1 : w2.cell? ⟨w.heap.size, 1, none⟩ = some (.slice pa pn pc) := (cellAt' hX2 1).trans rfl; have hcall := HF.out w2 HB2.out; clear hB hb0 hX2)
      | (go_at_call 108; refine hcall.mono ?_; rintro z w3 ⟨rfl, hB⟩; have HB3 := hid (HB2.out.trans (hB.mono HB2.out.size)); clear hB)
      | fail)
    go_ret
    exact ⟨rfl, HB3.out⟩
  · go_enter Tryz.func111, Tryz.ntmps111
    go_wp2_with (first
      | (clear tok; (with_reducible refine opaqueW (w.alloc (.cells #[.int .i64 t, .slice pa pn pc] 48)) ?_); intro W0 hW; rw [← hW] at HB1 HX; clear hW; have k0 : W0.cell? ⟨w.heap.size, 0, none⟩ = some (.int .i64 t) := (cellAt' HX.out 0).trans rfl; have k1 : W0.cell? ⟨w.heap.size, 1, none⟩ = some (.slice pa pn pc) := (cellAt' HX.out 1).trans rfl)
      | (go_at_call 109; refine (HN.out W0).mono ?_; rintro z w2 ⟨rfl, hB⟩; have hb0 : Below W0.heap.size W0 w2 := (laid1_b W0 _).trans (hB.mono (by simp)); have HB2 := hid (HB1.out.trans (hb0.mono HB1.out.size)); clear hB hb0)
      | fail)
    go_ret
    exact ⟨rfl, HB2.out⟩
end Go.Proofs.YtlehcaacfgocaaaGreat
namespace Go.Proofs.YtlehcaacfgocaaaGreat
set_option linter.unusedVariables false
open Go.RowKit
open Go.Lib (hid)
def rightM (m : Ms) : Bool := inB m.m.so 9 && (inB m.m.fr 9 && (inB m.m.tt 9 && (withinB m.m.bal 1048576 && (m.m.c.ok && ownB m))))
def learnS (s : Sd) (cs : List C7) : Sd := { s with xs := s.xs ++ freshF s.xs cs }
def seeS (s : Sd) (t : Int) : Sd := { s with c := seeI s.c t }
def takesB (so : Int) : Bool := decide (so = 0) || (decide (so = 3) || (decide (so = 5) || decide (so = 7)))
def takeF (nd : Int) (s : Sd) (ws : List Ms) (m : Ms) (y : En) : Sd × List Ms × List An :=
  if m.m.so = 0 then proposeF nd s ws m y
  else if m.m.so = 3 then ((prepareF nd s m y).1, ws, (prepareF nd s m y).2)
  else if m.m.so = 5 then ((acceptF nd s m y).1, ws, (acceptF nd s m y).2)
  else settleF nd s ws m y
def answerT (nd : Int) (s : Sd) (ws : List Ms) (m : Ms) (y : En) : Sd × List Ms × List An :=
  if m.m.so ≠ 7 ∧ y.e.dn = true then (s, ws, [backA nd m { zA with so := 7, vt := y.e.vt, vl := y.v }])
  else if m.m.so ≠ 7 ∧ m.m.bal < y.e.pr then (s, ws, [backA nd m { zA with so := 8, ab := y.e.pr }])
  else takeF nd s ws m y
def overF (r : Sd × List Ms × List An) : Sd × List Ms × List An := if r.1.ov = true then (r.1, r.2.1, []) else r
def readyS (s : Sd) (m : Ms) : Sd := seeS (learnS s (m.m.c :: m.v)) m.m.vt
def TakenP (s : Sd) (m : Ms) : Prop := s.ov = false ∧ rightM m = true ∧ takesB m.m.so = true ∧ learnE s.xs (m.m.c :: m.v) = 0
open Classical in
noncomputable def handleF (nd : Int) (s : Sd) (ws : List Ms) (m : Ms) : Sd × List Ms × List An :=
  if TakenP s m then overF (answerT nd (readyS s m) ws m (lkE (readyS s m).xs m.m.c.i)) else (s, ws, [])
theorem lk_snoc (xs : List En) (y : En) (i : Int) : lkE (xs ++ [y]) i = if y.id = i then y else lkE xs i := by unfold lkE; rw [look_snoc]; split <;> rfl
theorem hs_snoc (xs : List En) (y : En) (i : Int) : hasE (xs ++ [y]) i = if y.id = i then true else hasE xs i := by unfold hasE; rw [look_snoc]; split <;> rfl
theorem hs_app (a b : List En) (i : Int) : hasE (a ++ b) i = (hasE b i || hasE a i) := by unfold hasE; rw [look_append]; cases lookG En.id b i <;> simp
theorem lk_app (a b : List En) (i : Int) : lkE (a ++ b) i = if hasE b i = true then lkE b i else lkE a i := by
  unfold lkE hasE; rw [look_append]; cases lookG En.id b i <;> simp
theorem found_iff {l : List C7} {i : Int} : foundB l i = true ↔ ∃ c ∈ l, c.i = i := by
  unfold foundB
  rcases h : placeI l i with _ | k
  · simp
    exact placeI_none h
  · obtain ⟨_, c, hc, hi⟩ := placeI_some h
    simp
    exact ⟨c, List.mem_of_getElem? hc, hi⟩
theorem mem_touch {xs : List En} {c d : C7} {P : En → Bool} : d ∈ touchL xs c P ↔ ∃ i, hasE xs i = true ∧ (lkE xs i).e.c = d ∧ touchB d c = true ∧ P (lkE xs i) = true := by
  unfold touchL
  rw [List.mem_map]
  constructor
  · rintro ⟨y, hy, rfl⟩
    obtain ⟨h1, h2⟩ := List.mem_filter.1 hy
    have h3 := (kept_mem En.id xs y).1 h1
    rw [Bool.and_eq_true] at h2
    refine ⟨y.id, (lookE_some h3).2, ?_⟩
    rw [lkE_some h3]
    exact ⟨rfl, h2.1, h2.2⟩
  · rintro ⟨i, h1, rfl, h2, h3⟩
    have hl := lkE_has h1
    obtain ⟨k1, k2⟩ := lkE_mem h1
    refine ⟨lkE xs i, List.mem_filter.2 ⟨(kept_mem En.id xs _).2 (by rw [k2]; exact hl), ?_⟩, rfl⟩
    rw [Bool.and_eq_true]; exact ⟨h2, h3⟩
structure Gr1 (y z : En) : Prop where
  c : z.e.c = y.e.c
  pr : y.e.pr ≤ z.e.pr
  lo : y.e.lo ≠ 0 → z.e.lo ≠ 0 ∧ z.e.lo ≤ y.e.lo ∧ y.e.hi ≤ z.e.hi
  dn : y.e.dn = true → z.e.dn = true ∧ z.e.vt = y.e.vt ∧ z.v = y.v
theorem Gr1.refl (y : En) : Gr1 y y := ⟨rfl, Int.le_refl _, fun h => ⟨h, Int.le_refl _, Int.le_refl _⟩, fun h => ⟨h, rfl, rfl⟩⟩
theorem Gr1.trans {a b c : En} (h : Gr1 a b) (k : Gr1 b c) : Gr1 a c := ⟨k.c.trans h.c, Int.le_trans h.pr k.pr, fun h0 => by
  obtain ⟨h1, h2, h3⟩ := h.lo h0
  obtain ⟨k1, k2, k3⟩ := k.lo h1
  exact ⟨k1, Int.le_trans k2 h2, Int.le_trans h3 k3⟩, fun h0 => by
  obtain ⟨h1, h2, h3⟩ := h.dn h0
  obtain ⟨k1, k2, k3⟩ := k.dn h1
  exact ⟨k1, k2.trans h2, k3.trans h3⟩⟩
def Gr (xs ys : List En) : Prop := ∀ i, hasE xs i = true → hasE ys i = true ∧ Gr1 (lkE xs i) (lkE ys i)
theorem Gr.refl (xs : List En) : Gr xs xs := fun i h => ⟨h, Gr1.refl _⟩
theorem Gr.trans {a b c : List En} (h : Gr a b) (k : Gr b c) : Gr a c := fun i hi => ⟨(k i (h i hi).1).1, (h i hi).2.trans (k i (h i hi).1).2⟩
def Nd (xs ys : List En) : Prop := ∀ i, hasE xs i = true → (lkE ys i).e.dn = true → (lkE xs i).e.dn = true
theorem Nd.refl (xs : List En) : Nd xs xs := fun i _ h => h
theorem Nd.trans {a b c : List En} (hg : Gr a b) (h : Nd a b) (k : Nd b c) : Nd a c := fun i hi hd => h i hi (k i (hg i hi).1 hd)
theorem gr_snoc {xs : List En} {y : En} (h : hasE xs y.id = true → Gr1 (lkE xs y.id) y) : Gr xs (xs ++ [y]) := fun i hi => by
  rw [hs_snoc, lk_snoc]
  by_cases e : y.id = i
  · rw [if_pos e, if_pos e]; exact ⟨rfl, by rw [← e]; exact h (by rw [e]; exact hi)⟩
  · rw [if_neg e, if_neg e]; exact ⟨hi, Gr1.refl _⟩
theorem nd_snoc {xs : List En} {y : En} (h : hasE xs y.id = true → y.e.dn = true → (lkE xs y.id).e.dn = true) : Nd xs (xs ++ [y]) := fun i hi hd => by
  rw [lk_snoc] at hd
  by_cases e : y.id = i
  · rw [if_pos e] at hd; rw [← e]; exact h (by rw [e]; exact hi) hd
  · rw [if_neg e] at hd; exact hd
theorem res_gr {y : En} {t : Int} (ht : validB t = true) : Gr1 y (resY y t) ∧ (resY y t).e.lo ≠ 0 ∧ (resY y t).e.lo ≤ t ∧ t ≤ (resY y t).e.hi := by
  have h16 := valid_ne ht
  unfold resY
  rw [res_eq ht]
  refine ⟨⟨rfl, Int.le_refl _, fun h => ?_, fun h => ⟨h, rfl, rfl⟩⟩, ?_⟩
  · simp only [loE, hiE]
    refine ⟨by split <;> omega, by split <;> omega, by split <;> omega⟩
  · simp only [loE, hiE]
    refine ⟨by split <;> omega, by split <;> omega, by split <;> omega⟩
theorem vot_gr {y : En} {m : Ms} (ht : validB m.m.vt = true) : Gr1 y (votY y m) ∧ (votY y m).e.lo ≠ 0 ∧ (votY y m).e.lo ≤ m.m.vt ∧ m.m.vt ≤ (votY y m).e.hi := by
  obtain ⟨h, h1, h2, h3⟩ := res_gr (y := y) ht
  unfold resY at h h1 h2 h3
  unfold votY
  exact ⟨⟨h.c, h.pr, h.lo, h.dn⟩, h1, h2, h3⟩
theorem acc_gr {y : En} {m : Ms} (ht : validB m.m.vt = true) (hb : ¬ m.m.bal < y.e.pr) : Gr1 y (accY y m) ∧ (accY y m).e.pr = m.m.bal ∧ (accY y m).e.ab = m.m.bal ∧ (accY y m).e.xt = m.m.vt := by
  obtain ⟨h, h1, h2, h3⟩ := res_gr (y := y) ht
  unfold resY at h
  unfold accY
  exact ⟨⟨h.c, by show y.e.pr ≤ m.m.bal; omega, h.lo, h.dn⟩, rfl, rfl, rfl⟩
theorem prom_gr {y : En} {b : Int} (hb : ¬ b < y.e.pr) : Gr1 y (promY y b) := ⟨rfl, by show y.e.pr ≤ b; omega, fun h => ⟨h, Int.le_refl _, Int.le_refl _⟩, fun h => ⟨h, rfl, rfl⟩⟩
theorem prop_gr {y : En} {m : Ms} (hb : ¬ m.m.bal < y.e.pr) : Gr1 y (propY m y) ∧ (propY m y).e.pr = m.m.bal ∧ (propY m y).e.c = y.e.c ∧ (propY m y).e.dn = y.e.dn ∧ (propY m y).e.ft = y.e.ft ∧ (propY m y).e.lo = y.e.lo ∧ (propY m y).e.hi = y.e.hi := by
  unfold propY
  have h := prom_gr (b := m.m.bal) hb
  split
  · exact ⟨⟨h.c, h.pr, h.lo, h.dn⟩, rfl, rfl, rfl, rfl, rfl, rfl⟩
  · exact ⟨h, rfl, rfl, rfl, rfl, rfl, rfl⟩
theorem fin_gr {y : En} {m : Ms} (hd : ¬ y.e.dn = true) : Gr1 y (finY m y) := ⟨rfl, Int.le_refl _, fun h => ⟨h, Int.le_refl _, Int.le_refl _⟩, fun h => absurd h hd⟩
theorem fresh_old {xs : List En} {i : Int} (hi : hasE xs i = true) (cs : List C7) : hasE (freshF xs cs) i = false := by
  rcases h : hasE (freshF xs cs) i with _ | _
  · rfl
  · exfalso
    have key : ∀ cs : List C7, ∀ x ∈ freshF xs cs, hasE xs x.id = false := by
      intro cs
      induction cs using snocRec with
      | nil => simp [freshF]
      | snoc cs c ih =>
        rw [fresh_snoc]
        intro x hx
        split at hx
        · exact ih x hx
        · rename_i hc
          rcases List.mem_append.1 hx with hx | hx
          · exact ih x hx
          · simp at hx; subst hx
            simp at hc
            exact hc.1
    have := key cs _ (lkE_mem h).1
    rw [(lkE_mem h).2, hi] at this
    cases this
theorem fresh_lk {xs : List En} {i : Int} (hi : hasE xs i = true) (cs : List C7) : hasE (xs ++ freshF xs cs) i = true ∧ lkE (xs ++ freshF xs cs) i = lkE xs i := by
  rw [hs_app, lk_app, fresh_old hi cs]
  simp [hi]
theorem fresh_gr (xs : List En) (cs : List C7) : Gr xs (xs ++ freshF xs cs) := fun i hi => by
  obtain ⟨h1, h2⟩ := fresh_lk hi cs
  rw [h2]
  exact ⟨h1, Gr1.refl _⟩
theorem fresh_new {xs : List En} {cs : List C7} {y : En} (h : y ∈ freshF xs cs) : ∃ c ∈ cs, y = newN c := fresh_is xs cs y h
theorem learn_fine {xs : List En} {cs : List C7} (h : learnE xs cs = 0) : (∀ c ∈ cs, c.ok = true) ∧ FineL xs cs := by
  unfold learnE at h
  split at h
  · rename_i h1
    split at h
    · rename_i h2
      exact ⟨List.all_eq_true.1 h1, h2⟩
    · cases h
  · cases h
theorem learn_has {xs : List En} {cs : List C7} (h : learnE xs cs = 0) {c : C7} (hc : c ∈ cs) : hasE (xs ++ freshF xs cs) c.i = true ∧ (lkE (xs ++ freshF xs cs) c.i).e.c = c := by
  obtain ⟨_, hf⟩ := learn_fine h
  rcases hx : hasE xs c.i with _ | _
  · have hl := fresh_look hf c hc hx
    have h2 := (lookE_some hl).2
    rw [hs_app, lk_app, h2, lkE_some hl]
    exact ⟨rfl, rfl⟩
  · obtain ⟨h1, h2⟩ := fresh_lk hx cs
    refine ⟨h1, ?_⟩
    rw [h2, lkE_e]
    exact hf.2 c hc hx
theorem newN_right {c : C7} (h : c.ok = true) : (newN c).right = true := right_iff.2 ⟨h, rfl, rfl, rfl, rfl, rfl, rfl⟩
theorem learn_gd {s : Sd} {cs : List C7} (hg : Gd s) (h : learnE s.xs cs = 0) : Gd (learnS s cs) := fun y hy => by
  rcases List.mem_append.1 hy with hy | hy
  · exact hg y hy
  · obtain ⟨c, hc, rfl⟩ := fresh_new hy
    exact newN_right ((learn_fine h).1 c hc)
theorem Wt.gr {s s' : Sd} {m : Ms} (h : Wt s m) (hg : Gr s.xs s'.xs) : Wt s' m := ⟨h.so, h.short, h.full, (hg _ h.has).1, h.ok⟩
theorem own_full {m : Ms} (h : rightM m = true) (hs : m.m.so = 0 ∨ m.m.so = 5 ∨ m.m.so = 7) : fullB m.m.vt m.v = true := by
  unfold rightM at h
  simp only [Bool.and_eq_true] at h
  have ho := h.2.2.2.2.2
  unfold ownB at ho
  rcases hs with h0 | h0 | h0
  · rw [if_pos (.inl h0)] at ho; simp only [Bool.and_eq_true] at ho; exact ho.1
  · rw [if_neg (by omega), if_neg (by omega), if_neg (by omega), if_pos (.inl h0)] at ho; simp only [Bool.and_eq_true] at ho; exact ho.1
  · rw [if_neg (by omega), if_neg (by omega), if_neg (by omega), if_pos (.inr h0)] at ho; simp only [Bool.and_eq_true] at ho; exact ho.1
theorem right_bal {m : Ms} (h : rightM m = true) : withinB m.m.bal 1048576 = true ∧ m.m.c.ok = true := by
  unfold rightM at h
  simp only [Bool.and_eq_true] at h
  exact ⟨h.2.2.2.1, h.2.2.2.2.1⟩
end Go.Proofs.YtlehcaacfgocaaaGreat

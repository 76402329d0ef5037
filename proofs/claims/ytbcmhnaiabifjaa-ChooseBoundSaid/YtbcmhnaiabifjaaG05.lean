import Derived.Test.YtbcmhnaiabifjaaG04
import Derived.Test.YtbcmhnaiabifjaaG02
namespace Go.Proofs.Ytbcmhnaiabifjaa
set_option linter.unusedVariables false
open Go.RowKit
open Go.Lib (hid)
theorem cSortW (x : Int) (w : World) : Calls Try.prog 45 #[.int .i64 x] w fun e w' => e = .returned (.bool (inB x 9)) ∧ w = w' := by
  have hc : (0 ≤ x ∧ x < 9) ∨ (0 ≤ x ∧ ¬ x < 9) ∨ ¬ 0 ≤ x := by omega
  rcases hc with ⟨h1, h2⟩ | ⟨h1, h2⟩ | h1
  · have e1 : inB x 9 = true := by simp [inB, h1, h2]
    rw [e1]
    go_enter Try.func45, Try.ntmps45
    go_wp2
    go_ret
    exact ⟨rfl, rfl⟩
  · have e1 : inB x 9 = false := by simp [inB, h2]
    rw [e1]
    go_enter Try.func45, Try.ntmps45
    go_wp2
    go_ret
    exact ⟨rfl, rfl⟩
  · have e1 : inB x 9 = false := by simp [inB, h1]
    rw [e1]
    go_enter Try.func45, Try.ntmps45
    go_wp2
    go_ret
    exact ⟨rfl, rfl⟩
theorem cReplicaW (x : Int) (w : World) : Calls Try.prog 46 #[.int .i64 x] w fun e w' => e = .returned (.bool (inB x 9)) ∧ w = w' := by
  have hc : (0 ≤ x ∧ x < 9) ∨ (0 ≤ x ∧ ¬ x < 9) ∨ ¬ 0 ≤ x := by omega
  rcases hc with ⟨h1, h2⟩ | ⟨h1, h2⟩ | h1
  · have e1 : inB x 9 = true := by simp [inB, h1, h2]
    rw [e1]
    go_enter Try.func46, Try.ntmps46
    go_wp2
    go_ret
    exact ⟨rfl, rfl⟩
  · have e1 : inB x 9 = false := by simp [inB, h2]
    rw [e1]
    go_enter Try.func46, Try.ntmps46
    go_wp2
    go_ret
    exact ⟨rfl, rfl⟩
  · have e1 : inB x 9 = false := by simp [inB, h1]
    rw [e1]
    go_enter Try.func46, Try.ntmps46
    go_wp2
    go_ret
    exact ⟨rfl, rfl⟩
theorem cBallotW (t : Int) (w : World) : Calls Try.prog 47 #[.int .i64 t] w fun e w' => e = .returned (.bool (withinB t 1048576)) ∧ w = w' := by
  by_cases h0 : 0 ≤ t
  · go_enter Try.func47, Try.ntmps47
    go_wp2
    go_ret
    exact ⟨ret_bool (by unfold withinB; symm; simp; omega), rfl⟩
  · go_enter Try.func47, Try.ntmps47
    go_wp2
    go_ret
    exact ⟨ret_bool (by unfold withinB; symm; simp; omega), rfl⟩
set_option maxHeartbeats 600000 in
set_option maxRecDepth 100000 in
theorem cStampedW {v : Value} {l : List C7} {w : World} (t : Int) (h : Sl w v l) (hl : l.length ≤ 1024) : Calls Try.prog 65 #[.agg #[.int .i64 t, v]] w fun e w' => e = .returned (.bool (fullB t l)) ∧ Below w.heap.size w w' := by
  obtain ⟨_, _, cap, a, hv, _⟩ := id h
  subst hv
  have hS := cSetRight (h.on ((Below.refl _ w).alloc (Nat.le_refl _) (boxV t (.slice a l.length cap)))) hl
  have hV := fun W => cValid t W
  rcases hv : validB t with _ | _
  · rw [hv] at hV
    have HE := hid (show fullB t l = false by unfold fullB; rw [hv]; rfl)
    clear hv
    go_enter Try.func65, Try.ntmps65
    go_wp2_with (first | (go_at_call 28; refine (hV _).mono ?_; rintro e w' ⟨rfl, rfl⟩) | (go_at_call 67; refine hS.mono ?_; rintro e w1 ⟨rfl, hB⟩; have HB := hid hB; clear hB))
    go_ret
    exact ⟨ret_bool HE.out.symm, ((Below.refl _ w).alloc (Nat.le_refl _) _)⟩
  · rw [hv] at hV
    have HE := hid (show fullB t l = setB l by unfold fullB; rw [hv]; rfl)
    clear hv
    go_enter Try.func65, Try.ntmps65
    go_wp2_with (first | (go_at_call 28; refine (hV _).mono ?_; rintro e w' ⟨rfl, rfl⟩) | (go_at_call 67; refine hS.mono ?_; rintro e w1 ⟨rfl, hB⟩; have HB := hid hB; clear hB))
    go_ret
    exact ⟨ret_bool HE.out.symm, ((Below.refl _ w).alloc (Nat.le_refl _) _).trans (HB.out.mono (by simp))⟩
structure Vv where
  t : Int
  p : Sv
  l : List C7
def RowsV (w : World) (b o : Nat) (vs : List Vv) : Prop := ∀ (j : Nat) (x : Vv), vs[j]? = some x → w.cell? ⟨b, o + j * 2, none⟩ = some (.int .i64 x.t) ∧ w.cell? ⟨b, o + j * 2 + 1, none⟩ = some (.slice x.p.a x.p.n x.p.c) ∧ x.p.n = x.l.length
def noneL (vs : List Vv) : Bool := vs.all fun x => noneB x.t x.l
set_option maxHeartbeats 4000000 in
set_option maxRecDepth 100000 in
theorem cNoneW {w : World} {b cap : Nat} {vs : List Vv} (h : RowsV w b 0 vs) (hb : b < w.heap.size) (hl : vs.length ≤ 100) : Calls Try.prog 66 #[.slice (some ⟨b, 0, none⟩) vs.length cap] w fun e w' => e = .returned (.bool (noneL vs)) ∧ Below w.heap.size w w' := by
  have HR := hid h
  obtain ⟨n, hn⟩ : ∃ n, n = vs.length := ⟨_, rfl⟩
  rw [← hn] at hl ⊢
  have HN := hid hn
  clear h hn
  go_enter Try.func66, Try.ntmps66
  go_wp2_with fail
  go_loopw [4, 7] (fun _ s7 wr => ∃ k : Nat, k ≤ n ∧ s7 = .int .i64 k ∧ Hid (∀ x ∈ vs.take k, noneB x.t x.l = true) ∧ Below w.heap.size w wr) (fun _ s7 _ => n - (RowKit.intOf s7).toNat)
  case atStart => exact ⟨0, Nat.zero_le _, rfl, hid (by simp), Below.refl _ _⟩
  case round =>
    obtain ⟨k, hk, rfl, HA, hB⟩ := hrel
    have HB := hid hB
    by_cases hlt : k < n
    · have hltz : (k : Int) < (n : Int) := by omega
      obtain ⟨x, hx⟩ : ∃ x, vs[k]? = some x := ⟨vs[k]'(by rw [← HN.out]; exact hlt), List.getElem?_eq_getElem (by rw [← HN.out]; exact hlt)⟩
      obtain ⟨k0, k1, hpn⟩ := HR.out k x hx
      rw [Nat.zero_add] at k0 k1
      have d0 := (hB.cell (p := ⟨b, k * 2, none⟩) hb).trans k0
      have d1 := (hB.cell (p := ⟨b, k * 2 + 1, none⟩) hb).trans k1
      have HX := hid hx
      have HPN := hid hpn
      obtain ⟨⟨xt, ⟨pa, pn, pc⟩, xl⟩, hxx⟩ : ∃ y : Vv, y = x := ⟨x, rfl⟩
      subst hxx
      clear hx hpn k0 k1 hB
      have HBx : Hid (Below w.heap.size w (wr.alloc (.cells #[.int .i64 xt, .slice pa pn pc] 28))) := hid (HB.out.alloc HB.out.size _)
      by_cases h1 : xt = 0
      · by_cases h2 : 0 < pn
        · have h2z : (0 : Int) < (pn : Int) := by omega
          have HE : Hid (noneL vs = false) := hid (by
            unfold noneL
            rw [List.all_eq_false]
            refine ⟨_, List.mem_of_getElem? HX.out, ?_⟩
            have := HPN.out
            simp only [noneB, Bool.and_eq_true, decide_eq_true_eq]
            simp only at this
            omega)
          subst h1
          go_wp2_with fail
          go_ret
          exact ⟨ret_bool HE.out.symm, by first | exact HBx.out | exact HB.out⟩
        · have h2z : ¬ (0 : Int) < (pn : Int) := by omega
          have HNX : Hid (noneB xt xl = true) := hid (by
            have := HPN.out
            simp only at this
            simp only [noneB, Bool.and_eq_true, decide_eq_true_eq]
            omega)
          subst h1
          go_wp2_with fail
          go_roundw
          case rel => exact ⟨k + 1, by omega, by go_num, hid (fun y hy => by
            rw [List.take_add_one, HX.out] at hy
            rcases List.mem_append.1 hy with hy | hy
            · exact HA.out y hy
            · simp at hy; subst hy; exact HNX.out), by first | exact HBx.out | exact HB.out⟩
          case measure => first | omega | (simp [RowKit.intOf]; omega)
      · have HE : Hid (noneL vs = false) := hid (by
          unfold noneL
          rw [List.all_eq_false]
          refine ⟨_, List.mem_of_getElem? HX.out, ?_⟩
          simp only [noneB, Bool.and_eq_true, decide_eq_true_eq]
          omega)
        go_wp2_with fail
        go_ret
        exact ⟨ret_bool HE.out.symm, by first | exact HBx.out | exact HB.out⟩
    · have hltz : ¬ (k : Int) < (n : Int) := by omega
      have HE : Hid (noneL vs = true) := hid (by
        unfold noneL
        rw [List.all_eq_true]
        intro x hx
        refine HA.out x ?_
        rw [show k = vs.length by have := HN.out; omega, List.take_length]; exact hx)
      go_wp2_with fail
      go_ret
      exact ⟨ret_bool HE.out.symm, HB.out⟩
end Go.Proofs.Ytbcmhnaiabifjaa
namespace Go.Proofs.Ytbcmhnaiabifjaa
set_option linter.unusedVariables false
open Go.RowKit
open Go.Lib (hid)
abbrev noneAF (m : Ms) : Bool := noneL [⟨m.m.xt, m.m.xp, m.a⟩, ⟨m.m.ft, m.m.fp, m.f⟩]
abbrev noneVAF (m : Ms) : Bool := noneL [⟨m.m.vt, m.m.vp, m.v⟩, ⟨m.m.xt, m.m.xp, m.a⟩, ⟨m.m.ft, m.m.fp, m.f⟩]
def ownB (m : Ms) : Bool :=
  if m.m.so = 0 ∨ m.m.so = 1 then fullB m.m.vt m.v && (decide (m.m.s = 0) && (decide (m.m.ab = 0) && noneAF m))
  else if m.m.so = 2 then fullB m.m.vt m.v && (!m.m.fl && (validB m.m.s && (decide (m.m.ab = 0) && noneAF m)))
  else if m.m.so = 4 then decide (m.m.vt = 0) && (setB m.v && (validB m.m.s && (withinB m.m.ab 1048576 && ((noneB m.m.xt m.a || fullB m.m.xt m.a) && (noneB m.m.ft m.f || fullB m.m.ft m.f)))))
  else if m.m.so = 5 ∨ m.m.so = 7 then fullB m.m.vt m.v && (!m.m.fl && (decide (m.m.s = 0) && (decide (m.m.ab = 0) && noneAF m)))
  else if m.m.so = 8 then noneVAF m && (!m.m.fl && (decide (m.m.s = 0) && withinB m.m.ab 1048576))
  else noneVAF m && (!m.m.fl && (decide (m.m.s = 0) && decide (m.m.ab = 0)))
theorem Sl.lenP {w : World} {p : Sv} {l : List C7} (h : Sl w p.v l) : p.n = l.length := by
  obtain ⟨_, _, cap, a, hv', _⟩ := id h
  injection hv'
theorem wp_bsV1 {w : World} (x : Vv) : RowsV (w.alloc (.cells #[.int .i64 x.t, .slice x.p.a x.p.n x.p.c] 28)) w.heap.size 0 [x] ↔ x.p.n = x.l.length := by
  constructor
  · intro h; exact (h 0 x rfl).2.2
  · intro h j y hy
    rcases j with _ | j
    · rw [List.getElem?_cons_zero] at hy
      obtain rfl := Option.some.inj hy
      have ho := heap_alloc_new w (.cells #[.int .i64 x.t, .slice x.p.a x.p.n x.p.c] 28)
      exact ⟨(cellAt' ho 0).trans rfl, (cellAt' ho 1).trans rfl, h⟩
    · simp at hy
theorem wp_bsV2 {w : World} {x y : Vv} (hx : x.p.n = x.l.length) (hy : y.p.n = y.l.length) : RowsV (w.alloc (.cells #[.int .i64 x.t, .slice x.p.a x.p.n x.p.c, .int .i64 y.t, .slice y.p.a y.p.n y.p.c] 28)) w.heap.size 0 [x, y] := fun j z hz => by
  have ho := heap_alloc_new w (.cells #[.int .i64 x.t, .slice x.p.a x.p.n x.p.c, .int .i64 y.t, .slice y.p.a y.p.n y.p.c] 28)
  rcases j with _ | _ | j
  · obtain rfl := Option.some.inj hz
    exact ⟨(cellAt' ho 0).trans rfl, (cellAt' ho 1).trans rfl, hx⟩
  · obtain rfl := Option.some.inj hz
    exact ⟨(cellAt' ho 2).trans rfl, (cellAt' ho 3).trans rfl, hy⟩
  · simp at hz
theorem wp_bsV3 {w : World} {x y u : Vv} (hx : x.p.n = x.l.length) (hy : y.p.n = y.l.length) (hu : u.p.n = u.l.length) : RowsV (w.alloc (.cells #[.int .i64 x.t, .slice x.p.a x.p.n x.p.c, .int .i64 y.t, .slice y.p.a y.p.n y.p.c, .int .i64 u.t, .slice u.p.a u.p.n u.p.c] 28)) w.heap.size 0 [x, y, u] := fun j z hz => by
  have ho := heap_alloc_new w (.cells #[.int .i64 x.t, .slice x.p.a x.p.n x.p.c, .int .i64 y.t, .slice y.p.a y.p.n y.p.c, .int .i64 u.t, .slice u.p.a u.p.n u.p.c] 28)
  rcases j with _ | _ | _ | j
  · obtain rfl := Option.some.inj hz
    exact ⟨(cellAt' ho 0).trans rfl, (cellAt' ho 1).trans rfl, hx⟩
  · obtain rfl := Option.some.inj hz
    exact ⟨(cellAt' ho 2).trans rfl, (cellAt' ho 3).trans rfl, hy⟩
  · obtain rfl := Option.some.inj hz
    exact ⟨(cellAt' ho 4).trans rfl, (cellAt' ho 5).trans rfl, hu⟩
  · simp at hz
set_option maxHeartbeats 1600000 in
set_option maxRecDepth 100000 in
theorem cOrNoneW {w : World} {p : Sv} {l : List C7} (t : Int) (h : Sl w p.v l) (hl : l.length ≤ 1024) : Calls Try.prog 68 #[.agg #[.int .i64 t, p.v]] w fun e w' => e = .returned (.bool (noneB t l || fullB t l)) ∧ Below w.heap.size w w' := by
  obtain ⟨pa, pn, pc⟩ := p
  have hpn := h.lenP
  have HB1 := hid (laid1_b w (.cells #[.int .i64 t, .slice pa pn pc] 28))
  have HX : Hid ((w.alloc (.cells #[.int .i64 t, .slice pa pn pc] 28)).heap[w.heap.size]? = some (.cells #[.int .i64 t, .slice pa pn pc] 28 (0, 0))) := hid (laid1_0 w _)
  obtain ⟨r, hr⟩ : ∃ r, r = noneB t l := ⟨_, rfl⟩
  have e : noneL [⟨t, ⟨pa, pn, pc⟩, l⟩] = r := by rw [hr]; simp [noneL]
  have hN : ∀ W : World, Calls Try.prog 66 #[.slice (some ⟨W.heap.size, 0, none⟩) 1 1] (W.alloc (.cells #[.int .i64 t, .slice pa pn pc] 28)) fun e w' => e = .returned (.bool r) ∧ Below (W.alloc (.cells #[.int .i64 t, .slice pa pn pc] 28)).heap.size (W.alloc (.cells #[.int .i64 t, .slice pa pn pc] 28)) w' := fun W => by
    have := cNoneW (cap := 1) ((wp_bsV1 (w := W) ⟨t, ⟨pa, pn, pc⟩, l⟩).2 hpn) (by simp) (by simp)
    rw [e] at this
    exact this
  have hF := fun W hB => cStampedW (w := W) t (h.on hB) hl
  have HN := hid hN
  have HF := hid hF
  rw [← hr]
  clear hr hN hF e h hpn
  have tok : Hid (0 = 0) := hid rfl
  rcases r with _ | _
  · go_enter Try.func68, Try.ntmps68
    go_wp2_with (first
      | (clear tok; (with_reducible refine opaqueW (w.alloc (.cells #[.int .i64 t, .slice pa pn pc] 28)) ?_); intro W0 hW; rw [← hW] at HB1 HX; clear hW; have k0 : W0.cell? ⟨w.heap.size, 0, none⟩ = some (.int .i64 t) := (cellAt' HX.out 0).trans rfl; have k1 : W0.cell? ⟨w.heap.size, 1, none⟩ = some (.slice pa pn pc) := (cellAt' HX.out 1).trans rfl)
      | (go_at_call 66; refine (HN.out W0).mono ?_; rintro z w2 ⟨rfl, hB⟩; have hb0 : Below W0.heap.size W0 w2 := (laid1_b W0 _).trans (hB.mono (by simp)); have HB2 := hid (HB1.out.trans (hb0.mono HB1.out.size)); have hX2 := heapB HX.out hb0 (Array.getElem?_eq_some_iff.1 HX.out).1; have q0 : w2.cell? ⟨w.heap.size, 0, none⟩ = some (.int .i64 t) := (cellAt' hX2 0).trans rfl; have q1 : w2.cell? ⟨w.heap.size, 1, none⟩ = some (.slice pa pn pc) := (cellAt' hX2 1).trans rfl; have hcall := HF.out w2 HB2.out; clear hB hb0 hX2)
      | (go_at_call 65; refine hcall.mono ?_; rintro z w3 ⟨rfl, hB⟩; have HB3 := hid (HB2.out.trans (hB.mono HB2.out.size)); clear hB)
      | fail)
    go_ret
    exact ⟨rfl, HB3.out⟩
  · go_enter Try.func68, Try.ntmps68
    go_wp2_with (first
      | (clear tok; (with_reducible refine opaqueW (w.alloc (.cells #[.int .i64 t, .slice pa pn pc] 28)) ?_); intro W0 hW; rw [← hW] at HB1 HX; clear hW; have k0 : W0.cell? ⟨w.heap.size, 0, none⟩ = some (.int .i64 t) := (cellAt' HX.out 0).trans rfl; have k1 : W0.cell? ⟨w.heap.size, 1, none⟩ = some (.slice pa pn pc) := (cellAt' HX.out 1).trans rfl)
      | (go_at_call 66; refine (HN.out W0).mono ?_; rintro z w2 ⟨rfl, hB⟩; have hb0 : Below W0.heap.size W0 w2 := (laid1_b W0 _).trans (hB.mono (by simp)); have HB2 := hid (HB1.out.trans (hb0.mono HB1.out.size)); clear hB hb0)
      | fail)
    go_ret
    exact ⟨rfl, HB2.out⟩
end Go.Proofs.Ytbcmhnaiabifjaa
namespace Go.Proofs.Ytbcmhnaiabifjaa
set_option linter.unusedVariables false
open Go.RowKit
open Go.Lib (hid)
def rightM (m : Ms) : Bool := inB m.m.so 9 && (inB m.m.fr 9 && (inB m.m.tt 9 && (withinB m.m.bal 1048576 && (m.m.c.ok && ownB m))))
end Go.Proofs.Ytbcmhnaiabifjaa

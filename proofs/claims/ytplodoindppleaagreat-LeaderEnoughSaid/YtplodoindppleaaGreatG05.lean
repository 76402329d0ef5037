import Derived.Test.YtplodoindppleaaGreatG04
import Derived.Test.YtplodoindppleaaGreatG02
namespace Go.Proofs.YtplodoindppleaaGreat
set_option linter.unusedVariables false
open Go.RowKit
open Go.Lib (hid)
abbrev noneAF (m : Ms) : Bool := noneL [⟨m.m.xt, m.m.xp, m.a⟩, ⟨m.m.ft, m.m.fp, m.f⟩]
abbrev noneVAF (m : Ms) : Bool := noneL [⟨m.m.vt, m.m.vp, m.v⟩, ⟨m.m.xt, m.m.xp, m.a⟩, ⟨m.m.ft, m.m.fp, m.f⟩]
def ownB (m : Ms) : Bool :=
 if m.m.so = 0 ∨ m.m.so = 1 then fullB m.m.vt m.v && (decide (m.m.s = 0) && (decide (m.m.ab = 0) && noneAF m))
 else if m.m.so = 2 then fullB m.m.vt m.v && (!m.m.fl && (validB m.m.s && (decide (m.m.ab = 0) && noneAF m)))
 else if m.m.so = 4 then decide (m.m.vt = 0) && (setB m.v && (validB m.m.s && (withinB m.m.ab 1048576 && ((noneB m.m.xt m.a || fullB m.m.xt m.a) && (noneB m.m.ft m.f || fullB m.m.ft m.f)))))
 else if m.m.so = 5 ∨ m.m.so = 7 then fullB m.m.vt m.v && (!m.m.fl && (decide (m.m.s = 0) && (decide (m.m.ab = 0) && noneAF m)))
 else if m.m.so = 8 then noneVAF m && (!m.m.fl && (decide (m.m.s = 0) && withinB m.m.ab 1048576))
 else noneVAF m && (!m.m.fl && (decide (m.m.s = 0) && decide (m.m.ab = 0)))
theorem Sl.lenP {w : World} {p : Sv} {l : List C7} (h : Sl w p.v l) : p.n = l.length := by
 obtain ⟨_, _, cap, a, hv', _⟩ := id h
 injection hv'
theorem wp_bsV1 {w : World} (x : Vv) : RowsV (w.alloc (.cells #[.int .i64 x.t, .slice x.p.a x.p.n x.p.c] 34)) w.heap.size 0 [x] ↔ x.p.n = x.l.length := by
 constructor
 · intro h; exact (h 0 x rfl).2.2
 · intro h j y hy
   rcases j with _ | j
   · rw [List.getElem?_cons_zero] at hy
     obtain rfl := Option.some.inj hy
     have ho := heap_alloc_new w (.cells #[.int .i64 x.t, .slice x.p.a x.p.n x.p.c] 34)
     exact ⟨(cellAt' ho 0).trans rfl, (cellAt' ho 1).trans rfl, h⟩
   · simp at hy
theorem wp_bsV2 {w : World} {x y : Vv} (hx : x.p.n = x.l.length) (hy : y.p.n = y.l.length) : RowsV (w.alloc (.cells #[.int .i64 x.t, .slice x.p.a x.p.n x.p.c, .int .i64 y.t, .slice y.p.a y.p.n y.p.c] 34)) w.heap.size 0 [x, y] := fun j z hz => by
 have ho := heap_alloc_new w (.cells #[.int .i64 x.t, .slice x.p.a x.p.n x.p.c, .int .i64 y.t, .slice y.p.a y.p.n y.p.c] 34)
 rcases j with _ | _ | j
 · obtain rfl := Option.some.inj hz
   exact ⟨(cellAt' ho 0).trans rfl, (cellAt' ho 1).trans rfl, hx⟩
 · obtain rfl := Option.some.inj hz
   exact ⟨(cellAt' ho 2).trans rfl, (cellAt' ho 3).trans rfl, hy⟩
 · simp at hz
theorem wp_bsV3 {w : World} {x y u : Vv} (hx : x.p.n = x.l.length) (hy : y.p.n = y.l.length) (hu : u.p.n = u.l.length) : RowsV (w.alloc (.cells #[.int .i64 x.t, .slice x.p.a x.p.n x.p.c, .int .i64 y.t, .slice y.p.a y.p.n y.p.c, .int .i64 u.t, .slice u.p.a u.p.n u.p.c] 34)) w.heap.size 0 [x, y, u] := fun j z hz => by
 have ho := heap_alloc_new w (.cells #[.int .i64 x.t, .slice x.p.a x.p.n x.p.c, .int .i64 y.t, .slice y.p.a y.p.n y.p.c, .int .i64 u.t, .slice u.p.a u.p.n u.p.c] 34)
 rcases j with _ | _ | _ | j
 · obtain rfl := Option.some.inj hz
   exact ⟨(cellAt' ho 0).trans rfl, (cellAt' ho 1).trans rfl, hx⟩
 · obtain rfl := Option.some.inj hz
   exact ⟨(cellAt' ho 2).trans rfl, (cellAt' ho 3).trans rfl, hy⟩
 · obtain rfl := Option.some.inj hz
   exact ⟨(cellAt' ho 4).trans rfl, (cellAt' ho 5).trans rfl, hu⟩
 · simp at hz
set_option maxHeartbeats 1600000 in
set_option maxRecDepth 100000 in
theorem cOrNoneW {w : World} {p : Sv} {l : List C7} (t : Int) (h : Sl w p.v l) (hl : l.length ≤ 1024) : Calls Tryz.prog 94 #[.agg #[.int .i64 t, p.v]] w fun e w' => e = .returned (.bool (noneB t l || fullB t l)) ∧ Below w.heap.size w w' := by
 obtain ⟨pa, pn, pc⟩ := p
 have hpn := h.lenP
 have HB1 := hid (laid1_b w (.cells #[.int .i64 t, .slice pa pn pc] 34))
 have HX : Hid ((w.alloc (.cells #[.int .i64 t, .slice pa pn pc] 34)).heap[w.heap.size]? = some (.cells #[.int .i64 t, .slice pa pn pc] 34 (0, 0))) := hid (laid1_0 w _)
 obtain ⟨r, hr⟩ : ∃ r, r = noneB t l := ⟨_, rfl⟩
 have e : noneL [⟨t, ⟨pa, pn, pc⟩, l⟩] = r := by rw [hr]; simp [noneL]
 have hN : ∀ W : World, Calls Tryz.prog 91 #[.slice (some ⟨W.heap.size, 0, none⟩) 1 1] (W.alloc (.cells #[.int .i64 t, .slice pa pn pc] 34)) fun e w' => e = .returned (.bool r) ∧ Below (W.alloc (.cells #[.int .i64 t, .slice pa pn pc] 34)).heap.size (W.alloc (.cells #[.int .i64 t, .slice pa pn pc] 34)) w' := fun W => by
  have := cNoneW (cap := 1) ((wp_bsV1 (w := W) ⟨t, ⟨pa, pn, pc⟩, l⟩).2 hpn) (by simp) (by simp)
  rw [e] at this
  exact this
 have hF := fun W hB => cStampedW (w := W) t (h.on hB) hl
 have HN := hid hN
 have HF := hid hF
 rw [← hr]
 clear hr hN hF e h hpn
 have tok : Hid (0 = 0) := hid rfl
 rcases r with _ | _
 · go_enter Tryz.func94, Tryz.ntmps94
   go_wp2_with (first
    | (clear tok; (with_reducible refine opaqueW (w.alloc (.cells #[.int .i64 t, .slice pa pn pc] 34)) ?_); intro W0 hW; rw [← hW] at HB1 HX; clear hW; have k0 : W0.cell? ⟨w.heap.size, 0, none⟩ = some (.int .i64 t) := (cellAt' HX.out 0).trans rfl; have k1 : W0.cell? ⟨w.heap.size, 1, none⟩ = some (.slice pa pn pc) := (cellAt' HX.out 1).trans rfl)
    | (go_at_call 91; refine (HN.out W0).mono ?_; rintro z w2 ⟨rfl, hB⟩; have hb0 : Below W0.heap.size W0 w2 := (laid1_b W0 _).trans (hB.mono (by simp)); have HB2 := hid (HB1.out.trans (hb0.mono HB1.out.size)); have hX2 := heapB HX.out hb0 (Array.getElem?_eq_some_iff.1 HX.out).1; have q0 : w2.cell? ⟨w.heap.size, 0, none⟩ = some (.int .i64 t) := (cellAt' hX2 0).trans rfl; have q1 : w2.cell? ⟨w.heap.size, 1, none⟩ = some (.slice pa pn pc) := (cellAt' hX2 1).trans rfl; have hcall := HF.out w2 HB2.out; clear hB hb0 hX2)
    | (go_at_call 90; refine hcall.mono ?_; rintro z w3 ⟨rfl, hB⟩; have HB3 := hid (HB2.out.trans (hB.mono HB2.out.size)); clear hB)
    | fail)
   go_ret
   exact ⟨rfl, HB3.out⟩
 · go_enter Tryz.func94, Tryz.ntmps94
   go_wp2_with (first
    | (clear tok; (with_reducible refine opaqueW (w.alloc (.cells #[.int .i64 t, .slice pa pn pc] 34)) ?_); intro W0 hW; rw [← hW] at HB1 HX; clear hW; have k0 : W0.cell? ⟨w.heap.size, 0, none⟩ = some (.int .i64 t) := (cellAt' HX.out 0).trans rfl; have k1 : W0.cell? ⟨w.heap.size, 1, none⟩ = some (.slice pa pn pc) := (cellAt' HX.out 1).trans rfl)
    | (go_at_call 91; refine (HN.out W0).mono ?_; rintro z w2 ⟨rfl, hB⟩; have hb0 : Below W0.heap.size W0 w2 := (laid1_b W0 _).trans (hB.mono (by simp)); have HB2 := hid (HB1.out.trans (hb0.mono HB1.out.size)); clear hB hb0)
    | fail)
   go_ret
   exact ⟨rfl, HB2.out⟩
end Go.Proofs.YtplodoindppleaaGreat
namespace Go.Proofs.YtplodoindppleaaGreat
set_option linter.unusedVariables false
open Go.RowKit
open Go.Lib (hid)
def rightM (m : Ms) : Bool := inB m.m.so 9 && (inB m.m.fr 9 && (inB m.m.tt 9 && (withinB m.m.bal 1048576 && (m.m.c.ok && ownB m))))
theorem own_full {m : Ms} (h : rightM m = true) (hs : m.m.so = 0 ∨ m.m.so = 5 ∨ m.m.so = 7) : fullB m.m.vt m.v = true := by
 unfold rightM at h
 simp only [Bool.and_eq_true] at h
 have ho := h.2.2.2.2.2
 unfold ownB at ho
 rcases hs with h0 | h0 | h0
 · rw [if_pos (.inl h0)] at ho; simp only [Bool.and_eq_true] at ho; exact ho.1
 · rw [if_neg (by omega), if_neg (by omega), if_neg (by omega), if_pos (.inl h0)] at ho; simp only [Bool.and_eq_true] at ho; exact ho.1
 · rw [if_neg (by omega), if_neg (by omega), if_neg (by omega), if_pos (.inr h0)] at ho; simp only [Bool.and_eq_true] at ho; exact ho.1
end Go.Proofs.YtplodoindppleaaGreat

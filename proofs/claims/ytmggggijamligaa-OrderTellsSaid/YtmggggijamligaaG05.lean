import Derived.Test.YtmggggijamligaaG04
import Derived.Test.YtmggggijamligaaG03
import Derived.Test.YtmggggijamligaaG00
namespace Go.Proofs.Ytmggggijamligaa
set_option linter.unusedVariables false
open Go.RowKit
open Go.Lib (hid)
def lenS : Value → Nat
  | .slice _ n _ => n
  | _ => 0
theorem Own.lenS {w : World} {B : Nat} {v : Value} {cs : List C7} (h : Own w B v cs) : lenS v = cs.length := by
  rcases h.shape with ⟨rfl, rfl⟩ | ⟨g, cap, rfl, _⟩ <;> rfl
theorem Own.asS {w : World} {B : Nat} {v : Value} {cs : List C7} (h : Own w B v cs) : ∃ (g : Option Addr) (n cap : Nat), v = .slice g n cap ∧ n = cs.length := by
  rcases h.shape with ⟨e, e'⟩ | ⟨g, cap, e, _⟩
  · exact ⟨none, 0, 0, e, by rw [e']; rfl⟩
  · exact ⟨_, _, cap, e, rfl⟩
theorem OwnI.keepC {w w' : World} {B B' : Nat} {v u : Value} {l : List Int} {cs : List C7} (h : OwnI w B v l) (hc : Own w B' u cs) (hg : w.grownBy w' u.ownBlock) : OwnI w' B v l := by
  refine ⟨h.1, ?_⟩
  rcases h.2 with h2 | ⟨g, cap, cur, rfl, h1, hgg, r⟩
  · exact .inl h2
  · refine .inr ⟨g, cap, cur, rfl, h1, ?_, r⟩
    rw [hg.block g (Array.getElem?_eq_some_iff.1 hgg).1 fun e => ?_]
    · exact hgg
    · rcases hc.2 with ⟨rfl, _⟩ | ⟨g', cap', cur', rfl, _, hg', _⟩
      · cases e
      · cases e
        rw [hgg] at hg'
        injection hg' with hg'
        injection hg' with _ e2
        exact absurd e2 (by decide)
theorem Own.keepI {w w' : World} {B B' : Nat} {v u : Value} {l : List Int} {cs : List C7} (h : Own w B v cs) (hc : OwnI w B' u l) (hg : w.grownBy w' u.ownBlock) : Own w' B v cs := by
  refine ⟨h.1, ?_⟩
  rcases h.2 with h2 | ⟨g, cap, cur, rfl, h1, hgg, r⟩
  · exact .inl h2
  · refine .inr ⟨g, cap, cur, rfl, h1, ?_, r⟩
    rw [hg.block g (Array.getElem?_eq_some_iff.1 hgg).1 fun e => ?_]
    · exact hgg
    · rcases hc.2 with ⟨rfl, _⟩ | ⟨g', cap', cur', rfl, _, hg', _⟩
      · cases e
      · cases e
        rw [hgg] at hg'
        injection hg' with hg'
        injection hg' with _ e2
        exact absurd e2 (by decide)
theorem Own.onB {w w' : World} {B : Nat} {v : Value} {cs : List C7} (h : Own w B v cs) (hb : Below w.heap.size w w') : Own w' B v cs := own_below h hb fun k hk => (h.lt k hk).2
theorem OwnI.one (w : World) (x : Int) : SlS (w.alloc (.cells #[.int .i64 x] 3)) (.slice (some ⟨w.heap.size, 0, none⟩) 1 1) [x] :=
  OwnI.slS (B := w.heap.size) (show World.ownsRow _ _ _ _ _ _ _ from ⟨rfl, .inr ⟨w.heap.size, 1, _, rfl, Nat.le_refl _, heap_alloc_new w _, Nat.le_refl _, by unfold maxLen; omega, rfl, rfl⟩⟩)
theorem all_step {l : List En} {had h : List Int} {out : List C7} {i : Nat} {x : En} (hx : l[i]? = some x) (hi : some i = nextN l h) (ho : out ++ allF l h = allF l had) : (out ++ [x.e.c]) ++ allF l (h ++ [x.id]) = allF l had := by
  rw [← ho, allF_some hi.symm hx, List.append_assoc]; rfl
theorem all_left {l : List En} {h : List Int} {n m : Nat} {i : Nat} {x : En} (hx : l[i]? = some x) (hi : some i = nextN l h) (ho : n + leftN l h ≤ m) : n + 1 + leftN l (h ++ [x.id]) ≤ m := by
  obtain ⟨_, y, hy, hr⟩ := nextN_some hi.symm
  obtain rfl : x = y := by rw [hx] at hy; exact Option.some.inj hy
  have := leftN_lt hx (readyB_new hr)
  omega
theorem all_lt {l : List En} {h : List Int} {n m : Nat} {i : Nat} (hi : some i = nextN l h) (ho : n + leftN l h ≤ m) : n < m := by
  obtain ⟨_, y, hy, hr⟩ := nextN_some hi.symm
  have := leftN_lt hy (readyB_new hr)
  omega
def CmdR (W : World) (b p : Nat) (c : C7) : Prop := W.cell? ⟨b, p, none⟩ = some (.int .i64 c.i) ∧ W.cell? ⟨b, p + 1, none⟩ = some (.int .i64 c.k) ∧ W.cell? ⟨b, p + 2, none⟩ = some (.int .i64 c.s) ∧ W.cell? ⟨b, p + 3, none⟩ = some (.int .i64 c.t) ∧ W.cell? ⟨b, p + 4, none⟩ = some (.int .i64 c.d) ∧ W.cell? ⟨b, p + 5, none⟩ = some (.int .i64 c.p) ∧ W.cell? ⟨b, p + 6, none⟩ = some (.int .i64 c.q)
theorem cmd_range {W : World} {b p : Nat} {e : Ev} (h : W.rangeAt b p e.list) : CmdR W b p e.c := ⟨h 0 _ rfl, h 1 _ rfl, h 2 _ rfl, h 3 _ rfl, h 4 _ rfl, h 5 _ rfl, h 6 _ rfl⟩
set_option maxHeartbeats 4000000 in
set_option maxRecDepth 100000 in
theorem rAllE {v vh : Value} {l : List En} {had : List Int} {w : World} (h : SlE w v (evs l)) (hA : AllAt w l) (hs : ∀ y ∈ l, y.short 100) (hl : l.length ≤ 1000) (hh : SlS w vh had) (hhl : had.length ≤ 10000) : Calls Try.prog 12 #[v, vh] w fun e w' => ∃ r, e = .returned r ∧ Own w' w.heap.size r (allF l had) ∧ Below w.heap.size w w' := by
  have HNX : Hid (∀ (W : World) (u : Value) (hs : List Int) (i : Option Nat), Below w.heap.size w W → SlI W u hs → hs.length ≤ 100000 → i = nextN l hs → Calls Try.prog 9 #[v, u] W fun e w' => e = .returned (.int .i64 (optI i)) ∧ Below W.heap.size W w') := hid (fun W u hs' i hW hu hl' hi => rNextE (h.on hW) (hA.on hW) hs hl hu hl' hi)
  obtain ⟨b, o, cap, a, rfl, ha, hc, hb⟩ := h
  have hlm : (evs l).length = l.length := List.length_map ..
  rw [hlm] at ha hb HNX ⊢
  have HCC := hid hc
  have HHS := hid hh
  have HHL := hid hhl
  obtain ⟨m, hm⟩ : ∃ m, m = l.length := ⟨_, rfl⟩
  rw [← hm] at hl ha hb HNX ⊢
  have HN := hid hm
  obtain ⟨i0, hi, hz0, hz1, hz2⟩ := info_parts Try.infoC
  have HIC := hid (And.intro hi (And.intro hz0 (And.intro hz1 hz2)))
  have tk1 : Hid (1 = 1) := hid rfl
  clear hm hA hc hs hh hlm hhl hi hz0 hz1 hz2
  go_enter Try.func12, Try.ntmps12
  go_upto_region 3 with (first
    | (clear tk1; at_builtin; refine wpList_append_ii rfl _ _ rfl w.heap.size _ [] rfl (OwnI.made w) _ had rfl (HHS.out.on ((Below.refl _ w).alloc (Nat.le_refl _) _)) (by have := HHL.out; simp; omega) (by simp) ?_; intro v1 w1 ho hg; have HB1 : Hid (Below w.heap.size w w1) := hid (((Below.refl _ w).alloc (Nat.le_refl _) (.cells #[] 3)).grown hg (by simp) (fun k hk => by cases hk; exact Nat.le_refl _)); rw [List.nil_append] at ho; have HO1 := hid ho; obtain ⟨ga, ca, na, rfl, hna⟩ := ho.asSlice; clear ho hg hna)
    | fail)
  obtain ⟨i1, hi1⟩ : ∃ z, z = nextN l had := ⟨_, rfl⟩
  have hN1 := HNX.out w1 _ had i1 HB1.out HO1.out.sl (by have := HHL.out; omega) hi1
  have HI1 := hid hi1
  clear hi1
  go_wp2_with (first
    | (go_at_call 9; refine hN1.mono ?_; clear hN1; rintro e w2 ⟨rfl, hB2⟩; have HO2 := hid (HO1.out.on hB2); have HB2 := hid (HB1.out.trans (hB2.mono HB1.out.size)); clear hB2)
    | fail)
  go_loopw [5, 6, 7] (fun s5 s6 s7 wr => ∃ (out : List C7) (h : List Int) (i : Option Nat), Hid (Own wr w.heap.size s5 out) ∧ Hid (OwnI wr w.heap.size s6 h) ∧ s7 = .int .i64 (optI i) ∧ Hid (i = nextN l h) ∧ Hid (out ++ allF l h = allF l had) ∧ Hid (out.length + leftN l h ≤ m) ∧ Hid (h.length = had.length + out.length) ∧ Hid (Below w.heap.size w wr)) (fun s5 _ _ _ => m - lenS s5)
  case atStart => exact ⟨[], had, i1, hid (Own.nil _ _), HO2, rfl, HI1, hid (by simp), hid (by have := leftN_le l had; rw [HN.out]; simpa using this), hid (by simp), HB2⟩
  case round =>
    obtain ⟨out, h, i, HO, HH, rfl, HI, HOA, HLE, HHE, HB⟩ := hrel
    have HLS := hid HO.out.lenS
    obtain ⟨ga1, na1, ca1, rfl, -⟩ := HO.out.asS
    obtain ⟨gb1, cb1, nb1, rfl, -⟩ := HH.out.asSlice
    rcases i with _ | i
    · have hn0 : optI none = -1 := rfl
      rw [hn0]
      have HE : Hid (out = allF l had) := hid (by rw [← HOA.out, allF_none HI.out.symm, List.append_nil])
      go_wp2_with fail
      go_ret
      exact ⟨_, rfl, by rw [← HE.out]; exact HO.out, HB.out⟩
    · have hn1 : optI (some i) = (i : Int) := rfl
      rw [hn1]
      have hnn : (0 : Int) ≤ i := by omega
      obtain ⟨hil, x, hx, _⟩ := nextN_some HI.out.symm
      have him : i < m := by rw [HN.out]; exact hil
      have himi : ((i : Int) < m) := by omega
      have hom : out.length < m := all_lt HI.out HLE.out
      obtain rfl := ha (by omega)
      have hbw := hb (by omega)
      obtain ⟨c, hcd⟩ : ∃ c, c = x.e.c := ⟨_, rfl⟩
      have HR : Hid (∀ W, Below w.heap.size w W → CmdR W b (o + i * 19) c) := hid (fun W hW => by
        rw [hcd]
        exact cmd_range (fun j u hu => (hW.cell hbw).trans (HCC.out i x.e (at_evs hx) j u hu)))
      obtain ⟨c0, c1, c2, c3, c4, c5, c6⟩ := HR.out wr HB.out
      have HX := hid hx
      have HXI : Hid (x.id = c.i) := hid (by rw [hcd])
      have HXC : Hid (x.e.c = c) := hid hcd.symm
      have HOL : Hid (out.length ≤ 1000) := hid (by omega)
      have tk2 : Hid (1 = 1) := hid rfl
      clear hx hil hcd hom
      go_upto_region 6 with (first
        | (clear tk2; at_builtin; refine wpList_append_own _ rfl _ _ 35 rfl w.heap.size 31 i0 _ 7 56 Try.underlying35 HIC.out.1 HIC.out.2.1 HIC.out.2.2.1 HIC.out.2.2.2 rfl (by decide) _ _ _ rfl (HO.out.alloc _) ⟨wr.heap.size, 0, none⟩ 1 1 c.cells rfl rfl (new_cell rfl) (cells_one c) (by have := HOL.out; unfold maxLen; omega) (by have := HOL.out; omega) (by have := HB.out.size; simp; omega) ?_; intro v' w1' hown' hgrow _; have R := Own.grows (HB.out.alloc HB.out.size _) (by have := HB.out.size; simp; omega) (fun k hk => (HO.out.lt k hk).1) hown' hgrow; have HO3 := hid R.1; have HB3 := hid R.2; have HH3 := hid ((HH.out.on ((Below.refl _ wr).alloc (Nat.le_refl _) _)).keepC (HO.out.alloc _) hgrow); clear hown' hgrow R)
        | fail)
      clear c0 c1 c2 c3 c4 c5 c6
      have c0 := (HR.out _ HB3.out).1
      have tk3 : Hid (1 = 1) := hid rfl
      go_upto_region 7 with (first
        | (clear tk3; at_builtin; refine wpList_append_ii rfl _ _ rfl w.heap.size _ h rfl (HH3.out.on ((Below.refl _ _).alloc (Nat.le_refl _) _)) _ [c.i] rfl (OwnI.one _ c.i) (by have := HHE.out; have := HHL.out; have := HOL.out; simp; omega) (by have := HB3.out.size; simp; omega) ?_; intro v4 w4 hown4 hgrow4; have HB4 : Hid (Below w.heap.size w w4) := hid ((HB3.out.alloc HB3.out.size _).grown hgrow4 (by have := HB3.out.size; simp; omega) (fun k hk => (HH3.out.lt k hk).1)); have HO4 := hid ((HO3.out.onB ((Below.refl _ _).alloc (Nat.le_refl _) _)).keepI (HH3.out.on ((Below.refl _ _).alloc (Nat.le_refl _) _)) hgrow4); have HH4 := hid hown4; clear hown4 hgrow4)
        | fail)
      obtain ⟨i2, hi2⟩ : ∃ z, z = nextN l (h ++ [c.i]) := ⟨_, rfl⟩
      have hN2 := HNX.out _ _ (h ++ [c.i]) i2 HB4.out HH4.out.sl (by have := HHE.out; have := HHL.out; have := HOL.out; simp; omega) hi2
      have HI2 := hid hi2
      clear hi2
      go_wp2_with (first
        | (go_at_call 9; refine hN2.mono ?_; clear hN2; rintro e w5 ⟨rfl, hB5⟩; have HH5 := hid (HH4.out.on hB5); have HO5 := hid (HO4.out.onB hB5); have HB5 := hid (HB4.out.trans (hB5.mono HB4.out.size)); clear hB5)
        | fail)
      go_roundw
      case rel => exact ⟨out ++ [c], h ++ [c.i], i2, HO5, HH5, rfl, HI2, hid (by have := all_step HX.out HI.out HOA.out; rw [HXC.out, HXI.out] at this; exact this), hid (by have := all_left HX.out HI.out HLE.out; rw [HXI.out] at this; rw [List.length_append, List.length_singleton]; exact this), hid (by have := HHE.out; simp; omega), HB5⟩
      case measure =>
        have h1 := HO5.out.lenS
        rw [h1]
        have h2 := HLS.out
        rw [h2, List.length_append, List.length_singleton]
        have := HOL.out
        have := all_lt HI.out HLE.out
        omega
end Go.Proofs.Ytmggggijamligaa
namespace Go.Proofs.Ytmggggijamligaa
set_option linter.unusedVariables false
open Go.RowKit
open Go.Lib (hid)
theorem wait_keep {l : List En} {H : List Int} {k : Nat} {x : En} {u : List Int} (hx : l[k]? = some x) (hu : u = waitsUp l H k) (h : waitB l H k x = false) : u = waitsUp l H (k + 1) := by
  rw [waitsUp_succ hx, h, hu]; rfl
theorem wait_take {l : List En} {H : List Int} {k : Nat} {x : En} {u : List Int} (hx : l[k]? = some x) (hu : u = waitsUp l H k) (h : waitB l H k x = true) : u ++ [x.id] = waitsUp l H (k + 1) := by
  rw [waitsUp_succ hx, h, hu]; rfl
theorem ids_take {had : List Int} {cs : List C7} {k : Nat} {c : C7} (h : cs[k]? = some c) : had ++ idsL (cs.take k) ++ [c.i] = had ++ idsL (cs.take (k + 1)) := by
  rw [ids_next h, List.append_assoc]
set_option maxHeartbeats 4000000 in
set_option maxRecDepth 100000 in
theorem rWaitsE {v vh : Value} {l : List En} {had : List Int} {w : World} (h : SlE w v (evs l)) (hA : AllAt w l) (hs : ∀ y ∈ l, y.short 100) (hl : l.length ≤ 1000) (hh : SlS w vh had) (hhl : had.length ≤ 10000) : Calls Try.prog 15 #[v, vh] w fun e w' => ∃ r, e = .returned r ∧ OwnI w' w.heap.size r (waitsF l had) ∧ Below w.heap.size w w' := by
  have HAL : Hid (∀ W : World, Below w.heap.size w W → Calls Try.prog 12 #[v, vh] W fun e w' => ∃ r, e = .returned r ∧ Own w' W.heap.size r (allF l had) ∧ Below W.heap.size W w') := hid (fun W hW => rAllE (h.on hW) (hA.on hW) hs hl (hh.on hW) hhl)
  obtain ⟨b, o, cap, a, rfl, ha, hc, hb⟩ := h
  have hlm : (evs l).length = l.length := List.length_map ..
  have HSL : Hid (SlE w (.slice a l.length cap) (evs l)) := hid ⟨b, o, cap, a, by rw [hlm], ha, hc, hb⟩
  rw [hlm] at ha hb HAL ⊢
  have HCC := hid hc
  have HHS := hid hh
  have HHL := hid hhl
  obtain ⟨m, hm⟩ : ∃ m, m = l.length := ⟨_, rfl⟩
  rw [← hm] at hl ha hb HAL HSL ⊢
  have HN := hid hm
  have HF := hid (fun (id : Int) (W : World) (hW : Below w.heap.size w W) => rFindE (HSL.out.on hW) (by rw [← hm]; omega) id)
  obtain ⟨cs, hcs⟩ : ∃ z, z = allF l had := ⟨_, rfl⟩
  rw [← hcs] at HAL
  have hcl : cs.length ≤ 1000 := by have := allF_le l had; rw [hcs]; omega
  have HCS := hid hcs
  have tk1 : Hid (1 = 1) := hid rfl
  clear hm hA hc hs hh hlm hhl hcs
  go_enter Try.func15, Try.ntmps15
  go_upto_region 2 with (first
    | (clear tk1; at_builtin; refine wpList_append_ii rfl _ _ rfl w.heap.size _ [] rfl (OwnI.made w) _ had rfl (HHS.out.on ((Below.refl _ w).alloc (Nat.le_refl _) _)) (by have := HHL.out; simp; omega) (by simp) ?_; intro v1 w1 ho hg; have HB1 : Hid (Below w.heap.size w w1) := hid (((Below.refl _ w).alloc (Nat.le_refl _) (.cells #[] 3)).grown hg (by simp) (fun k hk => by cases hk; exact Nat.le_refl _)); rw [List.nil_append] at ho; have HO1 := hid ho; obtain ⟨ga, ca, na, rfl, hna⟩ := ho.asSlice; clear ho hg hna)
    | fail)
  have hA1 := HAL.out w1 HB1.out
  go_upto_region 3 with (first
    | (go_at_call 12; refine hA1.mono ?_; clear hA1; rintro e w2 ⟨vt, rfl, hot, hB2⟩; have HO2 := hid (HO1.out.on hB2); have HB2 := hid (HB1.out.trans (hB2.mono HB1.out.size)); have HT2 : Hid (Own w2 w.heap.size vt cs) := hid (own_monoB hot HB1.out.size); clear hB2 hot)
    | fail)
  obtain ⟨gt, n, ct, rfl, hn⟩ := HT2.out.asS
  have hn1 : n ≤ 1000 := by omega
  have HNL := hid hn
  clear hn
  go_wp2_with fail
  go_loopw [5, 7] (fun s5 s7 wr => ∃ (k : Nat), k ≤ n ∧ s7 = .int .i64 k ∧ Hid (OwnI wr w.heap.size s5 (had ++ idsL (cs.take k))) ∧ Hid (Own wr w.heap.size (.slice gt n ct) cs) ∧ Hid (Below w.heap.size w wr)) (fun _ s7 _ => n - (RowKit.intOf s7).toNat)
  case atStart => exact ⟨0, Nat.zero_le _, rfl, hid (by simpa [idsL] using HO2.out), HT2, HB2⟩
  case round =>
    obtain ⟨k, hk, rfl, HO, HT, HB⟩ := hrel
    obtain ⟨g5, c5, n5, rfl, -⟩ := HO.out.asSlice
    by_cases hlt : k < n
    · have hlti : ((k : Int) < n) := by omega
      obtain ⟨b2, o2, cap2, a2, e2, _, ha2, hc2, hb2⟩ := HT.out.sl
      injection e2 with e3 e4 e5
      have ha3 := ha2 (by rw [← HNL.out]; omega)
      obtain rfl := e3.trans ha3
      obtain ⟨c, hcc⟩ : ∃ c, cs[k]? = some c := ⟨cs[k]'(by rw [← HNL.out]; exact hlt), List.getElem?_eq_getElem (by rw [← HNL.out]; exact hlt)⟩
      have c0 : wr.cell? ⟨b2, o2 + k * 7, none⟩ = some (.int .i64 c.i) := hc2 k c hcc 0 _ rfl
      have HC := hid hcc
      have HKL : Hid ((had ++ idsL (cs.take k)).length ≤ 20000) := hid (by have := HHL.out; have := ids_len cs k; simp only [List.length_append]; omega)
      have tk2 : Hid (1 = 1) := hid rfl
      clear hcc e3 e4 e5 ha3 ha2 hc2 hb2
      go_wp2_with (first
        | (clear tk2; at_builtin; refine wpList_append_ii rfl _ _ rfl w.heap.size _ (had ++ idsL (cs.take k)) rfl (HO.out.on ((Below.refl _ _).alloc (Nat.le_refl _) _)) _ [c.i] rfl (OwnI.one _ c.i) (by have := HKL.out; simp only [List.length_singleton]; omega) (by have := HB.out.size; simp; omega) ?_; intro v4 w4 hown4 hgrow4; have HB4 : Hid (Below w.heap.size w w4) := hid ((HB.out.alloc HB.out.size _).grown hgrow4 (by have := HB.out.size; simp; omega) (fun k hk => (HO.out.lt k hk).1)); have HT4 := hid ((HT.out.onB ((Below.refl _ _).alloc (Nat.le_refl _) _)).keepI (HO.out.on ((Below.refl _ _).alloc (Nat.le_refl _) _)) hgrow4); rw [ids_take HC.out] at hown4; have HO4 := hid hown4; clear hown4 hgrow4)
        | fail)
      go_roundw
      case rel => exact ⟨k + 1, by omega, by go_num, HO4, HT4, HB4⟩
      case measure => first | omega | (simp [RowKit.intOf]; omega)
    · have hlti : ¬ ((k : Int) < n) := by omega
      have hkn : k = n := by omega
      obtain ⟨H, hH⟩ : ∃ z, z = had ++ idsL (allF l had) := ⟨_, rfl⟩
      have HHH := hid hH
      have HOH : Hid (OwnI wr w.heap.size (.slice g5 n5 c5) H) := hid (by rw [HHH.out, ← HCS.out]; have := HO.out; rw [hkn, HNL.out, List.take_length] at this; exact this)
      have HHB : Hid (H.length ≤ 100000) := hid (by rw [HHH.out, ← HCS.out]; have := HHL.out; unfold idsL; simp only [List.length_append, List.length_map]; omega)
      clear hH HO
      rename World => wo
      go_wp2_with fail
      go_loopw [8, 9] (fun s8 s9 wq => ∃ (j : Nat) (u : List Int), j ≤ m ∧ s9 = .int .i64 j ∧ Hid (OwnI wq wo.heap.size s8 u) ∧ Hid (u = waitsUp l H j) ∧ Hid (Below wo.heap.size wo wq)) (fun _ s9 _ => m - (RowKit.intOf s9).toNat)
      case atStart => exact ⟨0, [], Nat.zero_le _, rfl, hid (OwnI.nil _ _), hid rfl, hid (Below.refl _ _)⟩
      case round =>
        obtain ⟨j, u, hj, rfl, HU, HUE, HBQ⟩ := hrel
        have HBW := hid (HB.out.trans (HBQ.out.mono HB.out.size))
        obtain ⟨g8, c8, n8, rfl, -⟩ := HU.out.asSlice
        by_cases hjt : j < m
        · have hjti : ((j : Int) < m) := by omega
          obtain rfl := ha (by omega)
          have hbw := hb (by omega)
          obtain ⟨x, hx⟩ : ∃ x, l[j]? = some x := ⟨l[j]'(by rw [← HN.out]; exact hjt), List.getElem?_eq_getElem (by rw [← HN.out]; exact hjt)⟩
          obtain ⟨xi, hxi⟩ : ∃ z, z = x.id := ⟨_, rfl⟩
          obtain ⟨dn, hdn⟩ : ∃ z, z = x.e.dn := ⟨_, rfl⟩
          obtain ⟨iv, hiv⟩ : ∃ z, z = hasI H xi := ⟨_, rfl⟩
          obtain ⟨fi, hfi⟩ : ∃ z, z = findN l xi := ⟨_, rfl⟩
          have c0 : wr.cell? ⟨b, o + j * 19, none⟩ = some (.int .i64 xi) := (HBW.out.cell hbw).trans (by rw [hxi]; exact HCC.out j x.e (at_evs hx) 0 _ rfl)
          have c16 : wr.cell? ⟨b, o + j * 19 + 16, none⟩ = some (.bool dn) := (HBW.out.cell hbw).trans (by rw [hdn]; exact HCC.out j x.e (at_evs hx) 16 _ rfl)
          have hHas := rHasI (HOH.out.on HBQ.out).sl HHB.out xi
          rw [← hiv] at hHas
          have hFin := HF.out xi wr HBW.out
          rw [← hfi] at hFin
          have HWT : Hid (waitB l H j x = (dn && !iv && decide (fi = some j))) := hid (by unfold waitB; rw [← hdn, ← hxi, ← hiv, ← hfi])
          have HX := hid hx
          have HXI := hid hxi
          have HUL : Hid (u.length ≤ 1000) := hid (by have := HUE.out; have h2 := waitsUp_len (l := l) (h := H) j; rw [← this] at h2; omega)
          clear hx hxi hdn hiv hfi
          rcases dn with _ | _
          · have HNO : Hid (waitB l H j x = false) := hid (by rw [HWT.out]; rfl)
            go_wp2_with (first
              | (go_at_call 26; refine hHas.mono ?_; clear hHas; rintro e w5 ⟨rfl, rfl⟩)
              | (go_at_call 27; refine hFin.mono ?_; clear hFin; rintro e w5 ⟨rfl, rfl⟩)
              | fail)
            go_roundw
            case rel => exact ⟨j + 1, u, by omega, by go_num, HU, hid (wait_keep HX.out HUE.out HNO.out), HBQ⟩
            case measure => first | omega | (simp [RowKit.intOf]; omega)
          rcases iv with _ | _
          rotate_left
          · have HNO : Hid (waitB l H j x = false) := hid (by rw [HWT.out]; rfl)
            go_wp2_with (first
              | (go_at_call 26; refine hHas.mono ?_; clear hHas; rintro e w5 ⟨rfl, rfl⟩)
              | (go_at_call 27; refine hFin.mono ?_; clear hFin; rintro e w5 ⟨rfl, rfl⟩)
              | fail)
            go_roundw
            case rel => exact ⟨j + 1, u, by omega, by go_num, HU, hid (wait_keep HX.out HUE.out HNO.out), HBQ⟩
            case measure => first | omega | (simp [RowKit.intOf]; omega)
          by_cases hfe : optI fi = (j : Int)
          rotate_left
          · have HNO : Hid (waitB l H j x = false) := hid (by rw [HWT.out, optI_ne hfe]; rfl)
            have hfb : (optI fi == (j : Int)) = false := by simpa using hfe
            go_wp2_with (first
              | (go_at_call 26; refine hHas.mono ?_; clear hHas; rintro e w5 ⟨rfl, rfl⟩)
              | (go_at_call 27; refine hFin.mono ?_; clear hFin; rintro e w5 ⟨rfl, rfl⟩)
              | fail)
            go_roundw
            case rel => exact ⟨j + 1, u, by omega, by go_num, HU, hid (wait_keep HX.out HUE.out HNO.out), HBQ⟩
            case measure => first | omega | (simp [RowKit.intOf]; omega)
          rw [hfe] at hFin
          have hii : ((j : Int) == (j : Int)) = true := by simp
          have HYES : Hid (waitB l H j x = true) := hid (by rw [HWT.out, optI_eq hfe]; simp)
          have tk3 : Hid (1 = 1) := hid rfl
          go_wp2_with (first
            | (go_at_call 26; refine hHas.mono ?_; clear hHas; rintro e w5 ⟨rfl, rfl⟩)
            | (go_at_call 27; refine hFin.mono ?_; clear hFin; rintro e w5 ⟨rfl, rfl⟩)
            | (clear tk3; at_builtin; refine wpList_append_ii rfl _ _ rfl wo.heap.size _ u rfl (HU.out.on ((Below.refl _ _).alloc (Nat.le_refl _) _)) _ [xi] rfl (OwnI.one _ xi) (by have := HUL.out; simp only [List.length_singleton]; omega) (by have := HBQ.out.size; simp; omega) ?_; intro v4 w4 hown4 hgrow4; have HB4 : Hid (Below wo.heap.size wo w4) := hid ((HBQ.out.alloc HBQ.out.size _).grown hgrow4 (by have := HBQ.out.size; simp; omega) (fun k hk => (HU.out.lt k hk).1)); have HU4 := hid hown4; clear hown4 hgrow4)
            | fail)
          go_roundw
          case rel => exact ⟨j + 1, u ++ [xi], by omega, by go_num, HU4, hid (by rw [HXI.out]; exact wait_take HX.out HUE.out HYES.out), HB4⟩
          case measure => first | omega | (simp [RowKit.intOf]; omega)
        · have hjti : ¬ ((j : Int) < m) := by omega
          have hjm : j = m := by omega
          have HRE : Hid (u = waitsF l had) := hid (by rw [HUE.out, hjm, HN.out, HHH.out]; rfl)
          go_wp2_with fail
          go_ret
          exact ⟨_, rfl, by rw [← HRE.out]; exact own_monoB HU.out HB.out.size, HBW.out⟩
end Go.Proofs.Ytmggggijamligaa
namespace Go.Proofs.Ytmggggijamligaa
set_option linter.unusedVariables false
open Go.RowKit
open Go.Lib (hid)
def cmdT (S : Nat → Int) (i : Nat) : C7 := ⟨16 * ((i : Int) + 1), 1, S i, 16, 0, 0, 0⟩
structure OkT (n : Nat) (S : Nat → Int) (T : Nat → Nat) (i : Nat) (x : En) : Prop where
  c : x.e.c = cmdT S i
  dn : x.e.dn = true
  vt : x.e.vt = 16 * ((T i : Int) + 1) + ((i % 9 : Nat) : Int)
  sub : ∀ c ∈ x.v, ∃ k, k < n ∧ k ≠ i ∧ S k = S i ∧ c = cmdT S k
  has : ∀ k, k < n → k ≠ i → S k = S i → T k < T i → cmdT S k ∈ x.v
section
variable {n : Nat} {S : Nat → Int} {T : Nat → Nat} {l : List En} {ix : List Nat}
theorem OkT.id {i : Nat} {x : En} (h : OkT n S T i x) : x.id = (cmdT S i).i := by
  show x.e.c.i = _
  rw [h.c]
end
end Go.Proofs.Ytmggggijamligaa
namespace Go.Proofs.Ytmggggijamligaa
set_option linter.unusedVariables false
open Go.RowKit
open Go.Lib (hid)
def zC7 : C7 := ⟨0, 0, 0, 0, 0, 0, 0⟩
abbrev wfI (i : Int) : Prop := (Lit.int .i64 i).wf = true
def WfA (l : List En) (had : List Int) : Prop := (∀ y ∈ l, wfI y.id ∧ ∀ c ∈ y.v, wfI c.i) ∧ ∀ x ∈ had, wfI x
theorem wfI_of {x : Int} (h : -9223372036854775808 ≤ x ∧ x ≤ 9223372036854775807) : wfI x := by
  have e1 : IntKind.i64.min = -9223372036854775808 := by decide
  have e2 : IntKind.i64.max = 9223372036854775807 := by decide
  simp [wfI, Lit.wf, e1, e2]; exact h
def nextC (l : List En) : Option Nat → C7
  | none => zC7
  | some i => match l[i]? with
    | none => zC7
    | some x => x.e.c
theorem nextC_some {l : List En} {i : Nat} {x : En} (h : l[i]? = some x) : nextC l (some i) = x.e.c := by
  show (match l[i]? with | none => _ | some x => _) = _
  rw [h]
def NextOK : Prop := ∀ {v vh : Value} {l : List En} {had : List Int} {w : World}, SlE w v (evs l) → AllAt w l → (∀ y ∈ l, y.short 100) → l.length ≤ 1000 → SlS w vh had → had.length ≤ 10000 → WfA l had → ∀ o, o = nextN l had → ∀ c, c = nextC l o → ∀ ok, ok = o.isSome → Calls Try.prog 8 #[v, vh] w fun e w' => e = .returned (.tuple #[c.v, .bool ok]) ∧ Below w.heap.size w w'
def AllOK : Prop := ∀ {v vh : Value} {l : List En} {had : List Int} {w : World}, SlE w v (evs l) → AllAt w l → (∀ y ∈ l, y.short 100) → l.length ≤ 1000 → SlS w vh had → had.length ≤ 10000 → WfA l had → Calls Try.prog 11 #[v, vh] w fun e w' => ∃ r, e = .returned r ∧ Own w' w.heap.size r (allF l had) ∧ Below w.heap.size w w'
def WaitsOK : Prop := ∀ {v vh : Value} {l : List En} {had : List Int} {w : World}, SlE w v (evs l) → AllAt w l → (∀ y ∈ l, y.short 100) → l.length ≤ 1000 → SlS w vh had → had.length ≤ 10000 → WfA l had → Calls Try.prog 14 #[v, vh] w fun e w' => ∃ r, e = .returned r ∧ OwnI w' w.heap.size r (waitsF l had) ∧ Below w.heap.size w w'
def AliveOK : Prop := ∀ w : World, Calls Try.prog 6 #[] w fun e w' => e = .returned (.bool true) ∧ Below w.heap.size w w'
end Go.Proofs.Ytmggggijamligaa

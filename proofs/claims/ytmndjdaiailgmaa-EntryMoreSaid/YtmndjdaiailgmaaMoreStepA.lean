/- The law EntryMore: one act only adds. -/
import Derived.Test.YtmndjdaiailgmaaMoreDef
namespace Go.Proofs.Ytmndjdaiailgmaa
set_option linter.unusedVariables false
open Go.RowKit
open Go.Lib (hid)

theorem right_iff {e : Ev} {f a v : List C7} : rightE e f a v = true ↔ e.c.ok = true ∧ withinB e.pr 1048576 = true ∧ timesB e.lo e.hi = true ∧ mustB e.ft f (!decide (e.ft = 0)) = true ∧ withinB e.ab 1048576 = true ∧ mustB e.xt a (!decide (e.ab = 0)) = true ∧ mustB e.vt v e.dn = true := by
  unfold rightE; simp only [Bool.and_eq_true, and_assoc]
theorem full_parts {t : Int} {l : List C7} (h : fullB t l = true) : validB t = true ∧ setB l = true := by unfold fullB at h; exact Bool.and_eq_true_iff.1 h
theorem must_full {t : Int} {l : List C7} (h : fullB t l = true) : mustB t l true = true := by unfold mustB; rw [h]; rfl
theorem valid_ne {t : Int} (h : validB t = true) : 16 ≤ t := (valid_iff.1 h).1
theorem times_res {e : Ev} {t : Int} (h : timesB e.lo e.hi = true) (hv : validB t = true) : timesB (loE e t) (hiE e t) = true := by
  have h16 := valid_ne hv
  have hV : ∀ lo hi : Int, validB lo = true → validB hi = true → lo ≤ hi → timesB lo hi = true := fun lo hi h1 h2 h3 => by unfold timesB; rw [h1, h2, decide_eq_true h3]; simp
  rcases times_cases h with ⟨h0, h1⟩ | ⟨h0, h1, hle⟩
  · have e1 : loE e t = t := if_pos (.inl h0)
    have e2 : hiE e t = t := if_pos (by omega)
    rw [e1, e2]; exact hV t t hv hv (Int.le_refl _)
  · have g0 := valid_ne h0
    unfold loE hiE
    by_cases c1 : e.lo = 0 ∨ t < e.lo
    · rw [if_pos c1]
      by_cases c2 : e.hi < t
      · rw [if_pos c2]; exact hV _ _ hv hv (Int.le_refl _)
      · rw [if_neg c2]; exact hV _ _ hv h1 (by omega)
    · rw [if_neg c1]
      by_cases c2 : e.hi < t
      · rw [if_pos c2]; exact hV _ _ h0 hv (by omega)
      · rw [if_neg c2]; exact hV _ _ h0 h1 (by omega)
theorem lo_res {e : Ev} {t : Int} (hv : validB t = true) : e.lo ≠ 0 → ¬ e.lo < loE e t ∧ loE e t ≠ 0 := fun h0 => by
  have h16 := valid_ne hv
  unfold loE
  split <;> omega
theorem hi_res {e : Ev} {t : Int} : ¬ hiE e t < e.hi := by unfold hiE; split <;> omega
theorem res_eq {e : Ev} {t : Int} (hv : validB t = true) : (resE e t).1 = { e with lo := loE e t, hi := hiE e t } := by unfold resE; rw [hv]; rfl
theorem res_no {e : Ev} {t : Int} (hv : validB t = false) : (resE e t).1 = e := by unfold resE; rw [hv]; rfl

/-- What a round leaves. -/
structure GoodS (w : World) (e : Ev) (f a v : List C7) (e1 : Ev) (f1 a1 v1 : List C7) : Prop where
  nx : NextS e f a v e1 f1 a1 v1
  sf : Sl w e1.fp.v f1
  sa : Sl w e1.xp.v a1
  sv : Sl w e1.vp.v v1
  lf : f1.length ≤ 80
  la : a1.length ≤ 80
  lv : v1.length ≤ 80
theorem dv_same {e : Ev} (v : List C7) (e1 : Ev) (h1 : e1.dn = e.dn) (h2 : e1.vt = e.vt) : e.dn = false ∨ (e1.dn = true ∧ e1.vt = e.vt ∧ v = v) := by
  cases h : e.dn
  · exact .inl rfl
  · exact .inr ⟨h1.trans h, h2, rfl⟩
section
variable {w : World} {e : Ev} {f a v l : List C7} {b t : Int} {p : Sv} (hf : Sl w e.fp.v f) (ha : Sl w e.xp.v a) (hv : Sl w e.vp.v v) (lf : f.length ≤ 80) (la : a.length ≤ 80) (lv : v.length ≤ 80) (ok : rightE e f a v = true) 
include hf ha hv lf la lv ok
theorem good_same : GoodS w e f a v e f a v := ⟨⟨ok, by omega, fun h => ⟨by omega, h⟩, by omega, fun h => h, rfl, .inr ⟨rfl, rfl⟩, dv_same v _ rfl rfl⟩, hf, ha, hv, lf, la, lv⟩
theorem good_prom (h1 : withinB b 1048576 = true) (h2 : ¬ b < e.pr) : GoodS w e f a v { e with pr := b } f a v := by
  obtain ⟨r1, r2, r3, r4, r5, r6, r7⟩ := right_iff.1 ok
  exact ⟨⟨right_iff.2 ⟨r1, h1, r3, r4, r5, r6, r7⟩, h2, fun h => ⟨Int.lt_irrefl _, h⟩, Int.lt_irrefl _, fun h => h, rfl, .inr ⟨rfl, rfl⟩, dv_same v _ rfl rfl⟩, hf, ha, hv, lf, la, lv⟩
theorem good_res (h1 : validB t = true) : GoodS w e f a v { e with lo := loE e t, hi := hiE e t } f a v := by
  obtain ⟨r1, r2, r3, r4, r5, r6, r7⟩ := right_iff.1 ok
  exact ⟨⟨right_iff.2 ⟨r1, r2, times_res r3 h1, r4, r5, r6, r7⟩, Int.lt_irrefl _, lo_res h1, hi_res, fun h => h, rfl, .inr ⟨rfl, rfl⟩, dv_same v _ rfl rfl⟩, hf, ha, hv, lf, la, lv⟩
theorem good_free : GoodS w e f a v { e with fr := true } f a v := by
  obtain ⟨r1, r2, r3, r4, r5, r6, r7⟩ := right_iff.1 ok
  exact ⟨⟨right_iff.2 ⟨r1, r2, r3, r4, r5, r6, r7⟩, Int.lt_irrefl _, fun h => ⟨Int.lt_irrefl _, h⟩, Int.lt_irrefl _, fun _ => rfl, rfl, .inr ⟨rfl, rfl⟩, dv_same v _ rfl rfl⟩, hf, ha, hv, lf, la, lv⟩
end
theorem good_vote {w : World} {e : Ev} {f a v l : List C7} {t : Int} {p : Sv} (ha : Sl w e.xp.v a) (hv : Sl w e.vp.v v) (la : a.length ≤ 80) (lv : v.length ≤ 80) (ok : rightE e f a v = true) (hp : Sl w p.v l) (ll : l.length ≤ 80) (h1 : fullB t l = true) (h2 : noneB e.ft f = true) : GoodS w e f a v { (resE e t).1 with ft := t, fp := p } l a v := by
  obtain ⟨r1, r2, r3, r4, r5, r6, r7⟩ := right_iff.1 ok
  have hV := (full_parts h1).1
  have h16 := valid_ne hV
  have h0 : e.ft = 0 := by unfold noneB at h2; exact of_decide_eq_true (Bool.and_eq_true_iff.1 h2).1
  rw [res_eq hV]
  have hm : mustB t l (!decide (t = 0)) = true := by
    have : (!decide (t = 0)) = true := by simp; omega
    rw [this]; exact must_full h1
  exact ⟨⟨right_iff.2 ⟨r1, r2, times_res r3 hV, hm, r5, r6, r7⟩, Int.lt_irrefl _, lo_res hV, hi_res, fun h => h, rfl, .inl h0, dv_same v _ rfl rfl⟩, hp, ha, hv, ll, la, lv⟩
theorem good_acc {w : World} {e : Ev} {f a v l : List C7} {b t : Int} {p : Sv} (hf : Sl w e.fp.v f) (hv : Sl w e.vp.v v) (lf : f.length ≤ 80) (lv : v.length ≤ 80) (ok : rightE e f a v = true) (hp : Sl w p.v l) (ll : l.length ≤ 80) (h1 : fullB t l = true) (h2 : withinB b 1048576 = true) (h3 : b ≠ 0) (h4 : ¬ b < e.pr) : GoodS w e f a v { (resE e t).1 with pr := b, ab := b, xt := t, xp := p } f l v := by
  obtain ⟨r1, r2, r3, r4, r5, r6, r7⟩ := right_iff.1 ok
  have hV := (full_parts h1).1
  rw [res_eq hV]
  have hm : mustB t l (!decide (b = 0)) = true := by
    have : (!decide (b = 0)) = true := by simp [h3]
    rw [this]; exact must_full h1
  exact ⟨⟨right_iff.2 ⟨r1, h2, times_res r3 hV, r4, h2, hm, r7⟩, h4, lo_res hV, hi_res, fun h => h, rfl, .inr ⟨rfl, rfl⟩, dv_same v _ rfl rfl⟩, hf, hp, hv, lf, ll, lv⟩
theorem good_fin {w : World} {e : Ev} {f a v l : List C7} {t : Int} {p : Sv} (hf : Sl w e.fp.v f) (ha : Sl w e.xp.v a) (lf : f.length ≤ 80) (la : a.length ≤ 80) (ok : rightE e f a v = true) (hp : Sl w p.v l) (ll : l.length ≤ 80) (h1 : fullB t l = true) (h2 : e.dn = false) : GoodS w e f a v { e with dn := true, vt := t, vp := p } f a l := by
  obtain ⟨r1, r2, r3, r4, r5, r6, r7⟩ := right_iff.1 ok
  exact ⟨⟨right_iff.2 ⟨r1, r2, r3, r4, r5, r6, must_full h1⟩, Int.lt_irrefl _, fun h => ⟨Int.lt_irrefl _, h⟩, Int.lt_irrefl _, fun h => h, rfl, .inr ⟨rfl, rfl⟩, .inl h2⟩, hf, ha, hp, lf, la, ll⟩
/-- The document's entry: its slices still hold lists. -/
structure HasS (w : World) (m : Ev) : Prop where
  has : ∃ f a v : List C7, Sl w m.fp.v f ∧ Sl w m.xp.v a ∧ Sl w m.vp.v v ∧ f.length ≤ 80 ∧ a.length ≤ 80 ∧ v.length ≤ 80
theorem same_of {w : World} {e1 m1 : Ev} {f1 a1 v1 : List C7} (sf : Sl w e1.fp.v f1) (sa : Sl w e1.xp.v a1) (sv : Sl w e1.vp.v v1) (lf : f1.length ≤ 80) (la : a1.length ≤ 80) (lv : v1.length ≤ 80) (hm : HasS w m1) :
    ∃ s, ∀ W, Below w.heap.size w W → Calls Try.prog 14 #[.agg e1.arr, .agg m1.arr] W fun x w' => x = .returned (.bool s) ∧ Below W.heap.size W w' := by
  obtain ⟨f', a', v', h1, h2, h3, h4, h5, h6⟩ := hm.has
  exact ⟨_, fun W hB => cSame6 (sf.on hB) (h1.on hB) (sa.on hB) (h2.on hB) (sv.on hB) (h3.on hB) (by omega) (by omega) (by omega) (by omega) (by omega) (by omega)⟩
theorem has_e {w : World} {e : Ev} {f a v : List C7} (hf : Sl w e.fp.v f) (ha : Sl w e.xp.v a) (hv : Sl w e.vp.v v) (lf : f.length ≤ 80) (la : a.length ≤ 80) (lv : v.length ≤ 80) : HasS w e := ⟨f, a, v, hf, ha, hv, lf, la, lv⟩
theorem has_res {w : World} {e : Ev} {t : Int} (h : HasS w e) : HasS w (resE e t).1 := by
  unfold resE; split
  · exact h
  · exact ⟨h.has⟩
/-- A round's contract. -/
def RoundS (w : World) (e : Ev) (f a v : List C7) (A : Ac) : Prop := ∃ (e1 m1 : Ev) (f1 a1 v1 : List C7), (∀ W, Below w.heap.size w W → Calls Try.prog 9 #[.agg e.arr, .agg e.arr, .agg #[.int .u8 A.k, .int .i64 A.b, .int .i64 A.t, .slice A.p.a A.p.n A.p.c]] W fun x w' => (∃ r, x = .returned (.tuple #[.agg e1.arr, .agg m1.arr, .bool r])) ∧ Below W.heap.size W w') ∧
      NextS e f a v e1 f1 a1 v1 ∧ Sl w e1.fp.v f1 ∧ Sl w e1.xp.v a1 ∧ Sl w e1.vp.v v1 ∧ f1.length ≤ 80 ∧ a1.length ≤ 80 ∧ v1.length ≤ 80
theorem round_of {w : World} {e e1 m1 : Ev} {f a v f1 a1 v1 : List C7} {A : Ac} (g : GoodS w e f a v e1 f1 a1 v1) (hm : HasS w m1)
    (h : ∀ s, (∀ W, Below w.heap.size w W → Calls Try.prog 14 #[.agg e1.arr, .agg m1.arr] W fun x w' => x = .returned (.bool s) ∧ Below W.heap.size W w') →
      ∀ W, Below w.heap.size w W → Calls Try.prog 9 #[.agg e.arr, .agg e.arr, .agg #[.int .u8 A.k, .int .i64 A.b, .int .i64 A.t, .slice A.p.a A.p.n A.p.c]] W fun x w' => (∃ r, x = .returned (.tuple #[.agg e1.arr, .agg m1.arr, .bool r])) ∧ Below W.heap.size W w') : RoundS w e f a v A := by
  obtain ⟨s, hs⟩ := same_of g.sf g.sa g.sv g.lf g.la g.lv hm
  exact ⟨e1, m1, f1, a1, v1, h s hs, g.nx, g.sf, g.sa, g.sv, g.lf, g.la, g.lv⟩
theorem bel_tr {w W X : World} (h : Below w.heap.size w W) (h' : Below W.heap.size W X) : Below w.heap.size w X := h.trans (h'.mono h.size)
end Go.Proofs.Ytmndjdaiailgmaa

import Derived.Test.YtlehcaacfgocaaaGreatVBaseZm
import Derived.Test.YtlehcaacfgocaaaGreatVTouchZm
import Derived.Test.YtlehcaacfgocaaaGreatG07
import Derived.Test.YtlehcaacfgocaaaGreatG14
import Derived.Test.YtlehcaacfgocaaaGreatG15
import Derived.Test.YtlehcaacfgocaaaGreatG17
import Derived.Test.YtlehcaacfgocaaaGreatQMathZm
import Derived.Test.YtlehcaacfgocaaaGreatQLearnZm
import Derived.Maps.AppendAt
namespace Go.Proofs.YtlehcaacfgocaaaGreat
set_option linter.unusedVariables false
open Go.RowKit
open Go.Lib (hid)
theorem right_iff {e : Ev} {f a v : List C7} : rightE e f a v = true ↔ e.c.ok = true ∧ withinB e.pr 1048576 = true ∧ timesB e.lo e.hi = true ∧ mustB e.ft f (!decide (e.ft = 0)) = true ∧ withinB e.ab 1048576 = true ∧ mustB e.xt a (!decide (e.ab = 0)) = true ∧ mustB e.vt v e.dn = true := by
  unfold rightE; simp only [Bool.and_eq_true, and_assoc]
theorem full_parts {t : Int} {l : List C7} (h : fullB t l = true) : validB t = true ∧ setB l = true := by unfold fullB at h; exact Bool.and_eq_true_iff.1 h
theorem must_full {t : Int} {l : List C7} (h : fullB t l = true) : mustB t l true = true := by unfold mustB; rw [h]; rfl
theorem valid_ne {t : Int} (h : validB t = true) : 16 ≤ t := (valid_iff.1 h).1
theorem times_res {e : Ev} {t : Int} (h : timesB e.lo e.hi = true) (hv : validB t = true) : timesB (loE e t) (hiE e t) = true := by
  have h16 := valid_ne hv
  have hV : ∀ lo hi : Int, validB lo = true → validB hi = true → lo ≤ hi → timesB lo hi = true := fun lo hi h1 h2 h3 => by unfold timesB; rw [h1, h2, decide_eq_true h3]; simp
  rcases times_cases h with ⟨h0, h1⟩ | ⟨h0, h1, hle⟩
  · have e1 : loE e t = t := if_pos (.inl h0)
    have e2 : hiE e t = t := if_pos (by omega)
    rw [e1, e2]; exact hV t t hv hv (Int.le_refl _)
  · have g0 := valid_ne h0
    unfold loE hiE
    by_cases c1 : e.lo = 0 ∨ t < e.lo
    · rw [if_pos c1]
      by_cases c2 : e.hi < t
      · rw [if_pos c2]; exact hV _ _ hv hv (Int.le_refl _)
      · rw [if_neg c2]; exact hV _ _ hv h1 (by omega)
    · rw [if_neg c1]
      by_cases c2 : e.hi < t
      · rw [if_pos c2]; exact hV _ _ h0 hv (by omega)
      · rw [if_neg c2]; exact hV _ _ h0 h1 (by omega)
theorem res_eq {e : Ev} {t : Int} (hv : validB t = true) : (resE e t).1 = { e with lo := loE e t, hi := hiE e t } := by unfold resE; rw [hv]; rfl
structure Sd where
  xs : List En
  c : Int
  ov : Bool
abbrev zEn : En := ⟨zE, [], [], []⟩
def lkE (xs : List En) (i : Int) : En := (lookG En.id xs i).getD zEn
theorem lkE_e (xs : List En) (i : Int) : (lkE xs i).e = lookE xs i := by unfold lkE lookE; cases lookG En.id xs i <;> rfl
theorem lkE_some {xs : List En} {i : Int} {y : En} (h : lookG En.id xs i = some y) : lkE xs i = y := by unfold lkE; rw [h]; rfl
theorem lkE_has {xs : List En} {i : Int} (h : hasE xs i = true) : lookG En.id xs i = some (lkE xs i) := by
  obtain ⟨y, hy⟩ := has_some h
  rw [lkE_some hy, hy]
theorem lkE_mem {xs : List En} {i : Int} (h : hasE xs i = true) : lkE xs i ∈ xs ∧ (lkE xs i).id = i := by
  obtain ⟨h1, h2⟩ := look_key En.id xs _ _ (lkE_has h)
  exact ⟨h2, h1⟩
def freshS (nd : Int) (s : Sd) : Sd := if mkE (s.c + 1) nd = 0 then { s with c := s.c + 1, ov := false } else { s with ov := true }
def backA (nd : Int) (m : Ms) (a : An) : An := { a with fr := nd, tt := m.m.fr, c := m.m.c, bal := if a.so = 7 then a.bal else m.m.bal }
def predL (xs : List En) (c : C7) (t : Int) : List C7 := touchL xs c fun y => aheadE y.e t
def refuseF (nd : Int) (s : Sd) (m : Ms) : Sd × List An :=
  (freshS nd s, if mkE (s.c + 1) nd = 0 then [backA nd m { zA with so := 2, vt := m.m.vt, vl := predL s.xs m.m.c (mkV (s.c + 1) nd), s := mkV (s.c + 1) nd }] else [])
def putD (s : Sd) (y : En) : Sd := { s with xs := s.xs ++ [y], c := seeE s.c y.e }
def resY (y : En) (t : Int) : En := { y with e := (resE y.e t).1 }
def votY (y : En) (m : Ms) : En := ⟨{ (resE y.e m.m.vt).1 with ft := m.m.vt, fp := m.m.vp }, m.v, y.a, y.v⟩
def moreL (xs : List En) (m : Ms) : List C7 := minusL (predL xs m.m.c m.m.vt) m.v
def votesB (xs : List En) (m : Ms) (y : En) : Bool := decide (m.m.bal = 0) && (decide ((moreL xs m).length = 0) && decide (y.e.ft = 0))
def agreeF (nd : Int) (s : Sd) (m : Ms) (y : En) : Sd × List An :=
  (putD s (if votesB s.xs m y = true then votY y m else resY y m.m.vt), [backA nd m { zA with so := 1, vt := m.m.vt, vl := moreL s.xs m, fl := votesB s.xs m y }])
def votedB (m : Ms) (y : En) : Bool := decide (y.e.ft = m.m.vt) && sameB y.f m.v
def killsB (xs : List En) (m : Ms) : Bool := decide (0 < (touchL xs m.m.c (killB m.m.vt m.m.c.i)).length) || (m.m.fl && decide (0 < (touchL xs m.m.c (absB m.m.vt m.v true)).length))
def holdB (xs : List En) (m : Ms) : Bool := decide (0 < (touchL xs m.m.c (fun y => holdsE y.e m.m.vt)).length) || (m.m.fl && decide (0 < (touchL xs m.m.c (absB m.m.vt m.v false)).length))
def decideF (nd : Int) (s : Sd) (m : Ms) (y : En) : Sd × List An :=
  if (votedB m y && (decide (m.m.bal = 0) || m.m.fl)) = true then (s, [backA nd m { zA with so := 1, vt := m.m.vt, fl := true }])
  else if killsB s.xs m = true then refuseF nd s m
  else if holdB s.xs m = true then (s, [])
  else agreeF nd s m y
def answerF (nd : Int) (s : Sd) (m : Ms) (t : Sd × List An) : Sd × List An :=
  if m.m.so ≠ 7 ∧ (lookE s.xs m.m.c.i).dn = true then (s, [backA nd m { zA with so := 7, vt := (lookE s.xs m.m.c.i).vt, vl := (lkE s.xs m.m.c.i).v }])
  else if m.m.so ≠ 7 ∧ m.m.bal < (lookE s.xs m.m.c.i).pr then (s, [backA nd m { zA with so := 8, ab := (lookE s.xs m.m.c.i).pr }])
  else t
def ansD (nd : Int) (s : Sd) (m : Ms) : Sd × List An := answerF nd s m (decideF nd s m (lkE s.xs m.m.c.i))
theorem right_res {y : En} {t : Int} (h : y.right = true) (hv : validB t = true) : (resY y t).right = true := by
  obtain ⟨r1, r2, r3, r4, r5, r6, r7⟩ := right_iff.1 h
  unfold resY
  rw [res_eq hv]
  exact right_iff.2 ⟨r1, r2, times_res r3 hv, r4, r5, r6, r7⟩
theorem right_vot {y : En} {m : Ms} (h : y.right = true) (hv : fullB m.m.vt m.v = true) : (votY y m).right = true := by
  obtain ⟨r1, r2, r3, r4, r5, r6, r7⟩ := right_iff.1 h
  have h2 := (full_parts hv).1
  have h16 := valid_ne h2
  unfold votY
  rw [res_eq h2]
  refine right_iff.2 ⟨r1, r2, times_res r3 h2, ?_, r5, r6, r7⟩
  rw [decide_eq_false (show ¬ m.m.vt = 0 by omega)]
  exact must_full hv
theorem right_prom {y : En} {b : Int} (h : y.right = true) (hb : withinB b 1048576 = true) : En.right { y with e := { y.e with pr := b } } = true := by
  obtain ⟨r1, r2, r3, r4, r5, r6, r7⟩ := right_iff.1 h
  exact right_iff.2 ⟨r1, hb, r3, r4, r5, r6, r7⟩
theorem right_free {y : En} (h : y.right = true) : En.right { y with e := { y.e with fr := true } } = true := h
theorem right_acc {y : En} {b t : Int} {p : Sv} {l : List C7} (h : y.right = true) (hb : withinB b 1048576 = true) (hv : fullB t l = true) (h0 : b ≠ 0) : En.right ⟨{ (resE y.e t).1 with pr := b, ab := b, xt := t, xp := p }, y.f, l, y.v⟩ = true := by
  obtain ⟨r1, r2, r3, r4, r5, r6, r7⟩ := right_iff.1 h
  have h2 := (full_parts hv).1
  rw [res_eq h2]
  refine right_iff.2 ⟨r1, hb, times_res r3 h2, r4, hb, ?_, r7⟩
  rw [decide_eq_false h0]
  exact must_full hv
theorem right_fin {y : En} {t : Int} {p : Sv} {l : List C7} (h : y.right = true) (hv : fullB t l = true) : En.right ⟨{ y.e with dn := true, vt := t, vp := p }, y.f, y.a, l⟩ = true := by
  obtain ⟨r1, r2, r3, r4, r5, r6, r7⟩ := right_iff.1 h
  exact right_iff.2 ⟨r1, r2, r3, r4, r5, r6, must_full hv⟩
theorem ft_none {y : En} (h : y.right = true) (h0 : y.e.ft = 0) : y.f = [] := by
  obtain ⟨r1, r2, r3, r4, r5, r6, r7⟩ := right_iff.1 h
  rw [h0] at r4
  unfold mustB noneB at r4
  simp at r4
  exact r4
def lowV (B : Bd) (v : Value) (cs : List C7) : Prop := ∀ ad n c, v = .slice (some ad) n c → 0 < cs.length → B.P ad.block
def SetF (B : Bd) (w : World) (v : Value) (cs : List C7) : Prop := Sl w v cs ∧ ∀ ad n c, v = .slice (some ad) n c → 0 < cs.length → B.P ad.block ∨ ∃ cur fz, w.heap[ad.block]? = some (.cells cur 45 fz)
theorem SetF.ofLow {B : Bd} {w : World} {v : Value} {cs : List C7} (h : Sl w v cs) (hl : lowV B v cs) : SetF B w v cs := ⟨h, fun ad n c e h0 => .inl (hl ad n c e h0)⟩
theorem SlT.setF {B : Bd} {B' : Nat} {w : World} {v : Value} {cs : List C7} (h : SlT B' w v cs) : SetF B w v cs := ⟨h.1, fun ad n c e h0 => .inr (h.2 ad n c e h0).2⟩
theorem nilF (B : Bd) (w : World) : SetF B w nS.v [] := ⟨nilS w, fun ad n c e h0 => absurd h0 (by simp)⟩
theorem Sl.empty {w w' : World} {v : Value} (h : Sl w v []) : Sl w' v [] := by
  obtain ⟨b, o, cap, a, rfl, h1, h2, h3, h4⟩ := h
  exact ⟨b, o, cap, a, rfl, h1, h2, fun j c hc => by simp at hc, fun h => absurd h (by simp)⟩
theorem SetF.tch {B : Bd} {S : Nat → Prop} {w w' : World} {v : Value} {cs : List C7} (h : SetF B w v cs) (ht : Tch S w w') (hS : ∀ k, S k → (∀ i, 6 ≤ i → w.cell? ⟨k, i, none⟩ = none) ∨ (¬ B.P k ∧ ∀ cur fz, w.heap[k]? ≠ some (.cells cur 45 fz))) : SetF B w' v cs := by
  by_cases h0 : cs = []
  · subst h0
    exact ⟨h.1.empty, fun ad n c e h0 => absurd h0 (by simp)⟩
  · have hpos : 0 < cs.length := List.length_pos_iff.2 h0
    obtain ⟨b, o, cap, a, rfl, hn, ha, hc, hb⟩ := h.1
    obtain rfl := ha hpos
    have h2 := h.2 _ _ _ rfl hpos
    have hns : ¬ S b := fun hs => by
      rcases hS b hs with h3 | ⟨h3, h4⟩
      · obtain ⟨x, xs, rfl⟩ := List.exists_cons_of_ne_nil h0
        have := hc 0 x rfl 6 (.int .i64 x.q) rfl
        rw [h3 _ (by omega)] at this
        cases this
      · rcases h2 with h2 | ⟨cur, fz, h2⟩
        · exact h3 h2
        · exact h4 cur fz h2
    refine ⟨⟨b, o, cap, _, rfl, hn, ha, fun j x hx i u hu => ?_, fun h => Nat.lt_of_lt_of_le (hb h) ht.size⟩, fun ad n c e h0' => ?_⟩
    · have := hc j x hx i u hu
      rw [World.cell?] at this ⊢
      rw [ht.block b (hb hpos) hns]; exact this
    · injection e with e1 e2 e3
      cases e1
      rcases h2 with h2 | ⟨cur, fz, h2⟩
      · exact .inl h2
      · exact .inr ⟨cur, fz, ht.ob h2 hns⟩
theorem SetF.on {B : Bd} {w w' : World} {v : Value} {cs : List C7} (h : SetF B w v cs) (hb : Below w.heap.size w w') : SetF B w' v cs := h.tch (Tch.ofBelow (S := fun _ => False) hb) fun _ h => h.elim
def En.low (B : Bd) (y : En) : Prop := lowV B y.e.fp.v y.f ∧ lowV B y.e.xp.v y.a ∧ lowV B y.e.vp.v y.v
def Ms.low (B : Bd) (m : Ms) : Prop := lowV B m.m.vp.v m.v ∧ lowV B m.m.xp.v m.a ∧ lowV B m.m.fp.v m.f
def Ms.atF (B : Bd) (w : World) (x : Ms) : Prop := SetF B w x.m.vp.v x.v ∧ SetF B w x.m.xp.v x.a ∧ SetF B w x.m.fp.v x.f
theorem Ms.atF.tch {B : Bd} {S : Nat → Prop} {w w' : World} {x : Ms} (h : x.atF B w) (ht : Tch S w w') (hS : ∀ k, S k → (∀ i, 6 ≤ i → w.cell? ⟨k, i, none⟩ = none) ∨ (¬ B.P k ∧ ∀ cur fz, w.heap[k]? ≠ some (.cells cur 45 fz))) : x.atF B w' := ⟨h.1.tch ht hS, h.2.1.tch ht hS, h.2.2.tch ht hS⟩
theorem Ms.atF.on {B : Bd} {w w' : World} {x : Ms} (h : x.atF B w) (hb : Below w.heap.size w w') : x.atF B w' := ⟨h.1.on hb, h.2.1.on hb, h.2.2.on hb⟩
theorem lowNil (B : Bd) (v : Value) : lowV B v [] := fun ad n c e h => absurd h (by simp)
theorem vot_low {B : Bd} {y : En} {m : Ms} (hy : y.low B) (hm : m.low B) : (votY y m).low B := ⟨hm.1, by unfold votY resE; split <;> exact hy.2.1, by unfold votY resE; split <;> exact hy.2.2⟩
theorem res_low {B : Bd} {y : En} {t : Int} (hy : y.low B) : (resY y t).low B := by
  unfold resY resE En.low
  by_cases h : validB t = false
  · rw [if_pos h]; exact hy
  · rw [if_neg h]; exact hy
structure Vo (w : World) (B : Bd) (q x b b2 N : Nat) (nd : Int) (s : Sd) (wv : Value) (ws : List Ms) : Prop where
  ix : ∃ n ids, n ≤ N ∧ Vx w B q x b b2 n nd s.c s.xs ids wv ws s.ov
  len : s.xs.length ≤ N
  all : AllAt w s.xs
  sh : ∀ y ∈ s.xs, y.short 1024
  cb : 0 ≤ s.c ∧ s.c ≤ 65535
  wa : ∀ m ∈ ws, m.at w
  lo : ∀ y ∈ s.xs, y.low B
  wl : ∀ m ∈ ws, m.low B
section
variable {w w' : World} {B : Bd} {q x b b2 N : Nat} {nd : Int} {s : Sd} {wv : Value} {ws : List Ms}
theorem Vo.on (h : Vo w B q x b b2 N nd s wv ws) (hb : Below w.heap.size w w') : Vo w' B q x b b2 N nd s wv ws := by
  obtain ⟨n, ids, hn, hv⟩ := h.ix
  exact ⟨⟨n, ids, hn, hv.on hb⟩, h.len, h.all.on hb, h.sh, h.cb, fun m hm => (h.wa m hm).on hb, h.lo, h.wl⟩
theorem Vo.nocell (h : Vo w B q x b b2 N nd s wv ws) : ∀ k, TV q x b b2 k → ∀ i, 6 ≤ i → w.cell? ⟨k, i, none⟩ = none := by
  obtain ⟨n, ids, hn, hv⟩ := h.ix
  exact hv.nocell
theorem Vo.en (h : Vo w B q x b b2 N nd s wv ws) (ht : Tch (TV q x b b2) w w') {y : En} (hy : y.at w) : y.at w' := ⟨hy.1.tch ht h.nocell, hy.2.1.tch ht h.nocell, hy.2.2.tch ht h.nocell⟩
theorem Vo.ms (h : Vo w B q x b b2 N nd s wv ws) (ht : Tch (TV q x b b2) w w') {m : Ms} (hm : m.at w) : m.at w' := hm.tch ht h.nocell
theorem Vo.sl (h : Vo w B q x b b2 N nd s wv ws) (ht : Tch (TV q x b b2) w w') {v : Value} {cs : List C7} (hm : Sl w v cs) : Sl w' v cs := hm.tch ht h.nocell
theorem Vo.mono {N' : Nat} (h : Vo w B q x b b2 N nd s wv ws) (hN : N ≤ N') : Vo w B q x b b2 N' nd s wv ws := by
  obtain ⟨n, ids, hn, hv⟩ := h.ix
  exact ⟨⟨n, ids, Nat.le_trans hn hN, hv⟩, Nat.le_trans h.len hN, h.all, h.sh, h.cb, h.wa, h.lo, h.wl⟩
theorem Vo.step {n' : Nat} {c' : Int} {ov' : Bool} {ids' : List Int} (h : Vo w B q x b b2 N nd s wv ws) (ht : Tch (TV q x b b2) w w') (hv : Vx w' B q x b b2 n' nd c' s.xs ids' wv ws ov') (hn : n' ≤ N) (hc : 0 ≤ c' ∧ c' ≤ 65535) : Vo w' B q x b b2 N nd ⟨s.xs, c', ov'⟩ wv ws :=
  ⟨⟨n', ids', hn, hv⟩, h.len, fun y hy => h.en ht (h.all y hy), h.sh, hc, fun m hm => h.ms ht (h.wa m hm), h.lo, h.wl⟩
theorem Vo.put {n' : Nat} {c' : Int} {ids' : List Int} {y : En} (h : Vo w B q x b b2 N nd s wv ws) (ht : Tch (TV q x b b2) w w') (hv : Vx w' B q x b b2 n' nd c' (s.xs ++ [y]) ids' wv ws s.ov) (hn : n' ≤ N + 1) (hc : 0 ≤ c' ∧ c' ≤ 65535) (hy : y.at w) (hs : y.short 1024) (hlow : y.low B) : Vo w' B q x b b2 (N + 1) nd ⟨s.xs ++ [y], c', s.ov⟩ wv ws :=
  ⟨⟨n', ids', hn, hv⟩, by simp; exact h.len, fun z hz => by
    rcases List.mem_append.1 hz with hz | hz
    · exact h.en ht (h.all z hz)
    · rw [List.mem_singleton] at hz; subst hz; exact h.en ht hy, fun z hz => by
    rcases List.mem_append.1 hz with hz | hz
    · exact h.sh z hz
    · rw [List.mem_singleton] at hz; subst hz; exact hs, hc, fun m hm => h.ms ht (h.wa m hm), fun z hz => by
    rcases List.mem_append.1 hz with hz | hz
    · exact h.lo z hz
    · rw [List.mem_singleton] at hz; subst hz; exact hlow, h.wl⟩
end
def MsgT (w : World) (v : Value) : Prop := ∀ k, v.ownBlock = some k → ∃ cur fz, w.heap[k]? = some (.cells cur 50 fz)
def OutD (w : World) (B : Bd) (q x b b2 N : Nat) (nd : Int) (wv : Value) (ws : List Ms) (r : Sd × List An) (e : Ending) (w' : World) : Prop :=
  ∃ v ls, e = .returned v ∧ SlM w' v (mgs ls) ∧ ((v = .slice none 0 0 ∧ ls = []) ∨ ∃ g cap, v = .slice (some g) ls.length cap) ∧ (∀ a ∈ ls, a.atF B w') ∧ ls.map Ms.an = r.2 ∧ Vo w' B q x b b2 N nd r.1 wv ws ∧ Tch (TV q x b b2) w w' ∧ MsgT w' v
theorem OutD.none {w w' : World} {B : Bd} {q x b b2 N : Nat} {nd : Int} {wv : Value} {ws : List Ms} {s : Sd} {v : Value} (hv : v = .slice Option.none 0 0) (h : Vo w' B q x b b2 N nd s wv ws) (ht : Tch (TV q x b b2) w w') : OutD w B q x b b2 N nd wv ws (s, []) (.returned v) w' :=
  ⟨v, [], rfl, by subst hv; exact SlG.nil _ _ _, .inl ⟨hv, rfl⟩, by simp, rfl, h, ht, fun k e => by subst hv; cases e⟩
theorem OutD.one {w w' : World} {B : Bd} {q x b b2 N : Nat} {nd : Int} {wv : Value} {ws : List Ms} {s : Sd} {v : Value} {a : Ms} {g : Addr} {cap : Nat} (hs : SlM w' v [a.m]) (hv : v = .slice (some g) 1 cap) (hM : ∃ cur fz, w'.heap[g.block]? = some (.cells cur 50 fz)) (ha : a.atF B w') {A : An} (hA : a.an = A) (h : Vo w' B q x b b2 N nd s wv ws) (ht : Tch (TV q x b b2) w w') : OutD w B q x b b2 N nd wv ws (s, [A]) (.returned v) w' :=
  ⟨v, [a], rfl, hs, .inr ⟨g, cap, hv⟩, by simpa using ha, by simp [hA], h, ht, fun k e => by subst hv; obtain rfl : g.block = k := Option.some.inj e; exact hM⟩
theorem OutD.from {w w1 w' : World} {B : Bd} {q x b b2 N : Nat} {nd : Int} {wv : Value} {ws : List Ms} {r : Sd × List An} {e : Ending} (h : OutD w1 B q x b b2 N nd wv ws r e w') (ht : Tch (TV q x b b2) w w1) : OutD w B q x b b2 N nd wv ws r e w' := by
  obtain ⟨v, ls, h1, h2, h3, h4, h5, h6, h7⟩ := h
  exact ⟨v, ls, h1, h2, h3, h4, h5, h6, ht.trans h7.1, h7.2⟩
end Go.Proofs.YtlehcaacfgocaaaGreat
namespace Go.Proofs.YtlehcaacfgocaaaGreat
set_option linter.unusedVariables false
set_option linter.unusedSimpArgs false
open Go.RowKit
open Go.Lib (hid)
theorem OwnM.nilOr {w : World} {B : Nat} {v : Value} {L : List Mg} (h : OwnM w B v L) (h0 : L = []) : v = .slice none 0 0 ∨ ∃ ad c, v = .slice (some ad) 0 c := by
  subst h0
  rcases h.2 with ⟨rfl, _⟩ | ⟨g, cap, cur, rfl, _⟩
  · exact .inl rfl
  · exact .inr ⟨_, _, rfl⟩
def Fr (n : Nat) (v v' : Value) : Prop := ∀ k, v'.ownBlock = some k → v.ownBlock = some k ∨ n ≤ k
theorem OwnM.made (w : World) {B : Nat} (hB : B ≤ w.heap.size) : OwnM (w.alloc (.cells #[] 50)) B (.slice (some ⟨w.heap.size, 0, none⟩) 0 0) [] := World.ownsRow_made w #[] 0 hB (by unfold maxLen; omega) rfl
theorem wpList_append_ms {w : World} {ops : Array Oper} {rest : List Oper} {o : Oper} {a : Act} {Q : Exit → Act → World → Prop} (hgd : o.guard = none) (s x : Operand) (ho : o.op = .call { callee := .builtin .append, args := #[s, x], argTypes := #[24, 24] })
    (B : Nat) (v : Value) (ps : List Mg) (hs : a.eval s = v) (hown : OwnG Mg.list 20 50 w B v ps) (v2 : Value) (qs : List Mg) (hx : a.eval x = v2) (h2 : SlG Mg.list 20 w v2 qs) (hn2 : qs = [] → v2 = .slice none 0 0 ∨ ∃ ad c, v2 = .slice (some ad) 0 c) (hlen : ps.length + qs.length ≤ 1000000) (hbase : B ≤ w.heap.size)
    (h : ∀ v' w', OwnG Mg.list 20 50 w' B v' (ps ++ qs) → w.grownBy w' v.ownBlock → wpList Tryz.prog ops Q rest (a.put o.dst v') w') : wpList Tryz.prog ops Q (o :: rest) a w := by
  obtain ⟨i0, hi, hz0, hz1, hz2⟩ := info_parts Tryz.infoMz
  obtain ⟨b, off, cap, a2, e, ha, hc, hl⟩ := h2
  have hcase : (v2 = .slice none 0 0 ∧ qs = []) ∨ ∃ ad, v2 = .slice (some ad) qs.length cap ∧ (0 < qs.length → ad = ⟨b, off, none⟩) := by
    rcases Nat.eq_zero_or_pos qs.length with h0 | h0
    · have hq : qs = [] := List.length_eq_zero_iff.1 h0
      rcases hn2 hq with h1 | ⟨ad, c, h1⟩
      · exact .inl ⟨h1, hq⟩
      · rw [e] at h1
        injection h1 with e1 e2 e3
        exact .inr ⟨ad, by rw [e, e1], fun h3 => by omega⟩
    · exact .inr ⟨⟨b, off, none⟩, by rw [e, ha h0], fun _ => rfl⟩
  rcases hcase with ⟨rfl, rfl⟩ | ⟨ad, rfl, had⟩
  · refine wpList_append_own_none hgd s x 24 ho B 50 i0 20 Tryz.underlying24 hi v ps.length (flatG Mg.list ps) hs hown hx ?_
    exact h v w (by rw [List.append_nil]; exact hown) (grownRefl _ _)
  · refine wpList_append_own _ hgd s x 24 ho B 50 i0 _ 20 208 Tryz.underlying24 hi hz0 hz1 hz2 rfl (by decide) v ps.length (flatG Mg.list ps) hs hown ad qs.length cap (flatG Mg.list qs) hx (flatG_len kM qs) (fun j u hu => ?_) (flatG_all Mg.one' qs) (by unfold maxLen; omega) (by omega) hbase ?_
    · have hj := (List.getElem?_eq_some_iff.1 hu).1
      rw [flatG_len kM] at hj
      have h0 : 0 < qs.length := by rcases Nat.eq_zero_or_pos qs.length with h0 | h0; rw [h0] at hj; omega; exact h0
      rw [had h0, addr_add']
      have hlt : j / 20 < qs.length := Nat.div_lt_of_lt_mul (by rw [Nat.mul_comm]; exact hj)
      have hat := hc (j / 20) qs[j / 20] (List.getElem?_eq_getElem hlt)
      have hfl : ∀ u', (Mg.list qs[j / 20])[j % 20]? = some u' → (flatG Mg.list qs)[j / 20 * 20 + j % 20]? = some u' := fun u' h' => flatG_at kM qs _ _ (List.getElem?_eq_getElem hlt) _ _ h'
      have hm : j % 20 < (Mg.list qs[j / 20]).length := by rw [kM]; exact Nat.mod_lt _ (by decide)
      have h1 := hfl _ (List.getElem?_eq_getElem hm)
      rw [show j / 20 * 20 + j % 20 = j by omega, hu] at h1
      have h2 := hat (j % 20) _ (List.getElem?_eq_getElem hm)
      rw [← Option.some.inj h1] at h2
      rw [show off + j / 20 * 20 + j % 20 = off + j by omega] at h2
      exact h2
    · intro v' w' ho' hg _
      refine h v' w' ?_ hg
      show World.ownsRow _ _ _ _ _ _ _
      rw [flatG_append, List.length_append]; exact ho'
theorem wpList_copy_ms {w0 w : World} {ops : Array Oper} {rest : List Oper} {o : Oper} {a : Act} {Q : Exit → Act → World → Prop} (hgd : o.guard = none) (s x : Operand) (ho : o.op = .call { callee := .builtin .append, args := #[s, x], argTypes := #[24, 24] })
    {B : Nat} {v : Value} {L : List Mg} (hw : w = w0.alloc (.cells #[] 50)) {N : Nat} (hs : a.eval s = .slice (some ⟨N, 0, none⟩) 0 0) (hN : N = w0.heap.size) (hx : a.eval x = v) (hv : OwnM w0 B v L) (hl : L.length ≤ 1000)
    (h : ∀ v' w', OwnM w' w0.heap.size v' L → Below w0.heap.size w0 w' → wpList Tryz.prog ops Q rest (a.put o.dst v') w') : wpList Tryz.prog ops Q (o :: rest) a w := by
  subst hw hN
  have hb : Below w0.heap.size w0 (w0.alloc (.cells #[] 50)) := (Below.refl _ w0).alloc (Nat.le_refl _) _
  have hv2 := hv.on hb
  have hm := OwnM.made w0 (B := w0.heap.size) (Nat.le_refl _)
  refine wpList_append_ms hgd s x ho w0.heap.size _ [] hs hm v L hx (OwnG.slG kM hv2) (OwnM.nilOr hv2) (by simp; omega) (by simp) fun v' w' h1 h2 => h v' w' (by simpa using h1) ?_
  exact hb.grown h2 (by simp) fun k hk => (hm.lt k hk).1
theorem step_append_ms {ops : Array Oper} {o : Oper} {a : Act} {w : World} {K : Act → World → Prop} {Q : Exit → Act → World → Prop} {E : Prop} (hgd : o.guard = none) (s x : Operand) (ho : o.op = .call { callee := .builtin .append, args := #[s, x], argTypes := #[24, 24] })
    (B : Nat) (v : Value) (ps : List Mg) (hs : a.eval s = v) (hown : OwnG Mg.list 20 50 w B v ps) (ad : Addr) (m c : Nat) (y : Mg) (hx : a.eval x = .slice (some ad) m c) (h2 : SlG Mg.list 20 w (.slice (some ad) m c) [y]) (hlen : ps.length ≤ 100000) (hbase : B ≤ w.heap.size)
    (h : ∀ v' w', OwnG Mg.list 20 50 w' B v' (ps ++ [y]) → w.grownBy w' v.ownBlock → Fr w.heap.size v v' → K (a.put o.dst v') w') : if Region.wanted o (yielded ops a.tmps) = true then Oper.wp Tryz.prog o a w K Q else E := by
  have hw : Region.wanted o (yielded ops a.tmps) = true := by simp [Region.wanted, hgd]
  rw [if_pos hw]
  obtain ⟨i0, hi, hz0, hz1, hz2⟩ := info_parts Tryz.infoMz
  obtain ⟨b, off, cap, a2, e, ha, hc, hl⟩ := h2
  injection e with e1 e2 e3
  subst e1 e2 e3
  obtain ⟨v', w', hr, ho', hg, _, hat⟩ := run_append_own_at (P := Tryz.prog) w B 24 o.type 50 i0 _ 20 208 Tryz.underlying24 hi hz0 hz1 hz2 rfl (by decide) v ps.length (flatG Mg.list ps) hown ad [y].length c (flatG Mg.list [y]) (flatG_len kM [y]) (fun j u hu => by
    obtain rfl := Option.some.inj (ha (by simp))
    rw [addr_add']
    rw [flatG_one] at hu
    have := hc 0 y rfl j u hu
    rw [show off + 0 * 20 + j = off + j by omega] at this
    exact this) (flatG_all Mg.one' [y]) (by unfold maxLen; simp; omega) (by simp; omega) hbase
  unfold Oper.wp execOp
  simp only [ho, resolve, invoke, builtin, Sem.run_bind, Sem.run_pure, Result.andThen_ok, List.map_toArray, List.map_cons, List.map_nil, hs, hx, hr]
  refine h v' w' ?_ hg fun k hk => ?_
  · show World.ownsRow _ _ _ _ _ _ _
    rw [List.length_append, flatG_append]; exact ho'
  · rcases hat with e | e
    · exact .inl (e ▸ hk)
    · rw [e] at hk; cases hk; exact .inr (Nat.le_refl _)
theorem wpList_append_ms1 {w : World} {ops : Array Oper} {rest : List Oper} {o : Oper} {a : Act} {Q : Exit → Act → World → Prop} (hgd : o.guard = none) (s x : Operand) (ho : o.op = .call { callee := .builtin .append, args := #[s, x], argTypes := #[24, 24] })
    (B : Nat) (v : Value) (ps : List Mg) (hs : a.eval s = v) (hown : OwnM w B v ps) (ad : Addr) (m c : Nat) (y : Mg) (hx : a.eval x = .slice (some ad) m c) (h2 : SlG Mg.list 20 w (.slice (some ad) m c) [y]) (hlen : ps.length ≤ 100000) (hbase : B ≤ w.heap.size)
    (h : ∀ v' w', OwnM w' B v' (ps ++ [y]) → w.grownBy w' v.ownBlock → Fr w.heap.size v v' → wpList Tryz.prog ops Q rest (a.put o.dst v') w') : wpList Tryz.prog ops Q (o :: rest) a w := by
  obtain ⟨i0, hi, hz0, hz1, hz2⟩ := info_parts Tryz.infoMz
  obtain ⟨b, off, cap, a2, e, ha, hc, hl⟩ := h2
  injection e with e1 e2 e3
  subst e1 e2 e3
  refine wpList_append_own_at _ hgd s x 24 ho B 50 i0 _ 20 208 Tryz.underlying24 hi hz0 hz1 hz2 rfl (by decide) v ps.length (flatG Mg.list ps) hs hown ad [y].length c (flatG Mg.list [y]) hx (flatG_len kM [y]) (fun j u hu => ?_) (flatG_all Mg.one' [y]) (by unfold maxLen; simp; omega) (by simp; omega) hbase ?_
  · obtain rfl := Option.some.inj (ha (by simp))
    rw [addr_add']
    rw [flatG_one] at hu
    have := hc 0 y rfl j u hu
    rw [show off + 0 * 20 + j = off + j by omega] at this
    exact this
  · intro v' w' ho' hg _ hat
    refine h v' w' ?_ hg fun k hk => ?_
    · show World.ownsRow _ _ _ _ _ _ _
      rw [List.length_append, flatG_append]; exact ho'
    · rcases hat with e | e
      · exact .inl (e ▸ hk)
      · rw [e] at hk; cases hk; exact .inr (Nat.le_refl _)
end Go.Proofs.YtlehcaacfgocaaaGreat

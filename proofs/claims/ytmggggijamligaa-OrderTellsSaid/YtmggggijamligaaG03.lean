import Derived.Test.YtmggggijamligaaG02
import Derived.Test.YtmggggijamligaaG00
import Derived.Deep.QuietTactic
import Derived.BigQuiet
namespace Go.Proofs.Ytmggggijamligaa
set_option linter.unusedVariables false
open Go.RowKit
open Go.Lib (hid)
abbrev evs (xs : List En) : List Ev := xs.map En.e
theorem at_evs {xs : List En} {k : Nat} {x : En} (h : xs[k]? = some x) : (evs xs)[k]? = some x.e := by rw [List.getElem?_map, h]; rfl
theorem fits_short {w : World} {y : En} (h : y.at w) (hf : fitsE y.e = true) : y.short 80 := by
  unfold fitsE at hf
  simp only [Bool.and_eq_true, decide_eq_true_eq] at hf
  have e1 : y.e.fp.n = y.f.length := by obtain ⟨_, _, cap, a, hv, _⟩ := h.1; injection hv
  have e2 : y.e.xp.n = y.a.length := by obtain ⟨_, _, cap, a, hv, _⟩ := h.2.1; injection hv
  have e3 : y.e.vp.n = y.v.length := by obtain ⟨_, _, cap, a, hv, _⟩ := h.2.2; injection hv
  exact ⟨by omega, by omega, by omega⟩
set_option maxHeartbeats 4000000 in
set_option maxRecDepth 100000 in
theorem cFitsL {v : Value} {l : List En} {w : World} (h : SlE w v (evs l)) (hA : AllAt w l) (hl : l.length ≤ 9223372036854775807) : Calls Try.prog 5 #[v] w fun e w' => (e = .returned (.bool false) ∨ (e = .returned (.bool true) ∧ l.length ≤ 40 ∧ ∀ y ∈ l, y.short 80)) ∧ Below w.heap.size w w' := by
  obtain ⟨b, o, cap, a, rfl, ha, hc, hb⟩ := h
  rw [List.length_map] at ha hb ⊢
  have HA := hid hA
  have HCC := hid hc
  obtain ⟨m, hm⟩ : ∃ m, m = l.length := ⟨_, rfl⟩
  rw [← hm] at ha hb hl ⊢
  have HN := hid hm
  clear hm hA hc
  go_enter Try.func5, Try.ntmps5
  go_wp2_with fail
  go_loopw [3] (fun i wr => ∃ (k : Nat), k ≤ m ∧ k ≤ 41 ∧ i = .int .i64 k ∧ Hid (∀ y ∈ l.take k, fitsE y.e = true) ∧ Below w.heap.size w wr) (fun i _ => m - (RowKit.intOf i).toNat)
  case atStart => exact ⟨0, Nat.zero_le _, by omega, rfl, hid (by simp), Below.refl _ _⟩
  case round =>
    obtain ⟨k, hk, hk41, rfl, HALL, hB⟩ := hrel
    have HB := hid hB
    clear hB
    by_cases hlt : k < m
    · by_cases h40 : k ≤ 40
      · obtain rfl := ha (by omega)
        obtain ⟨y, hy⟩ : ∃ y, l[k]? = some y := ⟨l[k]'(by rw [← HN.out]; exact hlt), List.getElem?_eq_getElem (by rw [← HN.out]; exact hlt)⟩
        have hbw := hb (by omega)
        have HC : Hid (wr.rangeAt b (o + k * 19) y.e.list) := hid ((HCC.out.on HB.out fun _ => hbw) k y.e (at_evs hy))
        have HE := hid hy
        have hF := cFits y.e wr
        obtain ⟨rt, hrt⟩ : ∃ rt, rt = fitsE y.e := ⟨_, rfl⟩
        rw [← hrt] at hF
        have HRT := hid hrt
        clear hy hrt
        rcases rt with _ | _
        · go_wp2_with (first
            | ((with_reducible refine loadEl (T := 55) (x := ?lx1) (b := ?lb1) (o := ?lo1) uE iE y.e ?lg1 ?lp1 ?lxx1 ?lc1 ?_); (case lg1 => rfl); (case lp1 => rfl); (case lxx1 => rfl); (case lc1 => exact HC.out))
            | (go_at_call 18; refine hF.mono ?_; rintro q w1 ⟨rfl, hB1⟩; have HB1 := hid (HB.out.trans (hB1.mono HB.out.size)); clear hB1)
            | fail)
          go_ret
          exact ⟨.inl rfl, HB1.out⟩
        · go_wp2_with (first
            | ((with_reducible refine loadEl (T := 55) (x := ?lx1) (b := ?lb1) (o := ?lo1) uE iE y.e ?lg1 ?lp1 ?lxx1 ?lc1 ?_); (case lg1 => rfl); (case lp1 => rfl); (case lxx1 => rfl); (case lc1 => exact HC.out))
            | (go_at_call 18; refine hF.mono ?_; rintro q w1 ⟨rfl, hB1⟩; have HB1 := hid (HB.out.trans (hB1.mono HB.out.size)); clear hB1)
            | fail)
          go_roundw
          case rel => exact ⟨k + 1, by omega, by omega, by go_num, hid (fun z hz => by rw [List.take_add_one, HE.out] at hz; rcases List.mem_append.1 hz with hz | hz; exact HALL.out z hz; simp at hz; subst hz; exact HRT.out.symm), HB1.out⟩
          case measure => simp [RowKit.intOf]; omega
      · have hm40 : ¬ m ≤ 40 := by omega
        go_wp2_with fail
        go_ret
        exact ⟨.inl (ret_bool (decide_eq_false (by omega))), HB.out⟩
    · have hkk : k = m := by omega
      subst hkk
      by_cases hm40 : k ≤ 40
      · have HF : Hid (∀ y ∈ l, y.short 80) := hid (fun y hy => fits_short (HA.out y hy) (by have := HALL.out; rw [HN.out, List.take_length] at this; exact this y hy))
        have HM := hid hm40
        go_wp2_with fail
        go_ret
        exact ⟨.inr ⟨ret_bool (decide_eq_true (by have := HM.out; omega)), HM.out, HF.out⟩, HB.out⟩
      · go_wp2_with fail
        go_ret
        exact ⟨.inl (ret_bool (decide_eq_false (by omega))), HB.out⟩
end Go.Proofs.Ytmggggijamligaa
namespace Go.Proofs.Ytmggggijamligaa
set_option linter.unusedVariables false
open Go.RowKit
open Go.Lib (hid)
def nums (l : List Int) : List Value := l.map (Value.int .i64)
abbrev OwnI (w : World) (B : Nat) (v : Value) (l : List Int) : Prop := w.ownsRow B 3 1 v l.length (nums l)
theorem OwnI.nil (w : World) (B : Nat) : OwnI w B (.slice none 0 0) [] := World.ownsRow_nil _ _ _ _
theorem OwnI.grows {w W0 w1 : World} {B : Nat} {v v' : Value} {l : List Int} {x : Int} (hB : Below B w W0) (hsz : B ≤ W0.heap.size) (hlt : ∀ k, v.ownBlock = some k → B ≤ k)
    (hown' : w1.ownsRow B 3 1 v' (l.length + 1) (nums l ++ [.int .i64 x])) (hg : W0.grownBy w1 v.ownBlock) : OwnI w1 B v' (l ++ [x]) ∧ Below B w w1 :=
  ⟨by unfold OwnI nums; rw [List.map_append, List.length_append]; exact hown', hB.grown hg hsz hlt⟩
theorem ids_next {cs : List C7} {k : Nat} {c : C7} (hc : cs[k]? = some c) : idsL (cs.take (k + 1)) = idsL (cs.take k) ++ [c.i] := by
  unfold idsL; rw [take_snoc hc, List.map_append]; rfl
theorem ids_len (cs : List C7) (k : Nat) : (idsL (cs.take k)).length ≤ k := by unfold idsL; simp; omega
def SlI (w : World) (v : Value) (l : List Int) : Prop :=
  ∃ (b o cap : Nat) (a : Option Addr), v = .slice a l.length cap ∧ (0 < l.length → a = some ⟨b, o, none⟩) ∧ (∀ (j : Nat) x, l[j]? = some x → w.cell? ⟨b, o + j, none⟩ = some (.int .i64 x)) ∧ (0 < l.length → b < w.heap.size)
theorem OwnI.sl {w : World} {B : Nat} {v : Value} {l : List Int} (h : OwnI w B v l) : SlI w v l := by
  have hl := h.lt
  have hcl := fun g (hg : v.ownBlock = some g) => h.cells hg
  rcases h.2 with ⟨rfl, h0⟩ | ⟨g, cap, cur, rfl, hb, hg, hn, hm, hs, ht⟩
  · obtain rfl := List.length_eq_zero_iff.1 h0
    exact ⟨0, 0, 0, none, rfl, fun h => absurd h (by simp), fun j x hx => by simp at hx, fun h => absurd h (by simp)⟩
  · refine ⟨g, 0, cap, _, rfl, fun _ => rfl, fun j x hx => ?_, fun _ => (hl g rfl).2⟩
    have := hcl g rfl j (.int .i64 x) (by simp [nums, hx])
    rw [show (⟨g, 0, none⟩ : Addr).add j = ⟨g, 0 + j, none⟩ from by unfold Addr.add; split <;> simp_all] at this
    exact this
theorem SlI.on {w w' : World} {v : Value} {l : List Int} (h : SlI w v l) (hb : Below w.heap.size w w') : SlI w' v l := by
  obtain ⟨b, o, cap, a, rfl, ha, hc, hl⟩ := h
  refine ⟨b, o, cap, a, rfl, ha, fun j x hx => ?_, fun h0 => by have := hl h0; have := hb.size; omega⟩
  have h0 : 0 < l.length := by have := (List.getElem?_eq_some_iff.1 hx).1; omega
  rw [hb.cell (p := ⟨b, o + j, none⟩) (hl h0)]
  exact hc j x hx
set_option maxHeartbeats 600000 in
set_option maxRecDepth 100000 in
theorem rSameIds {v v' : Value} {l : List Int} {w : World} (h : SlI w v l) (h' : SlI w v' l) (hl : l.length ≤ 100000) : Calls Try.prog 13 #[v, v'] w fun e w' => e = .returned (.bool true) ∧ Below w.heap.size w w' := by
  obtain ⟨b, o, cap, a, rfl, ha, hc, hb⟩ := h
  obtain ⟨b', o', cap', a', rfl, ha', hc', hb'⟩ := h'
  go_enter Try.func13, Try.ntmps13
  go_wp2
  go_loopw [5] (fun i wr => ∃ k : Nat, k ≤ l.length ∧ i = .int .i64 k ∧ Below w.heap.size w wr) (fun i _ => l.length - (intOf i).toNat)
  case atStart => exact ⟨0, Nat.zero_le _, rfl, Below.refl _ _⟩
  case round =>
    obtain ⟨k, hk, rfl, hB⟩ := hrel
    by_cases hlt : k < l.length
    · obtain rfl := ha (by omega)
      obtain rfl := ha' (by omega)
      obtain ⟨x, hx⟩ : ∃ x, l[k]? = some x := ⟨l[k], List.getElem?_eq_getElem hlt⟩
      have hbw := hb (by omega)
      have hbw' := hb' (by omega)
      have c0 := (hB.cell (p := ⟨b, o + k, none⟩) hbw).trans (hc k x hx)
      have d0 := (hB.cell (p := ⟨b', o' + k, none⟩) hbw').trans (hc' k x hx)
      clear hx
      have HB := hid hB
      clear hB
      go_wp2
      go_quiet (fail)
      go_wp2
      go_roundw
      case rel => exact ⟨k + 1, by omega, by go_num, Below.drewN' HB.out _⟩
      case measure => simp [intOf]; omega
    · go_wp2
      go_ret
      exact ⟨rfl, hB⟩
end Go.Proofs.Ytmggggijamligaa
namespace Go.Proofs.Ytmggggijamligaa
set_option linter.unusedVariables false
open Go.RowKit
open Go.Lib (hid)
def isId (id : Int) (y : En) : Bool := decide (y.id = id)
def findN (l : List En) (id : Int) : Option Nat := l.findIdx? (isId id)
def optI : Option Nat → Int
  | none => -1
  | some j => (j : Int)
def hasI (l : List Int) (id : Int) : Bool := l.contains id
def depB (l : List En) (had : List Int) (t : Int) (c : C7) : Bool :=
  match l.find? (isId c.i) with
  | none => false
  | some y => y.e.dn && (decide (t < y.e.vt) || hasI had c.i)
def waitB (l : List En) (had : List Int) (i : Nat) (x : En) : Bool := x.e.dn && !hasI had x.id && decide (findN l x.id = some i)
def readyB (l : List En) (had : List Int) (i : Nat) (x : En) : Bool := waitB l had i x && x.v.all (depB l had x.e.vt)
def betterB (l : List En) (x : En) (b : Option Nat) : Bool :=
  match b with
  | none => true
  | some j => match l[j]? with
    | none => false
    | some y => decide (x.e.vt < y.e.vt)
def nextUp (l : List En) (had : List Int) : Nat → Option Nat
  | 0 => none
  | k + 1 => match l[k]? with
    | none => nextUp l had k
    | some x => if readyB l had k x && betterB l x (nextUp l had k) then some k else nextUp l had k
def nextN (l : List En) (had : List Int) : Option Nat := nextUp l had l.length
def allG (l : List En) : Nat → List Int → List C7
  | 0, _ => []
  | n + 1, h => match nextN l h with
    | none => []
    | some i => match l[i]? with
      | none => []
      | some x => x.e.c :: allG l n (h ++ [x.id])
def allF (l : List En) (had : List Int) : List C7 := allG l l.length had
def waitsUp (l : List En) (h : List Int) : Nat → List Int
  | 0 => []
  | k + 1 => match l[k]? with
    | none => waitsUp l h k
    | some x => if waitB l h k x then waitsUp l h k ++ [x.id] else waitsUp l h k
def waitsF (l : List En) (had : List Int) : List Int := waitsUp l (had ++ idsL (allF l had)) l.length
theorem findN_lt {l : List En} {id : Int} {j : Nat} (h : findN l id = some j) : j < l.length := by
  unfold findN at h
  exact (List.findIdx?_eq_some_iff_getElem.1 h).1
theorem findN_some {l : List En} {id : Int} {j : Nat} (h : findN l id = some j) : ∃ y, l[j]? = some y ∧ y.id = id ∧ l.find? (isId id) = some y := by
  unfold findN at h
  obtain ⟨h1, h2, h3⟩ := List.findIdx?_eq_some_iff_getElem.1 h
  refine ⟨l[j], List.getElem?_eq_getElem h1, by simpa [isId] using h2, ?_⟩
  rw [List.find?_eq_some_iff_getElem]
  exact ⟨h2, j, h1, rfl, fun k hk => by simpa using h3 k hk⟩
theorem findN_none {l : List En} {id : Int} (h : findN l id = none) : l.find? (isId id) = none := by
  unfold findN at h
  rw [List.findIdx?_eq_none_iff] at h
  rw [List.find?_eq_none]
  exact fun x hx => by rw [h x hx]; decide
theorem findN_no {l : List En} {id : Int} (h : ∀ y ∈ l, isId id y = false) : findN l id = none := by
  unfold findN
  rw [List.findIdx?_eq_none_iff]
  exact h
theorem findN_yes {l : List En} {id : Int} {k : Nat} {y : En} (hy : l[k]? = some y) (h : isId id y = true) (hp : ∀ z ∈ l.take k, isId id z = false) : findN l id = some k := by
  unfold findN
  have hk := (List.getElem?_eq_some_iff.1 hy).1
  rw [List.findIdx?_eq_some_iff_getElem]
  refine ⟨hk, ?_, fun j hj => ?_⟩
  · have := (List.getElem?_eq_some_iff.1 hy).2; rw [this]; exact h
  · have := hp (l[j]'(by omega)) (by rw [List.mem_iff_getElem]; exact ⟨j, by rw [List.length_take]; omega, by rw [List.getElem_take]⟩)
    rw [this]; decide
theorem no_nextE {l : List En} {p : En → Bool} {k : Nat} {y : En} (hy : l[k]? = some y) (h : ∀ z ∈ l.take k, p z = false) (h1 : p y = false) : ∀ z ∈ l.take (k + 1), p z = false := fun z hz => by
  rw [List.take_add_one, hy] at hz
  rcases List.mem_append.1 hz with hz | hz
  · exact h z hz
  · simp at hz; subst hz; exact h1
theorem nextUp_succ {l : List En} {had : List Int} {k : Nat} {x : En} (h : l[k]? = some x) : nextUp l had (k + 1) = if readyB l had k x && betterB l x (nextUp l had k) then some k else nextUp l had k := by
  show (match l[k]? with | none => _ | some x => _) = _
  rw [h]
theorem waitsUp_succ {l : List En} {had : List Int} {k : Nat} {x : En} (h : l[k]? = some x) : waitsUp l had (k + 1) = if waitB l had k x then waitsUp l had k ++ [x.id] else waitsUp l had k := by
  show (match l[k]? with | none => _ | some x => _) = _
  rw [h]
theorem nextUp_lt {l : List En} {had : List Int} : ∀ {k i : Nat}, nextUp l had k = some i → i < k ∧ ∃ x, l[i]? = some x ∧ readyB l had i x = true
  | 0, i, h => by cases h
  | k + 1, i, h => by
    rcases hx : l[k]? with _ | x
    · have h' : nextUp l had k = some i := by
        have : nextUp l had (k + 1) = nextUp l had k := by
          show (match l[k]? with | none => _ | some x => _) = _
          rw [hx]
        rw [← this]; exact h
      obtain ⟨h1, h2⟩ := nextUp_lt h'
      exact ⟨by omega, h2⟩
    · rw [nextUp_succ hx] at h
      split at h
      · rename_i hr
        cases h
        exact ⟨by omega, x, hx, (Bool.and_eq_true _ _ ▸ hr).1⟩
      · obtain ⟨h1, h2⟩ := nextUp_lt h
        exact ⟨by omega, h2⟩
theorem nextN_some {l : List En} {had : List Int} {i : Nat} (h : nextN l had = some i) : i < l.length ∧ ∃ x, l[i]? = some x ∧ readyB l had i x = true := nextUp_lt h
def leftN (l : List En) (h : List Int) : Nat := l.countP fun y => !h.contains y.id
theorem readyB_new {l : List En} {had : List Int} {i : Nat} {x : En} (h : readyB l had i x = true) : hasI had x.id = false := by
  unfold readyB waitB at h
  simp only [Bool.and_eq_true, Bool.not_eq_true'] at h
  exact h.1.1.2
theorem count_lt {α : Type} {p q : α → Bool} : ∀ {l : List α} {i : Nat} {x : α}, l[i]? = some x → (∀ y, q y = true → p y = true) → p x = true → q x = false → l.countP q < l.countP p
  | [], i, x, h, _, _, _ => by simp at h
  | a :: l, 0, x, h, hm, hp, hq => by
    simp at h; subst h
    rw [List.countP_cons_of_neg (by rw [hq]; decide), List.countP_cons_of_pos hp]
    have := List.countP_mono_left (l := l) (p := q) (q := p) fun y _ => hm y
    omega
  | a :: l, i + 1, x, h, hm, hp, hq => by
    have h1 := count_lt (l := l) (by simpa using h) hm hp hq
    rw [List.countP_cons, List.countP_cons]
    by_cases ha : q a = true
    · rw [if_pos ha, if_pos (hm a ha)]; omega
    · rw [if_neg ha]; omega
theorem leftN_lt {l : List En} {h : List Int} {i : Nat} {x : En} (hx : l[i]? = some x) (hn : hasI h x.id = false) : leftN l (h ++ [x.id]) < leftN l h := by
  unfold hasI at hn
  unfold leftN
  refine count_lt hx (fun y hy => ?_) (by rw [hn]; rfl) (by simp)
  simp only [Bool.not_eq_true', List.contains_eq_mem, decide_eq_false_iff_not, List.mem_append] at hy ⊢
  exact fun h => hy (.inl h)
theorem leftN_le (l : List En) (h : List Int) : leftN l h ≤ l.length := List.countP_le_length
theorem allG_eq {l : List En} : ∀ (n m : Nat) (h : List Int), leftN l h ≤ n → leftN l h ≤ m → allG l n h = allG l m h := by
  have key : ∀ (n m : Nat) (h : List Int), leftN l h ≤ n → leftN l h ≤ m → n ≤ m → allG l n h = allG l m h := by
    intro n
    induction n with
    | zero =>
      intro m h h0 hm _
      rcases m with _ | m
      · rfl
      · show [] = (match nextN l h with | none => [] | some i => _)
        rcases hN : nextN l h with _ | i
        · rfl
        · obtain ⟨_, x, hx, hr⟩ := nextN_some hN
          have := leftN_lt hx (readyB_new hr)
          omega
    | succ n ih =>
      intro m h h0 hm hnm
      obtain ⟨m, rfl⟩ : ∃ m', m = m' + 1 := ⟨m - 1, by omega⟩
      show (match nextN l h with | none => [] | some i => _) = (match nextN l h with | none => [] | some i => _)
      rcases hN : nextN l h with _ | i
      · rfl
      · obtain ⟨_, x, hx, hr⟩ := nextN_some hN
        have := leftN_lt hx (readyB_new hr)
        show (match l[i]? with | none => [] | some x => _) = (match l[i]? with | none => [] | some x => _)
        rw [hx]
        show x.e.c :: _ = x.e.c :: _
        rw [ih m _ (by omega) (by omega) (by omega)]
  intro n m h h1 h2
  rcases Nat.le_total n m with hnm | hnm
  · exact key n m h h1 h2 hnm
  · exact (key m n h h2 h1 hnm).symm
theorem allF_none {l : List En} {h : List Int} (hN : nextN l h = none) : allF l h = [] := by
  unfold allF
  rcases l.length with _ | n
  · rfl
  · show (match nextN l h with | none => [] | some i => _) = _
    rw [hN]
theorem allF_some {l : List En} {h : List Int} {i : Nat} {x : En} (hN : nextN l h = some i) (hx : l[i]? = some x) : allF l h = x.e.c :: allF l (h ++ [x.id]) := by
  obtain ⟨hlt, y, hy, hr⟩ := nextN_some hN
  obtain rfl : x = y := by rw [hx] at hy; exact Option.some.inj hy
  have hl := leftN_lt hx (readyB_new hr)
  have hle := leftN_le l h
  unfold allF
  rw [allG_eq l.length (l.length - 1 + 1) h hle (by omega)]
  show (match nextN l h with | none => [] | some i => _) = _
  rw [hN]
  show (match l[i]? with | none => [] | some x => _) = _
  rw [hx]
  show x.e.c :: _ = x.e.c :: _
  rw [allG_eq (l.length - 1) l.length _ (by omega) (leftN_le _ _)]
theorem allF_len (l : List En) : ∀ (n : Nat) (h : List Int), leftN l h ≤ n → (allF l h).length ≤ leftN l h := by
  intro n
  induction n with
  | zero =>
    intro h h0
    rcases hN : nextN l h with _ | i
    · rw [allF_none hN]; simp
    · obtain ⟨_, x, hx, hr⟩ := nextN_some hN
      have := leftN_lt hx (readyB_new hr)
      omega
  | succ n ih =>
    intro h h0
    rcases hN : nextN l h with _ | i
    · rw [allF_none hN]; simp
    · obtain ⟨_, x, hx, hr⟩ := nextN_some hN
      have h1 := leftN_lt hx (readyB_new hr)
      have h2 := ih (h ++ [x.id]) (by omega)
      rw [allF_some hN hx, List.length_cons]
      omega
theorem allF_le (l : List En) (h : List Int) : (allF l h).length ≤ l.length := Nat.le_trans (allF_len l _ h (Nat.le_refl _)) (leftN_le l h)
theorem waitsUp_len {l : List En} {h : List Int} : ∀ k, (waitsUp l h k).length ≤ k
  | 0 => Nat.le_refl _
  | k + 1 => by
    have := waitsUp_len (l := l) (h := h) k
    rcases hx : l[k]? with _ | x
    · have e : waitsUp l h (k + 1) = waitsUp l h k := by
        show (match l[k]? with | none => _ | some x => _) = _
        rw [hx]
      rw [e]; omega
    · rw [waitsUp_succ hx]
      split
      · rw [List.length_append, List.length_singleton]; omega
      · omega
end Go.Proofs.Ytmggggijamligaa
namespace Go.Proofs.Ytmggggijamligaa
set_option linter.unusedVariables false
open Go.RowKit
open Go.Lib (hid)
theorem hasI_no {l : List Int} {id : Int} (h : ∀ x ∈ l, (x == id) = false) : hasI l id = false := by
  unfold hasI
  simp only [List.contains_eq_mem, decide_eq_false_iff_not]
  intro hm
  have := h id hm
  simp at this
theorem hasI_yes {l : List Int} {id : Int} {k : Nat} (h : l[k]? = some id) : hasI l id = true := by
  unfold hasI
  simp only [List.contains_eq_mem, decide_eq_true_eq]
  exact List.mem_of_getElem? h
theorem no_nextI {l : List Int} {p : Int → Bool} {k : Nat} {y : Int} (hy : l[k]? = some y) (h : ∀ z ∈ l.take k, p z = false) (h1 : p y = false) : ∀ z ∈ l.take (k + 1), p z = false := fun z hz => by
  rw [List.take_add_one, hy] at hz
  rcases List.mem_append.1 hz with hz | hz
  · exact h z hz
  · simp at hz; subst hz; exact h1
set_option maxHeartbeats 1000000 in
set_option maxRecDepth 100000 in
theorem rHasI {v : Value} {l : List Int} {w : World} (h : SlI w v l) (hl : l.length ≤ 100000) (id : Int) : Calls Try.prog 26 #[v, .int .i64 id] w fun e w' => e = .returned (.bool (hasI l id)) ∧ w' = w := by
  obtain ⟨b, o, cap, a, rfl, ha, hc, hb⟩ := h
  obtain ⟨m, hm⟩ : ∃ m, m = l.length := ⟨_, rfl⟩
  rw [← hm] at ha hb hl ⊢
  have HN := hid hm
  have HCC := hid hc
  clear hm hc
  go_enter Try.func26, Try.ntmps26
  go_wp2_with fail
  go_loopw [5] (fun i wr => ∃ (k : Nat), k ≤ m ∧ i = .int .i64 k ∧ Hid (∀ x ∈ l.take k, (x == id) = false) ∧ wr = w) (fun i _ => m - (RowKit.intOf i).toNat)
  case atStart => exact ⟨0, Nat.zero_le _, rfl, hid (by simp), rfl⟩
  case round =>
    obtain ⟨k, hk, rfl, HNO, rfl⟩ := hrel
    by_cases hlt : k < m
    · have hlti : ((k : Int) < m) := by omega
      obtain rfl := ha (by omega)
      obtain ⟨y, hy⟩ : ∃ y, l[k]? = some y := ⟨l[k]'(by rw [← HN.out]; exact hlt), List.getElem?_eq_getElem (by rw [← HN.out]; exact hlt)⟩
      have d1 : wr.cell? ⟨b, o + k, none⟩ = some (.int .i64 y) := HCC.out k y hy
      have HY := hid hy
      clear hy
      by_cases h1 : y = id
      · have hb1 : (y == id) = true := by simp [h1]
        have H1 := hid h1
        clear h1
        go_wp2_with fail
        go_ret
        exact ⟨by rw [hasI_yes (by rw [HY.out, H1.out])]; rfl, rfl⟩
      · have hb1 : (y == id) = false := by simpa using h1
        have HB1 := hid hb1
        clear h1
        go_wp2_with fail
        go_roundw
        case rel => exact ⟨k + 1, by omega, by go_num, hid (no_nextI HY.out HNO.out HB1.out), by first | rfl | trivial⟩
        case measure => first | omega | (simp [RowKit.intOf]; omega)
    · have hlti : ¬ ((k : Int) < m) := by omega
      have hkm : k = m := by omega
      go_wp2_with fail
      go_ret
      exact ⟨by rw [hasI_no (fun x hx => HNO.out x (by rw [hkm, HN.out, List.take_length]; exact hx))]; rfl, rfl⟩
set_option maxHeartbeats 1000000 in
set_option maxRecDepth 100000 in
theorem rFindE {v : Value} {l : List En} {w : World} (h : SlE w v (evs l)) (hl : l.length ≤ 100000) (id : Int) : Calls Try.prog 27 #[v, .int .i64 id] w fun e w' => e = .returned (.int .i64 (optI (findN l id))) ∧ w' = w := by
  obtain ⟨b, o, cap, a, rfl, ha, hc, hb⟩ := h
  rw [List.length_map] at ha hb ⊢
  obtain ⟨m, hm⟩ : ∃ m, m = l.length := ⟨_, rfl⟩
  rw [← hm] at ha hb hl ⊢
  have HN := hid hm
  have HCC := hid hc
  clear hm hc
  go_enter Try.func27, Try.ntmps27
  go_wp2_with fail
  go_loopw [5] (fun i wr => ∃ (k : Nat), k ≤ m ∧ i = .int .i64 k ∧ Hid (∀ x ∈ l.take k, isId id x = false) ∧ wr = w) (fun i _ => m - (RowKit.intOf i).toNat)
  case atStart => exact ⟨0, Nat.zero_le _, rfl, hid (by simp), rfl⟩
  case round =>
    obtain ⟨k, hk, rfl, HNO, rfl⟩ := hrel
    by_cases hlt : k < m
    · have hlti : ((k : Int) < m) := by omega
      obtain rfl := ha (by omega)
      obtain ⟨y, hy⟩ : ∃ y, l[k]? = some y := ⟨l[k]'(by rw [← HN.out]; exact hlt), List.getElem?_eq_getElem (by rw [← HN.out]; exact hlt)⟩
      obtain ⟨yi, hyi⟩ : ∃ z, z = y.id := ⟨_, rfl⟩
      have d1 : wr.cell? ⟨b, o + k * 19, none⟩ = some (.int .i64 yi) := by rw [hyi]; exact HCC.out k y.e (at_evs hy) 0 _ rfl
      have HY := hid hy
      have HYI := hid hyi
      clear hy hyi
      by_cases h1 : yi = id
      · have hb1 : (yi == id) = true := by simp [h1]
        have H1 := hid h1
        clear h1
        go_wp2_with fail
        go_ret
        exact ⟨by rw [findN_yes HY.out (by unfold isId; rw [← HYI.out, H1.out]; simp) HNO.out]; rfl, rfl⟩
      · have hb1 : (yi == id) = false := by simpa using h1
        have HB1 := hid h1
        clear h1
        go_wp2_with fail
        go_roundw
        case rel => exact ⟨k + 1, by omega, by go_num, hid (no_nextE HY.out HNO.out (by unfold isId; rw [← HYI.out]; exact decide_eq_false HB1.out)), by first | rfl | trivial⟩
        case measure => first | omega | (simp [RowKit.intOf]; omega)
    · have hlti : ¬ ((k : Int) < m) := by omega
      have hkm : k = m := by omega
      go_wp2_with fail
      go_ret
      exact ⟨by rw [findN_no (fun x hx => HNO.out x (by rw [hkm, HN.out, List.take_length]; exact hx))]; rfl, rfl⟩
end Go.Proofs.Ytmggggijamligaa

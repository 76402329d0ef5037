import Derived.Test.YtpkkmfppdhjpkaaGreatGa05
import Derived.OwnWalk
import Derived.Test.YtpkkmfppdhjpkaaGreatGa04
import Derived.Deep.QuietTactic
import Derived.BigQuiet
/- The document's Put, Nums: numbers' bytes, one behind the other. -/
namespace Go.Proofs.YtpkkmfppdhjpkaaGreat
set_option linter.unusedVariables false
open Go.RowKit
open Go.Lib (hid)

/-- Numbers behind an address. -/
def SlN (w : World) (v : Value) (l : List Int) : Prop :=
  ∃ (b o cap : Nat) (a : Option Addr), v = .slice a l.length cap ∧ (0 < l.length → a = some ⟨b, o, none⟩) ∧ (∀ (j : Nat) x, l[j]? = some x → w.cell? ⟨b, o + j, none⟩ = some (.int .i64 x)) ∧ (0 < l.length → b < w.heap.size)
theorem SlN.on {w w' : World} {v : Value} {l : List Int} (h : SlN w v l) (hb : Below w.heap.size w w') : SlN w' v l := by
  obtain ⟨b, o, cap, a, rfl, ha, hc, hl⟩ := h
  refine ⟨b, o, cap, a, rfl, ha, fun j x hx => ?_, fun h0 => by have := hl h0; have := hb.size; omega⟩
  have h0 : 0 < l.length := by have := (List.getElem?_eq_some_iff.1 hx).1; omega
  rw [hb.cell (p := ⟨b, o + j, none⟩) (hl h0)]
  exact hc j x hx
theorem takeN_snoc {α : Type} {cs : List α} {k : Nat} {c : α} (hc : cs[k]? = some c) : cs.take (k + 1) = cs.take k ++ [c] := by
  rw [List.take_add_one, hc]; rfl
def putAll (l : List Int) : List UInt8 := l.flatMap fun x => oneN x.toNat
def putE (l : List Int) : Int := if l.all in40 = true then 0 else 1
def putB (l : List Int) : List UInt8 := if l.all in40 = true then putAll l else []
theorem put_ok {l : List Int} (h : l.all in40 = true) : putE l = 0 ∧ putB l = putAll l := by unfold putE putB; rw [if_pos h, if_pos h]; exact ⟨rfl, rfl⟩
theorem put_no {l : List Int} {k : Nat} {x : Int} (hx : l[k]? = some x) (h : in40 x = false) : putE l = 1 ∧ putB l = [] := by
  have : ¬ l.all in40 = true := by
    rw [List.all_eq_true]; intro hh; have := hh x (List.mem_of_getElem? hx); rw [h] at this; cases this
  unfold putE putB; rw [if_neg this, if_neg this]; exact ⟨rfl, rfl⟩
theorem putAll_len : ∀ (l : List Int), l.all in40 = true → (putAll l).length ≤ 6 * l.length
  | [], _ => by simp [putAll]
  | x :: l, h => by
    simp only [List.all_cons, Bool.and_eq_true] at h
    have h1 := in40_true.1 h.1
    have := putAll_len l h.2
    have h6 := oneN_six (n := x.toNat) (by omega)
    unfold putAll at *
    rw [List.flatMap_cons, List.length_append, List.length_cons]; omega
theorem putAll_next {l : List Int} {k : Nat} {x : Int} (hx : l[k]? = some x) : putAll (l.take (k + 1)) = putAll (l.take k) ++ oneN x.toNat := by
  unfold putAll; rw [takeN_snoc hx, List.flatMap_append]; simp
theorem allN_next {l : List Int} {k : Nat} {x : Int} (h : (l.take k).all in40 = true) (hx : l[k]? = some x) (h2 : in40 x = true) : (l.take (k + 1)).all in40 = true := by
  rw [takeN_snoc hx, List.all_append, h]; simp [h2]
theorem OwnB.grows {w W0 w1 : World} {B n : Nat} {v v' : Value} {a b : List UInt8} (hB : Below B w W0) (hsz : B ≤ W0.heap.size) (hlt : ∀ k, v.ownBlock = some k → B ≤ k)
    (hown' : w1.ownsRow B 5 1 v' n (octs a ++ octs b)) (hn : n = a.length + b.length) (hg : W0.grownBy w1 v.ownBlock) : OwnB w1 B v' (a ++ b) ∧ Below B w w1 :=
  ⟨by unfold OwnB; rw [octs_append, List.length_append, ← hn]; exact hown', hB.grown hg hsz hlt⟩

theorem OwnB.asSlice {w : World} {B : Nat} {v : Value} {l : List UInt8} (h : OwnB w B v l) : ∃ (g : Option Addr) (cap n : Nat), v = .slice g n cap ∧ n = l.length := by
  rcases h.shape with ⟨e, e'⟩ | ⟨g, cap, e, _⟩
  · exact ⟨none, 0, 0, e, by rw [e']; rfl⟩
  · exact ⟨_, cap, _, e, rfl⟩

/-- A command's numbers. -/
def C7.nums (c : C7) : List Int := [c.i, c.k, c.s, c.t, c.d, c.p, c.q]
theorem C7.nums_bytes (c : C7) : putAll c.nums = c.bytes := by
  unfold putAll C7.nums C7.bytes
  simp
theorem C7.nums_ok {c : C7} (h : c.ok = true) : c.nums.all in40 = true := by
  obtain ⟨h1, h2, h3, h4, h5, h6, h7⟩ := C7.ok_small h
  unfold C7.nums
  simp only [List.all_cons, List.all_nil, Bool.and_true, Bool.and_eq_true, in40_true]
  refine ⟨by omega, by omega, by omega, by omega, by omega, by omega, by omega⟩
def numsAll (l : List C7) : List Int := l.flatMap C7.nums
theorem numsAll_len (l : List C7) : (numsAll l).length = 7 * l.length := by
  induction l with
  | nil => rfl
  | cons c l ih => unfold numsAll at *; rw [List.flatMap_cons, List.length_append, ih]; simp [C7.nums]; omega
theorem numsAll_next {l : List C7} {k : Nat} {c : C7} (hc : l[k]? = some c) : numsAll (l.take (k + 1)) = numsAll (l.take k) ++ c.nums := by
  unfold numsAll; rw [takeN_snoc hc, List.flatMap_append]; simp
theorem numsAll_put {l : List C7} (h : l.all C7.ok = true) (hl : l.length ≤ 1024) : putE ((l.length : Int) :: numsAll l) = 0 ∧ putB ((l.length : Int) :: numsAll l) = cmdsBytes l := by
  have ha : ((l.length : Int) :: numsAll l).all in40 = true := by
    rw [List.all_cons, in40_true.2 (by omega), Bool.true_and]
    rw [List.all_eq_true]
    intro x hx
    unfold numsAll at hx
    obtain ⟨c, hc, hxc⟩ := List.mem_flatMap.1 hx
    exact List.all_eq_true.1 (C7.nums_ok (List.all_eq_true.1 h c hc)) x hxc
  obtain ⟨h1, h2⟩ := put_ok ha
  refine ⟨h1, h2.trans ?_⟩
  unfold cmdsBytes putAll
  rw [List.flatMap_cons, Int.toNat_natCast]
  congr 1
  unfold numsAll cmdsB
  clear ha h1 h2 h hl
  induction l with
  | nil => rfl
  | cons c l ih => rw [List.flatMap_cons, List.flatMap_append, List.flatMap_cons, ih, ← C7.nums_bytes]; rfl

end Go.Proofs.YtpkkmfppdhjpkaaGreat
/- Whether commands are a set: the program's Right, and the document's. -/
namespace Go.Proofs.YtpkkmfppdhjpkaaGreat
set_option linter.unusedVariables false
open Go.RowKit
open Go.Lib (hid)

theorem rise_next {cs : List C7} {k : Nat} {x y : C7} (h : RiseTo cs k) (hx : cs[k - 1]? = some x) (hy : cs[k]? = some y) (hlt : x.i < y.i) : RiseTo cs (k + 1) := fun j h1 hj u z hu hz => by
  by_cases e : j = k
  · subst e; rw [hx] at hu; rw [hy] at hz; rw [← Option.some.inj hu, ← Option.some.inj hz]; exact hlt
  · exact h j h1 (by omega) u z hu hz
theorem rise_short {cs : List C7} (h : cs.length ≤ 1) : risesB cs = true := RiseTo.yes fun j h1 hj => by omega
theorem rise_one (cs : List C7) : RiseTo cs 1 := fun j h1 hj => by omega
theorem CmsAt.prev {w : World} {b o : Nat} {cs : List C7} (h : CmsAt w b o cs) {j : Nat} {c : C7} (hj : 1 ≤ j) (hc : cs[j - 1]? = some c) : w.cell? ⟨b, o + (j - 1) * 7, none⟩ = some (.int .i64 c.i) := (h.at hc).1

set_option maxHeartbeats 600000 in
set_option maxRecDepth 100000 in
theorem cSetRight {v : Value} {cs : List C7} {w : World} (h : Sl w v cs) (hl : cs.length ≤ 1024) : Calls Tryz.prog 88 #[v] w fun e w' => e = .returned (.bool (setB cs)) ∧ Below w.heap.size w w' := by
  have hR := cRight' h (by omega)
  obtain ⟨b, o, cap, a, rfl, hn, ha, hc, hb⟩ := h
  rcases hok : cs.all C7.ok with _ | _
  · rw [hok] at hR
    have HS := hid (show setB cs = false from by unfold setB; rw [hok]; simp)
    clear hok
    go_enter Tryz.func88, Tryz.ntmps88
    go_wp2_with (go_at_call 40; refine hR.mono ?_; rintro e w' ⟨rfl, hB⟩)
    go_ret
    exact ⟨ret_bool HS.out.symm, hB⟩
  · rw [hok] at hR
    have HS := hid (show setB cs = risesB cs from by unfold setB; rw [hok, decide_eq_true hl]; simp)
    clear hok
    go_enter Tryz.func88, Tryz.ntmps88
    go_wp2_with (go_at_call 40; refine hR.mono ?_; rintro e w' ⟨rfl, hB'⟩)
    go_loopw [3] (fun i wr => ∃ k : Nat, 1 ≤ k ∧ (k ≤ cs.length ∨ k = 1) ∧ i = .int .i64 k ∧ Hid (RiseTo cs k) ∧ Below w.heap.size w wr) (fun i _ => cs.length - (intOf i).toNat)
    case atStart => exact ⟨1, Nat.le_refl _, .inr rfl, rfl, rise_one _, hB'⟩
    case round =>
      clear hB'
      obtain ⟨k, h1k, hk, rfl, hak, hB⟩ := hrel
      by_cases hlt : k < cs.length
      · obtain rfl := ha (by omega)
        obtain ⟨m, rfl⟩ : ∃ m, k = m + 1 := ⟨k - 1, by omega⟩
        obtain ⟨x, hx⟩ : ∃ x, cs[m]? = some x := ⟨cs[m], List.getElem?_eq_getElem (by omega)⟩
        obtain ⟨y, hy⟩ : ∃ y, cs[m + 1]? = some y := ⟨cs[m + 1], List.getElem?_eq_getElem hlt⟩
        have hbw := hb (by omega)
        have c0 := ((hc.on hB hbw).at hx).1
        have d0 := ((hc.on hB hbw).at hy).1
        have HX := hid (And.intro hx hy)
        have HB := hid hB
        clear hx hy hB
        by_cases hxy : x.i < y.i
        · have HI := hid hxy
          go_wp2
          go_quiet (fail)
          go_wp2
          go_roundw
          case rel => exact ⟨m + 1 + 1, by omega, .inl (by omega), by go_num, rise_next hak.out HX.out.1 HX.out.2 HI.out, Below.drewN' HB.out _⟩
          case measure => simp [intOf]; omega
        · have HI := hid hxy
          go_wp2
          go_quiet (fail)
          go_wp2
          go_ret
          exact ⟨ret_bool (HS.out.trans (rises_no (k := m + 1) HX.out.1 HX.out.2 (by omega) HI.out)).symm, Below.drewN' HB.out _⟩
      · have HE : Hid (risesB cs = true) := by
          rcases hk with hk | hk
          · have : k = cs.length := by omega
            exact RiseTo.yes (this ▸ hak.out)
          · exact rise_short (by omega)
        clear hk
        go_wp2
        go_ret
        exact ⟨ret_bool (HS.out.trans HE.out).symm, hB⟩

set_option maxHeartbeats 600000 in
set_option maxRecDepth 100000 in
theorem rSetRight {v : Value} {cs : List C7} {w : World} (h : Sl w v cs) (hl : cs.length ≤ 1024) : Calls Tryz.prog 70 #[v] w fun e w' => e = .returned (.bool (setB cs)) ∧ Below w.heap.size w w' := by
  have HH := hid h
  obtain ⟨b, o, cap, a, rfl, hn, ha, hc, hb⟩ := h
  go_enter Tryz.func70, Tryz.ntmps70
  go_wp2
  go_loopw [3] (fun i wr => ∃ k : Nat, 1 ≤ k ∧ (k ≤ cs.length ∨ k = 1) ∧ i = .int .i64 k ∧ Hid (RiseTo cs k) ∧ Below w.heap.size w wr) (fun i _ => cs.length - (intOf i).toNat)
  case atStart => exact ⟨1, Nat.le_refl _, .inr rfl, rfl, rise_one _, Below.refl _ _⟩
  case round =>
    obtain ⟨k, h1k, hk, rfl, hak, hB⟩ := hrel
    by_cases hlt : k < cs.length
    · obtain rfl := ha (by omega)
      obtain ⟨m, rfl⟩ : ∃ m, k = m + 1 := ⟨k - 1, by omega⟩
      obtain ⟨x, hx⟩ : ∃ x, cs[m]? = some x := ⟨cs[m], List.getElem?_eq_getElem (by omega)⟩
      obtain ⟨y, hy⟩ : ∃ y, cs[m + 1]? = some y := ⟨cs[m + 1], List.getElem?_eq_getElem hlt⟩
      have hbw := hb (by omega)
      have c0 := ((hc.on hB hbw).at hx).1
      have d0 := ((hc.on hB hbw).at hy).1
      have HX := hid (And.intro hx hy)
      have HB := hid hB
      clear hx hy hB
      by_cases hxy : x.i < y.i
      · have HI := hid hxy
        go_wp2
        go_quiet (fail)
        go_wp2
        go_roundw
        case rel => exact ⟨m + 1 + 1, by omega, .inl (by omega), by go_num, rise_next hak.out HX.out.1 HX.out.2 HI.out, Below.drewN' HB.out _⟩
        case measure => simp [intOf]; omega
      · have HI := hid hxy
        go_wp2
        go_quiet (fail)
        go_wp2
        go_ret
        exact ⟨ret_bool (by unfold setB; rw [rises_no (k := m + 1) HX.out.1 HX.out.2 (by omega) HI.out]; simp), Below.drewN' HB.out _⟩
    · have HE : Hid (risesB cs = true) := by
        rcases hk with hk | hk
        · have : k = cs.length := by omega
          exact RiseTo.yes (this ▸ hak.out)
        · exact rise_short (by omega)
      clear hk
      have hR := rRights' (HH.out.on hB) (by omega)
      rcases hok : cs.all C7.ok with _ | _
      · rw [hok] at hR
        have HS := hid (show setB cs = false from by unfold setB; rw [hok]; simp)
        clear hok
        go_wp2_with (go_at_call 92; refine hR.mono ?_; rintro e w' ⟨rfl, hB'⟩)
        go_ret
        exact ⟨ret_bool HS.out.symm, hB.trans (hB'.mono hB.size)⟩
      · rw [hok] at hR
        have HS := hid (show setB cs = true from by unfold setB; rw [hok, HE.out, decide_eq_true hl]; rfl)
        clear hok
        go_wp2_with (go_at_call 92; refine hR.mono ?_; rintro e w' ⟨rfl, hB'⟩)
        go_ret
        exact ⟨ret_bool (by rw [HS.out]; exact decide_eq_true (by omega)), hB.trans (hB'.mono hB.size)⟩
end Go.Proofs.YtpkkmfppdhjpkaaGreat
/- The document's PutCmds and PutValue: commands' bytes, a value's. -/

namespace Go.Proofs.YtpkkmfppdhjpkaaGreat
set_option linter.unusedVariables false
open Go.RowKit
open Go.Lib (hid)

def ints (l : List Int) : List Value := l.map (Value.int .i64)
theorem ints_append (a b : List Int) : ints (a ++ b) = ints a ++ ints b := by simp [ints]
theorem ints_len (a : List Int) : (ints a).length = a.length := by simp [ints]
theorem ints_one (l : List Int) : ∀ u ∈ ints l, u.oneCell' = true := by
  intro u hu; simp [ints] at hu; obtain ⟨b, _, rfl⟩ := hu; rfl
abbrev OwnN (w : World) (B : Nat) (v : Value) (l : List Int) : Prop := w.ownsRow B 3 1 v l.length (ints l)
theorem OwnN.sl {w : World} {B : Nat} {v : Value} {l : List Int} (h : OwnN w B v l) : SlN w v l := by
  have hl := h.lt
  rcases h.2 with ⟨rfl, h0⟩ | ⟨g, cap, cur, rfl, hb, hg, hn, hm, hs, ht⟩
  · obtain rfl := List.length_eq_zero_iff.1 h0
    exact ⟨0, 0, 0, none, rfl, fun h => absurd h (by simp), fun j x hx => by simp at hx, fun h => absurd h (by simp)⟩
  · refine ⟨g, 0, cap, _, rfl, fun _ => rfl, fun j x hx => ?_, fun _ => (hl g rfl).2⟩
    have hj := (List.getElem?_eq_some_iff.1 hx).1
    rw [Nat.zero_add, h.cellAt j (by omega)]
    simp [ints, hx]
theorem own_below {w w' : World} {B C : Nat} {e : TypeId} {size : Nat} {v : Value} {n : Nat} {xs : List Value} (h : w.ownsRow B e size v n xs) (hb : Below C w w') (hC : ∀ k, v.ownBlock = some k → k < C) : w'.ownsRow B e size v n xs := by
  refine ⟨h.1, ?_⟩
  rcases h.2 with h2 | ⟨g, cap, cur, rfl, h1, hg, r⟩
  · exact .inl h2
  · exact .inr ⟨g, cap, cur, rfl, h1, by rw [hb.block g (hC g rfl)]; exact hg, r⟩
theorem OwnN.lit (w : World) (x : Int) : OwnN (w.alloc (.cells #[.int .i64 x] 3)) w.heap.size (.slice (some ⟨w.heap.size, 0, none⟩) 1 1) [x] :=
  ⟨rfl, .inr ⟨w.heap.size, 1, _, rfl, Nat.le_refl _, heap_alloc_new w _, Nat.le_refl _, by unfold maxLen; omega, rfl, rfl⟩⟩
theorem OwnN.asSlice {w : World} {B : Nat} {v : Value} {l : List Int} (h : OwnN w B v l) : ∃ (g : Option Addr) (cap n : Nat), v = .slice g n cap ∧ n = l.length := by
  rcases h.2 with ⟨rfl, h0⟩ | ⟨g, cap, cur, rfl, _⟩
  · exact ⟨none, 0, 0, rfl, h0.symm⟩
  · exact ⟨_, cap, _, rfl, rfl⟩

theorem ints_cells {w : World} {g : Nat} {l : List Int} (h : ∀ (j : Nat) x, l[j]? = some x → w.cell? ⟨g, j, none⟩ = some (.int .i64 x)) : ∀ (j : Nat) u, (ints l)[j]? = some u → w.cell? ((⟨g, 0, none⟩ : Addr).add j) = some u := fun j u hu => by
  simp only [ints, List.getElem?_map, Option.map_eq_some_iff] at hu
  obtain ⟨x, hx, rfl⟩ := hu
  rw [show (⟨g, 0, none⟩ : Addr).add j = ⟨g, j, none⟩ from by unfold Addr.add; split <;> simp_all]
  exact h j x hx
theorem OwnN.grows {w W0 w1 : World} {B n : Nat} {v v' : Value} {a b : List Int} (hB : Below B w W0) (hsz : B ≤ W0.heap.size) (hlt : ∀ k, v.ownBlock = some k → B ≤ k)
    (hown' : w1.ownsRow B 3 1 v' n (ints a ++ ints b)) (hn : n = a.length + b.length) (hg : W0.grownBy w1 v.ownBlock) : OwnN w1 B v' (a ++ b) ∧ Below B w w1 :=
  ⟨by unfold OwnN; rw [ints_append, List.length_append, ← hn]; exact hown', hB.grown hg hsz hlt⟩
def putCE (cs : List C7) : Int := if cs.all C7.ok = true ∧ cs.length ≤ 1024 then 0 else 1
def putCB (cs : List C7) : List UInt8 := if cs.all C7.ok = true ∧ cs.length ≤ 1024 then cmdsBytes cs else []
theorem putC_no {cs : List C7} (h : ¬ (cs.all C7.ok = true ∧ cs.length ≤ 1024)) : putCE cs = 1 ∧ putCB cs = [] := by unfold putCE putCB; rw [if_neg h, if_neg h]; exact ⟨rfl, rfl⟩
theorem putC_ok {cs : List C7} (h : cs.all C7.ok = true) (hl : cs.length ≤ 1024) : putCE cs = 0 ∧ putCB cs = cmdsBytes cs := by unfold putCE putCB; rw [if_pos ⟨h, hl⟩, if_pos ⟨h, hl⟩]; exact ⟨rfl, rfl⟩

def putVE (t : Int) (cs : List C7) : Int := if setB cs = true ∧ in40 t = true then 0 else 1
def putVB (t : Int) (cs : List C7) : List UInt8 := if setB cs = true ∧ in40 t = true then valueBytes t cs else []
theorem putV_no {t : Int} {cs : List C7} (h : ¬ (setB cs = true ∧ in40 t = true)) : putVE t cs = 1 ∧ putVB t cs = [] := by unfold putVE putVB; rw [if_neg h, if_neg h]; exact ⟨rfl, rfl⟩
theorem putV_ok {t : Int} {cs : List C7} (h : setB cs = true) (ht : in40 t = true) : putVE t cs = 0 ∧ putVB t cs = valueBytes t cs := by unfold putVE putVB; rw [if_pos ⟨h, ht⟩, if_pos ⟨h, ht⟩]; exact ⟨rfl, rfl⟩
end Go.Proofs.YtpkkmfppdhjpkaaGreat
/- The document's PutValue: a value's bytes. -/
namespace Go.Proofs.YtpkkmfppdhjpkaaGreat
set_option linter.unusedVariables false
open Go.RowKit
open Go.Lib (hid)

theorem cmdsBytes_len : ∀ (l : List C7), l.all C7.ok = true → l.length ≤ 1024 → (cmdsBytes l).length ≤ 6 + 42 * l.length := fun l h hl => by
  have := (numsAll_put h hl).2
  rw [← this, (put_ok (l := (l.length : Int) :: numsAll l) ?_).2]
  · have hh := putAll_len ((l.length : Int) :: numsAll l) ?_
    · rw [List.length_cons, numsAll_len] at hh; omega
    all_goals
      rw [List.all_cons, in40_true.2 (by omega), Bool.true_and, List.all_eq_true]
      intro x hx
      unfold numsAll at hx
      obtain ⟨c, hc, hxc⟩ := List.mem_flatMap.1 hx
      exact List.all_eq_true.1 (C7.nums_ok (List.all_eq_true.1 h c hc)) x hxc
  · rw [List.all_cons, in40_true.2 (by omega), Bool.true_and, List.all_eq_true]
    intro x hx
    unfold numsAll at hx
    obtain ⟨c, hc, hxc⟩ := List.mem_flatMap.1 hx
    exact List.all_eq_true.1 (C7.nums_ok (List.all_eq_true.1 h c hc)) x hxc

theorem OwnB.some {w : World} {B : Nat} {v : Value} {l : List UInt8} (h : OwnB w B v l) (hl : l ≠ []) : ∃ g cap, v = .slice (Option.some ⟨g, 0, none⟩) l.length cap := by
  rcases h.shape with ⟨_, e⟩ | ⟨g, cap, e, _⟩
  · exact absurd e hl
  · exact ⟨g, cap, e⟩
theorem cmdsBytes_ne (l : List C7) : cmdsBytes l ≠ [] := fun h => oneN_ne _ (List.append_eq_nil_iff.1 h).1

end Go.Proofs.YtpkkmfppdhjpkaaGreat

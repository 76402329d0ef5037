/- The document's Put, Nums: numbers' bytes, one behind the other. -/
import Derived.Test.YtmndjdaiailgmaaBytes
import Derived.OwnWalk
namespace Go.Proofs.Ytmndjdaiailgmaa
set_option linter.unusedVariables false
open Go.RowKit
open Go.Lib (hid)

/-- Numbers behind an address. -/
def SlN (w : World) (v : Value) (l : List Int) : Prop :=
  ∃ (b o cap : Nat) (a : Option Addr), v = .slice a l.length cap ∧ (0 < l.length → a = some ⟨b, o, none⟩) ∧ (∀ (j : Nat) x, l[j]? = some x → w.cell? ⟨b, o + j, none⟩ = some (.int .i64 x)) ∧ (0 < l.length → b < w.heap.size)
theorem SlN.on {w w' : World} {v : Value} {l : List Int} (h : SlN w v l) (hb : Below w.heap.size w w') : SlN w' v l := by
  obtain ⟨b, o, cap, a, rfl, ha, hc, hl⟩ := h
  refine ⟨b, o, cap, a, rfl, ha, fun j x hx => ?_, fun h0 => by have := hl h0; have := hb.size; omega⟩
  have h0 : 0 < l.length := by have := (List.getElem?_eq_some_iff.1 hx).1; omega
  rw [hb.cell (p := ⟨b, o + j, none⟩) (hl h0)]
  exact hc j x hx
theorem takeN_snoc {α : Type} {cs : List α} {k : Nat} {c : α} (hc : cs[k]? = some c) : cs.take (k + 1) = cs.take k ++ [c] := by
  rw [List.take_add_one, hc]; rfl
def putAll (l : List Int) : List UInt8 := l.flatMap fun x => oneN x.toNat
def putE (l : List Int) : Int := if l.all in40 = true then 0 else 1
def putB (l : List Int) : List UInt8 := if l.all in40 = true then putAll l else []
theorem put_ok {l : List Int} (h : l.all in40 = true) : putE l = 0 ∧ putB l = putAll l := by unfold putE putB; rw [if_pos h, if_pos h]; exact ⟨rfl, rfl⟩
theorem put_no {l : List Int} {k : Nat} {x : Int} (hx : l[k]? = some x) (h : in40 x = false) : putE l = 1 ∧ putB l = [] := by
  have : ¬ l.all in40 = true := by
    rw [List.all_eq_true]; intro hh; have := hh x (List.mem_of_getElem? hx); rw [h] at this; cases this
  unfold putE putB; rw [if_neg this, if_neg this]; exact ⟨rfl, rfl⟩
theorem putAll_len : ∀ (l : List Int), l.all in40 = true → (putAll l).length ≤ 6 * l.length
  | [], _ => by simp [putAll]
  | x :: l, h => by
    simp only [List.all_cons, Bool.and_eq_true] at h
    have h1 := in40_true.1 h.1
    have := putAll_len l h.2
    have h6 := oneN_six (n := x.toNat) (by omega)
    unfold putAll at *
    rw [List.flatMap_cons, List.length_append, List.length_cons]; omega
theorem putAll_next {l : List Int} {k : Nat} {x : Int} (hx : l[k]? = some x) : putAll (l.take (k + 1)) = putAll (l.take k) ++ oneN x.toNat := by
  unfold putAll; rw [takeN_snoc hx, List.flatMap_append]; simp
theorem allN_next {l : List Int} {k : Nat} {x : Int} (h : (l.take k).all in40 = true) (hx : l[k]? = some x) (h2 : in40 x = true) : (l.take (k + 1)).all in40 = true := by
  rw [takeN_snoc hx, List.all_append, h]; simp [h2]
theorem OwnB.grows {w W0 w1 : World} {B n : Nat} {v v' : Value} {a b : List UInt8} (hB : Below B w W0) (hsz : B ≤ W0.heap.size) (hlt : ∀ k, v.ownBlock = some k → B ≤ k)
    (hown' : w1.ownsRow B 5 1 v' n (octs a ++ octs b)) (hn : n = a.length + b.length) (hg : W0.grownBy w1 v.ownBlock) : OwnB w1 B v' (a ++ b) ∧ Below B w w1 :=
  ⟨by unfold OwnB; rw [octs_append, List.length_append, ← hn]; exact hown', hB.grown hg hsz hlt⟩

theorem OwnB.asSlice {w : World} {B : Nat} {v : Value} {l : List UInt8} (h : OwnB w B v l) : ∃ (g : Option Addr) (cap n : Nat), v = .slice g n cap ∧ n = l.length := by
  rcases h.shape with ⟨e, e'⟩ | ⟨g, cap, e, _⟩
  · exact ⟨none, 0, 0, e, by rw [e']; rfl⟩
  · exact ⟨_, cap, _, e, rfl⟩

set_option maxHeartbeats 1000000 in
set_option maxRecDepth 100000 in
theorem rPutN {v : Value} {l : List Int} {w : World} (h : SlN w v l) (hl : l.length ≤ 3000) : Calls Try.prog 53 #[v] w fun e w' => ∃ r, e = .returned (.tuple #[r, .int .i64 (putE l)]) ∧ OwnB w' w.heap.size r (putB l) ∧ Below w.heap.size w w' := by
  obtain ⟨b, o, cap, a, rfl, ha, hc, hb⟩ := h
  obtain ⟨i0, hi, hz0, hz1, hz2⟩ := info_parts Try.infoB
  go_enter Try.func53, Try.ntmps53
  go_wp2
  go_loopw [4, 5] (fun u i wr => ∃ (k : Nat) (out : List UInt8), k ≤ l.length ∧ i = .int .i64 k ∧ Hid ((l.take k).all in40 = true ∧ out = putAll (l.take k)) ∧ OwnB wr w.heap.size u out ∧ Below w.heap.size w wr) (fun _ i _ => l.length - (intOf i).toNat)
  case atStart => exact ⟨0, [], Nat.zero_le _, rfl, ⟨by simp, by simp [putAll]⟩, OwnB.nil _ _, Below.refl _ _⟩
  case round =>
    obtain ⟨k, out, hk, rfl, hat, hown, hB⟩ := hrel
    have hsz := hB.size
    have hol : out.length ≤ 18000 := by rw [hat.out.2]; have := putAll_len _ hat.out.1; simp at this; omega
    have HB := hid hB
    have HO := hid hown
    by_cases hlt : k < l.length
    · obtain rfl := ha (by omega)
      obtain ⟨x, hx⟩ : ∃ x, l[k]? = some x := ⟨l[k], List.getElem?_eq_getElem hlt⟩
      have hbw := hb (by omega)
      have c0 := (hB.cell (p := ⟨b, o + k, none⟩) hbw).trans (hc k x hx)
      have HX := hid hx
      have hI := rIn40 x wr
      clear hx hB
      rcases hv : in40 x with _ | _
      · rw [hv] at hI
        have HE := hid (put_no HX.out hv)
        clear hv
        go_wp2_with (go_at_call 76; refine hI.mono ?_; rintro e w' ⟨rfl, rfl⟩)
        go_ret2
        refine ⟨.slice none 0 0, ?_, ?_, HB.out⟩
        · rw [HE.out.1]; rfl
        · rw [HE.out.2]; exact OwnB.nil _ _
      · rw [hv] at hI
        obtain ⟨hx0, hx1⟩ := in40_true.1 hv
        obtain ⟨n, rfl⟩ : ∃ n : Nat, x = n := ⟨x.toNat, by omega⟩
        have hnn : n ≤ 1099511627776 := by omega
        have hO := rOneN 5 n wr (by omega) hnn (by omega)
        have hN6 := oneN_six hnn
        have HN := hid (And.intro (allN_next hat.out.1 HX.out hv) (putAll_next HX.out))
        clear hv
        go_wp2_with (first | (go_at_call 76; refine hI.mono ?_; rintro e w' ⟨rfl, rfl⟩) | (go_at_call 55; refine hO.mono ?_; rintro e w1 ⟨g, cap1, rfl, hown1, hB1⟩; have hs1 := hB1.size; have h0 := OwnB.below HO.out hB1 (fun k hk => (HO.out.lt k hk).2); have H1 := hid (And.intro hown1 (And.intro hB1 h0)); clear hown1 hB1 h0 hown) | (at_builtin; refine wpList_append_own _ rfl _ _ 42 rfl w.heap.size 5 i0 _ 1 1 Try.underlying42 hi hz0 hz1 hz2 rfl (by decide) _ _ _ rfl H1.out.2.2 ⟨g, 0, none⟩ (oneN n).length cap1 (octs (oneN n)) rfl ?c0 ?c1 ?c2 ?c3 ?c4 ?c5 ?_))
        case c0 => rw [octs_len, Nat.mul_one]
        case c1 => exact H1.out.1.cells rfl
        case c2 => exact octs_one _
        case c3 => unfold maxLen; omega
        case c4 => omega
        case c5 => omega
        intro v' w2 hown' hgrow _
        have R := OwnB.grows (HB.out.trans (H1.out.2.1.mono hsz)) (by omega) (fun k hk => (HO.out.lt k hk).1) hown' rfl hgrow
        clear hown' hgrow
        go_wp2
        go_roundw
        case rel => exact ⟨k + 1, _, by omega, by go_num, hid ⟨HN.out.1, by rw [HN.out.2, hat.out.2]; rfl⟩, R.1, R.2⟩
        case measure => simp [intOf]; omega
    · have HE : Hid (putE l = 0 ∧ putB l = out) := hid (by
        have := hat.out
        rw [List.take_of_length_le (by omega)] at this
        rw [this.2]; exact put_ok this.1)
      obtain ⟨g, cap', n, rfl, _⟩ := hown.asSlice
      clear hown
      go_wp2
      go_ret2
      refine ⟨.slice g n cap', ?_, ?_, hB⟩
      · rw [HE.out.1]; rfl
      · rw [HE.out.2]; exact HO.out

/-- A command's numbers. -/
def C7.nums (c : C7) : List Int := [c.i, c.k, c.s, c.t, c.d, c.p, c.q]
theorem C7.nums_bytes (c : C7) : putAll c.nums = c.bytes := by
  unfold putAll C7.nums C7.bytes
  simp
theorem C7.nums_ok {c : C7} (h : c.ok = true) : c.nums.all in40 = true := by
  obtain ⟨h1, h2, h3, h4, h5, h6, h7⟩ := C7.ok_small h
  unfold C7.nums
  simp only [List.all_cons, List.all_nil, Bool.and_true, Bool.and_eq_true, in40_true]
  refine ⟨by omega, by omega, by omega, by omega, by omega, by omega, by omega⟩
def numsAll (l : List C7) : List Int := l.flatMap C7.nums
theorem numsAll_len (l : List C7) : (numsAll l).length = 7 * l.length := by
  induction l with
  | nil => rfl
  | cons c l ih => unfold numsAll at *; rw [List.flatMap_cons, List.length_append, ih]; simp [C7.nums]; omega
theorem numsAll_next {l : List C7} {k : Nat} {c : C7} (hc : l[k]? = some c) : numsAll (l.take (k + 1)) = numsAll (l.take k) ++ c.nums := by
  unfold numsAll; rw [takeN_snoc hc, List.flatMap_append]; simp
theorem numsAll_put {l : List C7} (h : l.all C7.ok = true) (hl : l.length ≤ 1024) : putE ((l.length : Int) :: numsAll l) = 0 ∧ putB ((l.length : Int) :: numsAll l) = cmdsBytes l := by
  have ha : ((l.length : Int) :: numsAll l).all in40 = true := by
    rw [List.all_cons, in40_true.2 (by omega), Bool.true_and]
    rw [List.all_eq_true]
    intro x hx
    unfold numsAll at hx
    obtain ⟨c, hc, hxc⟩ := List.mem_flatMap.1 hx
    exact List.all_eq_true.1 (C7.nums_ok (List.all_eq_true.1 h c hc)) x hxc
  obtain ⟨h1, h2⟩ := put_ok ha
  refine ⟨h1, h2.trans ?_⟩
  unfold cmdsBytes putAll
  rw [List.flatMap_cons, Int.toNat_natCast]
  congr 1
  unfold numsAll cmdsB
  clear ha h1 h2 h hl
  induction l with
  | nil => rfl
  | cons c l ih => rw [List.flatMap_cons, List.flatMap_append, List.flatMap_cons, ih, ← C7.nums_bytes]; rfl

set_option maxHeartbeats 1000000 in
set_option maxRecDepth 100000 in
theorem rNums (c : C7) (w : World) : Calls Try.prog 52 #[c.v] w fun e w' => ∃ g, e = .returned (.slice (some ⟨g, 0, none⟩) 7 7) ∧ w.heap.size ≤ g ∧ g < w'.heap.size ∧ (∀ (j : Nat) x, c.nums[j]? = some x → w'.cell? ⟨g, j, none⟩ = some (.int .i64 x)) ∧ Below w.heap.size w w' := by
  go_enter Try.func52, Try.ntmps52
  go_wp2
  go_ret
  refine ⟨w.heap.size + 1, rfl, by omega, by simp, fun j x hx => ?_, below_two _ _ _⟩
  match j, hx with
  | 0, hx => cases hx; simp [go_sem]
  | 1, hx => cases hx; simp [go_sem]
  | 2, hx => cases hx; simp [go_sem]
  | 3, hx => cases hx; simp [go_sem]
  | 4, hx => cases hx; simp [go_sem]
  | 5, hx => cases hx; simp [go_sem]
  | 6, hx => cases hx; simp [go_sem]
  | _ + 7, hx => cases hx
end Go.Proofs.Ytmndjdaiailgmaa

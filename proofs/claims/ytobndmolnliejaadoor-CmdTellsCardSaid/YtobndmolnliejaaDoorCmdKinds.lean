/- The map of kinds: what it holds, and the word of a kind, in whatever order the map is gone through. -/
import Derived.Test.YtobndmolnliejaaDoorCmdWorld
import Derived.Maps.Own
import Derived.Maps.OwnOps
import Derived.Maps.OwnSet
import Derived.Maps.RangeWalk
import Derived.LoopTactic
import Derived.StringKeys
import Derived.Deep.Light
import Derived.Outline
namespace Go.Proofs.YtobndmolnliejaaDoor
open Go.RowKit Go.Lib Go.Maps

theorem lawS : Keyed Tryd.prog 9 := string_keyed Tryd.underlying9
theorem zeroK (w : World) : (zeroValue 29).run Tryd.prog w = .ok (.int .i64 0) w := by kernel_rfl
abbrev kl (l : List UInt8) : Lit := .string l
abbrev ki (n : Int) : DataW Unit := .lit (.int .i64 n)
/-- What the map reads as. -/
def kindsD : DataW Unit := (((DataW.map [] : DataW Unit).put (kl wPlace) (ki 0)).put (kl wCancel) (ki 1)).put (kl wAmend) (ki 2)
abbrev isKinds (w : World) (b : Nat) : Prop := w.ownsMap Tryd.prog 9 (plainElem Tryd.prog 29) b 3 kindsD

theorem key_lit (l : List UInt8) : WideAt.IsKeyLit (kl l) := trivial
theorem kinds_at (l : List UInt8) (z : DataW Unit) : kindsD.atKey (kl l) z = match kindW l with | some v => ki v | none => z := by
  unfold kindsD kindW
  by_cases h2 : l = wAmend
  · subst h2
    rw [atKey_put_same (((isMap_empty.put _ _).put _ _)) (key_lit _)]
    rfl
  rw [atKey_put_other (by simpa [kl] using h2)]
  by_cases h1 : l = wCancel
  · subst h1
    rw [atKey_put_same ((isMap_empty.put _ _)) (key_lit _)]
    rfl
  rw [atKey_put_other (by simpa [kl] using h1)]
  by_cases h0 : l = wPlace
  · subst h0
    rw [atKey_put_same isMap_empty (key_lit _)]
    rfl
  rw [atKey_put_other (by simpa [kl] using h0), if_neg h0, if_neg h1, if_neg h2]
  rfl
theorem kinds_has (l : List UInt8) : Maps.has kindsD (kl l) = (kindW l).isSome := by
  unfold kindsD kindW
  by_cases h2 : l = wAmend
  · subst h2
    rw [has_put_same (((isMap_empty.put _ _).put _ _)) (key_lit _)]
    rfl
  rw [has_put_other (by simpa [kl] using h2)]
  by_cases h1 : l = wCancel
  · subst h1
    rw [has_put_same ((isMap_empty.put _ _)) (key_lit _)]
    rfl
  rw [has_put_other (by simpa [kl] using h1)]
  by_cases h0 : l = wPlace
  · subst h0
    rw [has_put_same isMap_empty (key_lit _)]
    rfl
  rw [has_put_other (by simpa [kl] using h0), if_neg h0, if_neg h1, if_neg h2]
  rfl

set_option maxRecDepth 100000 in
theorem cKinds (w : World) : Calls Tryd.prog 36 #[] w fun e w' => e = .returned (.map (some w.heap.size)) ∧ isKinds w' w.heap.size ∧ Below w.heap.size w w' ∧ w.heap.size < w'.heap.size := by
  have hmm := @run_makeMap Tryd.prog
  have o0 := World.ownsMap_made w Tryd.prog 9 (plainElem (H := Unit) Tryd.prog 29)
  have b0 : Below w.heap.size w (w.alloc (.map #[] 0)) := (Below.refl _ _).alloc (Nat.le_refl _) _
  obtain ⟨w1, r1, o1, g1⟩ := o0.update (key := .string ⟨#[112, 108, 97, 99, 101]⟩) (val := .int .i64 0) lawS Tryd.underlying63 (by decide) (Go.WideMaps.keyOf_string_mk Tryd.underlying9 (by decide)) (plainElem_int Tryd.underlying29 (by decide))
  have b1 := b0.grown g1 (by simp) (fun j hj => by cases hj; exact Nat.le_refl _)
  obtain ⟨w2, r2, o2, g2⟩ := o1.update (key := .string ⟨#[99, 97, 110, 99, 101, 108]⟩) (val := .int .i64 1) lawS Tryd.underlying63 (by decide) (Go.WideMaps.keyOf_string_mk Tryd.underlying9 (by decide)) (plainElem_int Tryd.underlying29 (by decide))
  have b2 := b1.grown g2 b1.size (fun j hj => by cases hj; exact Nat.le_refl _)
  obtain ⟨w3, r3, o3, g3⟩ := o2.update (key := .string ⟨#[97, 109, 101, 110, 100]⟩) (val := .int .i64 2) lawS Tryd.underlying63 (by decide) (Go.WideMaps.keyOf_string_mk Tryd.underlying9 (by decide)) (plainElem_int Tryd.underlying29 (by decide))
  have b3 := b2.grown g3 b2.size (fun j hj => by cases hj; exact Nat.le_refl _)
  have hs : Hid (w.heap.size < w3.heap.size) := o3.lt
  have B3 : Hid (Below w.heap.size w w3) := b3
  have O3 : Hid (isKinds w3 w.heap.size) := o3
  clear o0 b0 o1 g1 b1 o2 g2 b2 o3 g3 b3
  go_enter Tryd.func36, Tryd.ntmps36
  go_wp2
  go_ret
  exact ⟨rfl, O3.out, B3.out, hs.out⟩

theorem keyOf_string_inv {key : Value} {k : Lit} (h : keyOf Tryd.prog 9 key = some k) : ∃ s : ByteArray, key = .string s ∧ k = .string s.data.toList := by
  cases key <;> simp [keyOf, Tryd.underlying9, mapKey] at h
  obtain ⟨_, rfl⟩ := h
  exact ⟨_, rfl, rfl⟩

/-- The word of a kind. -/
theorem kindWd_of {l : List UInt8} {v : Int} (h : kindW l = some v) : kindWd v = l := by
  rcases kindW_some h with ⟨rfl, rfl⟩ | ⟨rfl, rfl⟩ | ⟨rfl, rfl⟩ <;> rfl
theorem kindW_kindWd (k : Int) (h0 : 0 ≤ k) (h2 : k ≤ 2) : kindW (kindWd k) = some k := by
  rcases (by omega : k = 0 ∨ k = 1 ∨ k = 2) with rfl | rfl | rfl <;> decide

def KindsLeft (w wr : World) (r : Nat) (k : Int) : Prop := ∃ (left : Lit → Bool) (cnt : Nat), wr.ranges Tryd.prog 9 (plainElem Tryd.prog 29) w.heap.size r 3 kindsD left cnt ∧ Below w.heap.size w wr ∧ left (kl (kindWd k)) = true

/-- The step of a range over a map of strings to numbers. -/
theorem next_si {ops : Array Oper} {rest : List Oper} {o : Oper} {a : Act} {Q : Exit → Act → World → Prop} (w : World) (hg : o.guard = none) (it : Operand) (hop : o.op = Op.next it false)
    (b r n : Nat) (D : DataW Unit) (left : Lit → Bool) (cnt : Nat) (hit : a.eval it = .pointer (some ⟨r, 0, none⟩)) (h : w.ranges Tryd.prog 9 (plainElem Tryd.prog 29) b r n D left cnt)
    (hDone : (∀ kl, left kl = false) → wpList Tryd.prog ops Q rest (a.put o.dst (.tuple #[.bool false])) w)
    (hMore : ∀ (s : ByteArray) (c : Int) (w' : World) (cnt' : Nat), (∀ zd, D.atKey (.string s.data.toList) zd = .lit (.int .i64 c)) → w'.ranges Tryd.prog 9 (plainElem Tryd.prog 29) b r n D (fun z => left z && !z.sameKey (.string s.data.toList)) cnt' → cnt' < cnt →
      w.grownBy w' (some r) → (Instr.entry (.pointer (some ⟨r, 0, none⟩))).run Tryd.prog w' = .ok (.tuple #[.string s, .int .i64 c]) w' → wpList Tryd.prog ops Q rest (a.put o.dst (.tuple #[.bool true, .string s, .int .i64 c])) w') :
    wpList Tryd.prog ops Q (o :: rest) a w :=
  wpList_next_ranges w hg it hop 9 lawS (plainElem Tryd.prog 29) (Value.string) (Value.int .i64) (fun key kl hk => by obtain ⟨s, rfl, _⟩ := keyOf_string_inv hk; exact ⟨s, rfl⟩) (fun v y hv => by obtain ⟨c, rfl, _⟩ := plainElem_int_inv Tryd.underlying29 hv; exact ⟨c, rfl⟩)
    b r n D left cnt hit h (fun _ hl => hDone hl) (fun x c k y w' cnt' hkey _ hv hat hrg hlt hgr _ hen => by
      obtain ⟨s, es, rfl⟩ := keyOf_string_inv hkey
      cases es
      obtain ⟨c', ec, rfl, _⟩ := plainElem_int_inv Tryd.underlying29 hv
      cases ec
      exact hMore x c w' cnt' hat hrg hlt hgr hen)

set_option maxRecDepth 100000 in
theorem cKindWord (k : Int) (h0 : 0 ≤ k) (h2 : k ≤ 2) (w : World) : Calls Tryd.prog 21 #[.int .i64 k] w fun e w' => e = .returned (str (kindWd k)) ∧ Below w.heap.size w w' := by
  go_enter Tryd.func21, Tryd.ntmps21
  go_wp2_with (first
    | (go_at_call 36; refine (cKinds _).mono ?_; rintro e w1 ⟨rfl, o1, b1, s1⟩)
    | (at_range; refine wpList_range_own _ rfl _ 63 rfl 9 29 lawS Tryd.underlying63 _ w.heap.size 3 _ rfl o1 ?_; intro w0 hrg0 hg0 hs0))
  have hB0 : Below w.heap.size w w0 := b1.grown hg0 b1.size (fun j hj => by cases hj)
  go_frame
  go_loopw [3, 4] (fun _ _ wr => KindsLeft w wr w1.heap.size k) (fun _ _ wr => wr.rangeLeft w.heap.size w1.heap.size)
  case atStart => exact ⟨_, _, hrg0, hB0, by rw [kinds_has, kindW_kindWd k h0 h2]; rfl⟩
  case round =>
    obtain ⟨left, cnt, hrg, hb, hleft⟩ := hrel
    go_wp2_with (at_next; refine next_si _ rfl _ rfl w.heap.size w1.heap.size 3 kindsD left cnt rfl hrg ?_ ?_)
    · intro hl
      rw [hl] at hleft
      cases hleft
    · intro s c w2 cnt' hat hrg2 hlt hg2 hen
      have hw : kindW s.data.toList = some c := by
        have h9 := hat (ki 9)
        rw [kinds_at] at h9
        have h8 := hat (ki 8)
        rw [kinds_at] at h8
        cases hk : kindW s.data.toList with
        | none => rw [hk] at h9 h8; simp only [ki] at h9 h8; rw [← h8] at h9; cases h9
        | some v => rw [hk] at h9; simp only [ki] at h9; cases h9; rfl
      have hb2 : Below w.heap.size w w2 := hb.grown hg2 hb.size (fun j hj => by cases hj; omega)
      have H2 := hid hw
      clear hw hat
      by_cases hc : c = k
      · subst hc
        go_wp2
        go_ret
        exact ⟨by rw [kindWd_of H2.out]; rfl, hb2⟩
      · go_wp2
        go_roundw
        case rel =>
          refine ⟨_, cnt', hrg2, hb2, ?_⟩
          have hne : kl (kindWd k) ≠ .string s.data.toList := by
            intro e
            injection e with e
            have := H2.out
            rw [← e, kindW_kindWd k h0 h2] at this
            exact hc (Option.some.inj this).symm
          simp [hleft, sameKey_ne hne]
        case measure => rw [hrg2.left_eq, hrg.left_eq]; exact hlt
end Go.Proofs.YtobndmolnliejaaDoor

/- Union, the program's of two lists and the document's; and the program's Minus. -/
import Derived.Test.YtpocfhcdffobhaaOfC
import Derived.Test.YtpocfhcdffobhaaIds
namespace Go.Proofs.Ytpocfhcdffobhaa
set_option linter.unusedVariables false
open Go.RowKit
open Go.Lib (hid)

theorem grownBy_refl (w : World) (row : Option Nat) : w.grownBy w row := ⟨rfl, rfl, rfl, Nat.le_refl _, fun _ _ _ => rfl⟩
theorem flat_nil : flat [] = [] := rfl
/-- 'append(x, y...)' of commands, x the call's own, y any. -/
theorem append_sl {w : World} {ops : Array Oper} {rest : List Oper} {o : Oper} {a : Act} {Q : Exit → Act → World → Prop} (hgd : o.guard = none) (s x : Operand)
    (ho : o.op = .call { callee := .builtin .append, args := #[s, x], argTypes := #[22, 22] })
    {B : Nat} {v vx : Value} {n : Nat} {xs ys : List C7} (hs : a.eval s = v) (hn : n = xs.length) (hown : w.ownsRow B 34 7 v n (flat xs)) (hx : a.eval x = vx) (hsl : Sl w vx ys) (hl : xs.length + ys.length ≤ 1000000) (hbase : B ≤ w.heap.size)
    (h : ∀ v' w', Own w' B v' (xs ++ ys) → w.grownBy w' v.ownBlock → wpList Try.prog ops Q rest (a.put o.dst v') w') : wpList Try.prog ops Q (o :: rest) a w := by
  obtain ⟨i0, hi, hz0, hz1, hz2⟩ := info_parts Try.infoC
  subst hn
  rcases hsl.src with ⟨rfl, rfl⟩ | ⟨ad, cap, rfl, hc, _⟩
  · refine wpList_append_own_none hgd s x 22 ho B 34 i0 7 Try.underlying22 hi v xs.length (flat xs) hs hown hx (h v w ?_ (grownBy_refl _ _))
    rw [List.append_nil]; exact hown
  · refine wpList_append_own w hgd s x 22 ho B 34 i0 _ 7 56 Try.underlying22 hi hz0 hz1 hz2 rfl (by decide) v xs.length (flat xs) hs hown ad ys.length cap (flat ys) hx (flat_len ys) hc (flat_one ys) ?_ ?_ hbase fun v' w' h1 h2 _ => h v' w' ?_ h2
    · unfold maxLen; omega
    · omega
    · unfold Own; rw [flat_append, List.length_append]; exact h1

set_option maxHeartbeats 1600000 in
set_option maxRecDepth 100000 in
theorem rUnion {v v' : Value} {xs ys : List C7} {w : World} (ha : Sl w v xs) (hb : Sl w v' ys) (hl : xs.length ≤ 500) (hl' : ys.length ≤ 500) : Calls Try.prog 9 #[v, v'] w fun e w' => ∃ r, e = .returned (slE r (ofE (xs ++ ys))) ∧ Own w' w.heap.size r (ofL (xs ++ ys)) ∧ Below w.heap.size w w' := by
  have HA := hid ha
  have HB := hid hb
  obtain ⟨_, _, capa, aa, rfl, _⟩ := ha
  obtain ⟨_, _, capb, ab, rfl, _⟩ := hb
  have hm0 := hid (World.ownsRow_made (base := w.heap.size) (e := 34) (size := 7) w #[] 0 (Nat.le_refl _) (Nat.zero_le _) (by simp))
  go_enter Try.func9, Try.ntmps9
  go_wp2_with (first | (at_builtin; refine append_sl rfl (.tmp 7) (.tmp 8) rfl (xs := []) rfl rfl hm0.out rfl (HA.out.on ((Below.refl _ w).alloc (Nat.le_refl _) _)) (by simp; omega) (by simp) ?_; intro v1 w1 hown1 hgrow1; obtain ⟨g1, cap1, n1, rfl, hn1⟩ := Own.asSlice (cs := [] ++ xs) hown1; have HO : Hid (Own w1 w.heap.size (.slice g1 n1 cap1) xs ∧ Below w.heap.size w w1) := hid (And.intro hown1 (((Below.refl _ w).alloc (Nat.le_refl _) _).grown hgrow1 (by simp) (fun k hk => (hm0.out.lt k hk).1))); clear hgrow1 hown1 hn1) | (at_builtin; refine append_sl rfl (.tmp 10) (.tmp 11) rfl (xs := xs) rfl rfl HO.out.1 rfl (HB.out.on HO.out.2) (by omega) HO.out.2.size ?_; intro v2 w2 hown2 hgrow2; obtain ⟨g2, cap2, n2, rfl, hn2⟩ := Own.asSlice (cs := xs ++ ys) hown2; have HO2 : Hid (Own w2 w.heap.size (.slice g2 n2 cap2) (xs ++ ys) ∧ Below w.heap.size w w2) := hid (And.intro hown2 (HO.out.2.grown hgrow2 HO.out.2.size (fun k hk => (HO.out.1.lt k hk).1))); clear hgrow2 hown2 hn2) | (go_at_call 7; refine (rOf (cs := xs ++ ys) (Own.sl HO2.out.1) (by simp; omega)).mono ?_; rintro e w3 ⟨r, rfl, hown3, hB3⟩))
  go_ret2
  rename_i HO HO2 _ _ _
  exact ⟨_, rfl, own_mono (by assumption) HO2.out.2.size, HO2.out.2.trans (Below.mono (by assumption) HO2.out.2.size)⟩

def upTo2 (xs ys : List C7) (k : Nat) : List C7 := if k = 0 then [] else if k = 1 then xs else xs ++ ys

set_option maxHeartbeats 1600000 in
set_option maxRecDepth 100000 in
theorem cUnion {g : Nat} {v v' : Value} {xs ys : List C7} {w : World} (hg : g < w.heap.size) (h0 : w.cell? ⟨g, 0, none⟩ = some v) (h1 : w.cell? ⟨g, 1, none⟩ = some v') (ha : Sl w v xs) (hb : Sl w v' ys) (hl : xs.length ≤ 500) (hl' : ys.length ≤ 500) :
    Calls Try.prog 8 #[.slice (some ⟨g, 0, none⟩) 2 2] w fun e w' => ∃ r, e = .returned (slE r (ofE (xs ++ ys))) ∧ Own w' w.heap.size r (ofL (xs ++ ys)) ∧ Below w.heap.size w w' := by
  have HA := hid ha
  have HB := hid hb
  obtain ⟨_, _, capa, aa, rfl, _⟩ := ha
  obtain ⟨_, _, capb, ab, rfl, _⟩ := hb
  go_enter Try.func8, Try.ntmps8
  go_wp2
  go_loopw [4, 9] (fun u i wr => ∃ (k : Nat) (out : List C7), k ≤ 2 ∧ i = .int .i64 k ∧ Hid (out = upTo2 xs ys k) ∧ Own wr w.heap.size u out ∧ Below w.heap.size w wr) (fun _ i _ => 2 - (intOf i).toNat)
  case atStart => exact ⟨0, [], by omega, rfl, rfl, Own.nil _ _, Below.refl _ _⟩
  case round =>
    obtain ⟨k, out, hk, rfl, hout, hown, hB⟩ := hrel
    have hsz := hB.size
    have c0 := (hB.cell (p := ⟨g, 0, none⟩) hg).trans h0
    have c1 := (hB.cell (p := ⟨g, 1, none⟩) hg).trans h1
    have HO := hid (And.intro hown hB)
    have HSA := hid (HA.out.on hB)
    have HSB := hid (HB.out.on hB)
    obtain ⟨gu, capu, nu, rfl, hnu⟩ := hown.asSlice
    clear hown hB h0 h1 hnu
    match k, hk with
    | 0, _ =>
      have hol : out.length + xs.length ≤ 1000000 := by rw [hout.out]; simp [upTo2]; omega
      go_wp2_with (at_builtin; refine append_sl rfl _ _ rfl (xs := out) rfl rfl HO.out.1 rfl HSA.out hol hsz ?_; intro v1 w1 hown1 hgrow1)
      have R := hid (And.intro hown1 (HO.out.2.grown hgrow1 hsz (fun k hk => (HO.out.1.lt k hk).1)))
      clear hown1 hgrow1
      go_wp2
      go_roundw
      case rel => exact ⟨1, _, by omega, by go_num, hid (by rw [hout.out]; simp [upTo2]), R.out.1, R.out.2⟩
      case measure => simp [intOf]
    | 1, _ =>
      have hol : out.length + ys.length ≤ 1000000 := by rw [hout.out]; simp [upTo2]; omega
      go_wp2_with (at_builtin; refine append_sl rfl _ _ rfl (xs := out) rfl rfl HO.out.1 rfl HSB.out hol hsz ?_; intro v1 w1 hown1 hgrow1)
      have R := hid (And.intro hown1 (HO.out.2.grown hgrow1 hsz (fun k hk => (HO.out.1.lt k hk).1)))
      clear hown1 hgrow1
      go_wp2
      go_roundw
      case rel => exact ⟨2, _, by omega, by go_num, hid (by rw [hout.out]; simp [upTo2]), R.out.1, R.out.2⟩
      case measure => simp [intOf]
    | 2, _ =>
      have hol : out.length ≤ 1024 := by rw [hout.out]; simp [upTo2]; omega
      have hO := cOf HO.out.1.sl hol
      rw [show out = xs ++ ys from by rw [hout.out]; simp [upTo2]] at hO
      go_wp2_with (go_at_call 6; refine hO.mono ?_; rintro e w3 ⟨r, rfl, hown3, hB3⟩)
      go_ret2
      exact ⟨r, rfl, own_mono hown3 hsz, HO.out.2.trans (hB3.mono hsz)⟩
end Go.Proofs.Ytpocfhcdffobhaa

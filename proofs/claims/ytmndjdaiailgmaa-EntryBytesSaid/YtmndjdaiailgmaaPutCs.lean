/- The document's PutCmds and PutValue: commands' bytes, a value's. -/
import Derived.Test.YtmndjdaiailgmaaPuts
import Derived.Test.YtmndjdaiailgmaaRise
namespace Go.Proofs.Ytmndjdaiailgmaa
set_option linter.unusedVariables false
open Go.RowKit
open Go.Lib (hid)

def ints (l : List Int) : List Value := l.map (Value.int .i64)
theorem ints_append (a b : List Int) : ints (a ++ b) = ints a ++ ints b := by simp [ints]
theorem ints_len (a : List Int) : (ints a).length = a.length := by simp [ints]
theorem ints_one (l : List Int) : ∀ u ∈ ints l, u.oneCell' = true := by
  intro u hu; simp [ints] at hu; obtain ⟨b, _, rfl⟩ := hu; rfl
abbrev OwnN (w : World) (B : Nat) (v : Value) (l : List Int) : Prop := w.ownsRow B 3 1 v l.length (ints l)
theorem OwnN.sl {w : World} {B : Nat} {v : Value} {l : List Int} (h : OwnN w B v l) : SlN w v l := by
  have hl := h.lt
  rcases h.2 with ⟨rfl, h0⟩ | ⟨g, cap, cur, rfl, hb, hg, hn, hm, hs, ht⟩
  · obtain rfl := List.length_eq_zero_iff.1 h0
    exact ⟨0, 0, 0, none, rfl, fun h => absurd h (by simp), fun j x hx => by simp at hx, fun h => absurd h (by simp)⟩
  · refine ⟨g, 0, cap, _, rfl, fun _ => rfl, fun j x hx => ?_, fun _ => (hl g rfl).2⟩
    have hj := (List.getElem?_eq_some_iff.1 hx).1
    rw [Nat.zero_add, h.cellAt j (by omega)]
    simp [ints, hx]
theorem own_below {w w' : World} {B C : Nat} {e : TypeId} {size : Nat} {v : Value} {n : Nat} {xs : List Value} (h : w.ownsRow B e size v n xs) (hb : Below C w w') (hC : ∀ k, v.ownBlock = some k → k < C) : w'.ownsRow B e size v n xs := by
  refine ⟨h.1, ?_⟩
  rcases h.2 with h2 | ⟨g, cap, cur, rfl, h1, hg, r⟩
  · exact .inl h2
  · exact .inr ⟨g, cap, cur, rfl, h1, by rw [hb.block g (hC g rfl)]; exact hg, r⟩
theorem OwnN.lit (w : World) (x : Int) : OwnN (w.alloc (.cells #[.int .i64 x] 3)) w.heap.size (.slice (some ⟨w.heap.size, 0, none⟩) 1 1) [x] :=
  ⟨rfl, .inr ⟨w.heap.size, 1, _, rfl, Nat.le_refl _, heap_alloc_new w _, Nat.le_refl _, by unfold maxLen; omega, rfl, rfl⟩⟩
theorem OwnN.asSlice {w : World} {B : Nat} {v : Value} {l : List Int} (h : OwnN w B v l) : ∃ (g : Option Addr) (cap n : Nat), v = .slice g n cap ∧ n = l.length := by
  rcases h.2 with ⟨rfl, h0⟩ | ⟨g, cap, cur, rfl, _⟩
  · exact ⟨none, 0, 0, rfl, h0.symm⟩
  · exact ⟨_, cap, _, rfl, rfl⟩

theorem ints_cells {w : World} {g : Nat} {l : List Int} (h : ∀ (j : Nat) x, l[j]? = some x → w.cell? ⟨g, j, none⟩ = some (.int .i64 x)) : ∀ (j : Nat) u, (ints l)[j]? = some u → w.cell? ((⟨g, 0, none⟩ : Addr).add j) = some u := fun j u hu => by
  simp only [ints, List.getElem?_map, Option.map_eq_some_iff] at hu
  obtain ⟨x, hx, rfl⟩ := hu
  rw [show (⟨g, 0, none⟩ : Addr).add j = ⟨g, j, none⟩ from by unfold Addr.add; split <;> simp_all]
  exact h j x hx
theorem OwnN.grows {w W0 w1 : World} {B n : Nat} {v v' : Value} {a b : List Int} (hB : Below B w W0) (hsz : B ≤ W0.heap.size) (hlt : ∀ k, v.ownBlock = some k → B ≤ k)
    (hown' : w1.ownsRow B 3 1 v' n (ints a ++ ints b)) (hn : n = a.length + b.length) (hg : W0.grownBy w1 v.ownBlock) : OwnN w1 B v' (a ++ b) ∧ Below B w w1 :=
  ⟨by unfold OwnN; rw [ints_append, List.length_append, ← hn]; exact hown', hB.grown hg hsz hlt⟩
def putCE (cs : List C7) : Int := if cs.all C7.ok = true ∧ cs.length ≤ 1024 then 0 else 1
def putCB (cs : List C7) : List UInt8 := if cs.all C7.ok = true ∧ cs.length ≤ 1024 then cmdsBytes cs else []
theorem putC_no {cs : List C7} (h : ¬ (cs.all C7.ok = true ∧ cs.length ≤ 1024)) : putCE cs = 1 ∧ putCB cs = [] := by unfold putCE putCB; rw [if_neg h, if_neg h]; exact ⟨rfl, rfl⟩
theorem putC_ok {cs : List C7} (h : cs.all C7.ok = true) (hl : cs.length ≤ 1024) : putCE cs = 0 ∧ putCB cs = cmdsBytes cs := by unfold putCE putCB; rw [if_pos ⟨h, hl⟩, if_pos ⟨h, hl⟩]; exact ⟨rfl, rfl⟩

set_option maxHeartbeats 1600000 in
set_option maxRecDepth 100000 in
theorem rPutCmds {v : Value} {cs : List C7} {w : World} (h : Sl w v cs) (hl : cs.length ≤ 100000) (hl2 : cs.all C7.ok = true → cs.length ≤ 400 ∨ 1024 < cs.length) : Calls Try.prog 78 #[v] w fun e w' => ∃ r, e = .returned (.tuple #[r, .int .i64 (putCE cs)]) ∧ OwnB w' w.heap.size r (putCB cs) ∧ Below w.heap.size w w' := by
  have hR := rRights' h hl
  obtain ⟨b, o, cap, a, rfl, _, ha, hc, hb⟩ := h
  obtain ⟨i0, hi, hz0, hz1, hz2⟩ := info_parts Try.infoI
  rcases hok : cs.all C7.ok with _ | _
  · rw [hok] at hR
    have HE := hid (putC_no (cs := cs) (fun hh => by rw [hok] at hh; exact absurd hh.1 (by simp)))
    clear hok hl2
    go_enter Try.func78, Try.ntmps78
    go_wp2_with (go_at_call 87; refine hR.mono ?_; rintro e w' ⟨rfl, hB⟩)
    go_ret2
    refine ⟨.slice none 0 0, ?_, ?_, hB⟩
    · rw [HE.out.1]; rfl
    · rw [HE.out.2]; exact OwnB.nil _ _
  · rw [hok] at hR
    rcases hl2 hok with hs | hs
    · have HE := hid (putC_ok hok (by omega))
      have HP := hid (numsAll_put hok (by omega))
      clear hok hl2
      go_enter Try.func78, Try.ntmps78
      go_wp2_with (go_at_call 87; refine hR.mono ?_; rintro e w0 ⟨rfl, hB0⟩)
      have hlit := OwnN.lit w0 (cs.length : Int)
      go_loopw [5, 6] (fun u i wr => ∃ (k : Nat) (l : List Int), k ≤ cs.length ∧ i = .int .i64 k ∧ Hid (l = (cs.length : Int) :: numsAll (cs.take k)) ∧ OwnN wr w.heap.size u l ∧ Below w.heap.size w wr) (fun _ i _ => cs.length - (intOf i).toNat)
      case atStart => exact ⟨0, [(cs.length : Int)], Nat.zero_le _, rfl, hid (by simp [numsAll]), own_monoB hlit hB0.size, hB0.alloc hB0.size _⟩
      case round =>
        clear hlit hB0
        obtain ⟨k, l, hk, rfl, hat, hown, hB⟩ := hrel
        have hsz := hB.size
        have hll : l.length = 1 + 7 * k := by rw [hat.out, List.length_cons, numsAll_len, List.length_take]; omega
        have HB := hid hB
        have HO := hid hown
        by_cases hlt : k < cs.length
        · obtain rfl := ha (by omega)
          obtain ⟨c, hcc⟩ : ∃ c, cs[k]? = some c := ⟨cs[k], List.getElem?_eq_getElem hlt⟩
          have hbw := hb (by omega)
          obtain ⟨c0, c1, c2, c3, c4, c5, c6⟩ := (hc.on hB hbw).at hcc
          have hN := rNums c wr
          have HC := hid hcc
          have HL := hid hll
          clear hcc hB hll
          go_wp2_with (first | (go_at_call 52; refine hN.mono ?_; rintro e w1 ⟨g, rfl, hg1, hg2, hcl, hB1⟩; have hs1 := hB1.size; have h0 := own_below HO.out hB1 (fun k hk => (HO.out.lt k hk).2); have H1 := hid (And.intro hcl (And.intro hB1 h0)); clear hcl hB1 h0 hown) | (at_builtin; refine wpList_append_own _ rfl _ _ 81 rfl w.heap.size 3 i0 _ 1 8 Try.underlying81 hi hz0 hz1 hz2 rfl (by decide) _ _ _ rfl H1.out.2.2 ⟨g, 0, none⟩ 7 7 (ints c.nums) rfl ?c0 ?c1 ?c2 ?c3 ?c4 ?c5 ?_))
          case c0 => rfl
          case c1 => exact ints_cells H1.out.1
          case c2 => exact ints_one _
          case c3 => have := HL.out; unfold maxLen; omega
          case c4 => have := HL.out; omega
          case c5 => omega
          intro v' w2 hown' hgrow _
          have R := OwnN.grows (HB.out.trans (H1.out.2.1.mono hsz)) (by omega) (fun k hk => (HO.out.lt k hk).1) hown' rfl hgrow
          clear hown' hgrow
          go_wp2
          go_roundw
          case rel => exact ⟨k + 1, _, by omega, by go_num, hid (by rw [hat.out, numsAll_next HC.out, List.cons_append]), R.1, R.2⟩
          case measure => simp [intOf]; omega
        · have HL := hid (show l = (cs.length : Int) :: numsAll cs from by rw [hat.out, List.take_of_length_le (by omega)])
          have hP := rPutN hown.sl (by omega)
          rw [HL.out, HP.out.1, HP.out.2] at hP
          obtain ⟨g, cap', n, rfl, hn⟩ := hown.asSlice
          clear hown hll hn
          go_wp2_with (go_at_call 53; refine hP.mono ?_; rintro e w3 ⟨r, rfl, hown3, hB3⟩)
          go_ret2
          refine ⟨r, ?_, ?_, HB.out.trans (hB3.mono hsz)⟩
          · rw [HE.out.1]; rfl
          · rw [HE.out.2]; exact own_monoB hown3 hsz
    · have HE := hid (putC_no (cs := cs) (fun hh => absurd hh.2 (by omega)))
      clear hok hl2
      go_enter Try.func78, Try.ntmps78
      go_wp2_with (go_at_call 87; refine hR.mono ?_; rintro e w' ⟨rfl, hB⟩)
      go_ret2
      refine ⟨.slice none 0 0, ?_, ?_, hB⟩
      · rw [HE.out.1]; rfl
      · rw [HE.out.2]; exact OwnB.nil _ _

def putVE (t : Int) (cs : List C7) : Int := if setB cs = true ∧ in40 t = true then 0 else 1
def putVB (t : Int) (cs : List C7) : List UInt8 := if setB cs = true ∧ in40 t = true then valueBytes t cs else []
theorem putV_no {t : Int} {cs : List C7} (h : ¬ (setB cs = true ∧ in40 t = true)) : putVE t cs = 1 ∧ putVB t cs = [] := by unfold putVE putVB; rw [if_neg h, if_neg h]; exact ⟨rfl, rfl⟩
theorem putV_ok {t : Int} {cs : List C7} (h : setB cs = true) (ht : in40 t = true) : putVE t cs = 0 ∧ putVB t cs = valueBytes t cs := by unfold putVE putVB; rw [if_pos ⟨h, ht⟩, if_pos ⟨h, ht⟩]; exact ⟨rfl, rfl⟩
end Go.Proofs.Ytmndjdaiailgmaa

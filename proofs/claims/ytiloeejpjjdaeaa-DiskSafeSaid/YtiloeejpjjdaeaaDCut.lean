/- The document's disk: Cut. How many acts are gone through: Fits. -/
import Derived.Test.YtiloeejpjjdaeaaDRef
namespace Go.Proofs.Ytiloeejpjjdaeaa
set_option linter.unusedVariables false
open Go.RowKit
open Go.Lib (hid)

set_option maxHeartbeats 1600000 in
set_option maxRecDepth 100000 in
theorem rCut_no {w : World} {q : Nat} {room s : Int} {v : Value} {l : List UInt8} (h : Rk w q room v s) (hv : SlB w v l) (n : Int) (hn : n < 0 ∨ (l.length : Int) < n) : Calls Try.prog 21 #[ptr q, .int .i64 n] w fun e w' => e = .returned (.int .i64 1) ∧ w = w' := by
  obtain ⟨hlt, c0, c1, c2, f0, f1, f2⟩ := h.cells
  obtain ⟨a, cap, rfl, hcap, _⟩ := hv.any
  clear h hv hcap
  by_cases h0 : n < 0
  · clear hn
    go_enter Try.func21, Try.ntmps21
    go_wp2
    go_ret
    exact ⟨rfl, rfl⟩
  · have h1 : (l.length : Int) < n := by omega
    clear hn
    go_enter Try.func21, Try.ntmps21
    go_wp2
    go_ret
    exact ⟨rfl, rfl⟩
set_option maxHeartbeats 1600000 in
set_option maxRecDepth 100000 in
theorem rCut_yes {w : World} {q : Nat} {room s : Int} {v : Value} {l : List UInt8} (h : Rk w q room v s) (hv : SlB w v l) (hq : ∀ k, v.ownBlock = some k → k ≠ q) (m : Nat) (hm : m ≤ l.length) : Calls Try.prog 21 #[ptr q, .int .i64 m] w fun e w' => e = .returned (.int .i64 0) ∧ (∃ v', Rk w' q room v' m ∧ SlB w' v' (l.take m) ∧ v'.ownBlock = v.ownBlock) ∧ w.grownBy w' (some q) := by
  have HP := hid h
  have HV := hid hv
  have HQ := hid hq
  obtain ⟨hlt, c0, c1, c2, f0, f1, f2⟩ := h.cells
  obtain ⟨a, cap, rfl, hcap, _⟩ := hv.any
  have h1 : ¬ (l.length : Int) < (m : Int) := by omega
  have hr := cut_run a l.length cap m (by omega)
  have HM := hid hm
  clear h hv hcap hq hm
  go_enter Try.func21, Try.ntmps21
  go_wp2
  go_ret
  have g : w.grownBy ((w.setCell ⟨q, 1, none⟩ (.slice a m cap)).setCell ⟨q, 2, none⟩ (.int .i64 m)) (some q) := grownTrans (grownSet _ _ _) (grownSet _ _ _)
  refine ⟨rfl, ⟨.slice a m cap, Tri.set2 (Tri.set1 HP.out), (HV.out.headA HM.out).kept g ?_, ?_⟩, g⟩
  · intro k hk e
    injection e with e
    subst e
    cases a with
    | none => simp [Value.ownBlock] at hk
    | some ad => exact HQ.out q hk rfl
  · cases a <;> rfl

/-- An act: its kind, its bytes' slice, its number. -/
structure Av where
  k : Nat
  s : Sv
  b : List UInt8
  n : Int
abbrev Av.arr (x : Av) : Array Value := #[.int .u8 x.k, x.s.v, .int .i64 x.n]
/-- Acts behind an address, three cells each. -/
def RowsA (w : World) (b o : Nat) (xs : List Av) : Prop := ∀ j x, xs[j]? = some x → w.cell? ⟨b, o + j * 3, none⟩ = some (.int .u8 x.k) ∧ w.cell? ⟨b, o + j * 3 + 1, none⟩ = some x.s.v ∧ w.cell? ⟨b, o + j * 3 + 2, none⟩ = some (.int .i64 x.n) ∧ SlB w x.s.v x.b ∧ x.k < 256 ∧ -9223372036854775808 ≤ x.n ∧ x.n ≤ 9223372036854775807
def SlA (w : World) (v : Value) (xs : List Av) : Prop :=
  ∃ (b o cap : Nat) (a : Option Addr), v = .slice a xs.length cap ∧ xs.length ≤ cap ∧ (0 < xs.length → a = some ⟨b, o, none⟩) ∧ RowsA w b o xs ∧ (0 < xs.length → b < w.heap.size)
theorem SlA.on {w w' : World} {v : Value} {xs : List Av} (h : SlA w v xs) (hb : Below w.heap.size w w') : SlA w' v xs := by
  obtain ⟨b, o, cap, a, rfl, hcap, ha, hr, hl⟩ := h
  refine ⟨b, o, cap, a, rfl, hcap, ha, fun j x hj => ?_, fun h0 => by have := hl h0; have := hb.size; omega⟩
  have h0 : 0 < xs.length := by have := (List.getElem?_eq_some_iff.1 hj).1; omega
  obtain ⟨h1, h2, h3, h4, h5⟩ := hr j x hj
  have hc := fun i => hb.cell (p := ⟨b, i, none⟩) (hl h0)
  exact ⟨(hc _).trans h1, (hc _).trans h2, (hc _).trans h3, h4.on hb, h5⟩
def lenA (xs : List Av) : Nat := (xs.map fun x => x.b.length).sum
theorem lenA_next {xs : List Av} {j : Nat} {x : Av} (h : xs[j]? = some x) : lenA (xs.take (j + 1)) = lenA (xs.take j) + x.b.length := by
  unfold lenA; rw [List.take_add_one, h]; simp
theorem lenA_le (xs : List Av) (j : Nat) : lenA (xs.take j) ≤ lenA xs := by
  have h : xs = xs.take j ++ xs.drop j := (List.take_append_drop j xs).symm
  have : lenA (xs.take j ++ xs.drop j) = lenA (xs.take j) + lenA (xs.drop j) := by unfold lenA; rw [List.map_append, List.sum_append]
  rw [← h] at this
  omega
def fitsA (xs : List Av) : Bool := decide (lenA xs ≤ 3000) && decide (xs.length ≤ 60)

set_option maxHeartbeats 3200000 in
set_option maxRecDepth 100000 in
theorem cFits {w : World} {v : Value} {xs : List Av} (h : SlA w v xs) (hl : xs.length ≤ 9223372036854775807) (hbig : ∀ x ∈ xs, x.b.length ≤ 9223372036854775807) : Calls Try.prog 5 #[v] w fun e w' => e = .returned (.bool (fitsA xs)) ∧ w = w' := by
  obtain ⟨b, o, cap, a, rfl, hcap, ha, hr, hlt⟩ := h
  obtain ⟨n, hn⟩ : ∃ n, n = xs.length := ⟨_, rfl⟩
  rw [← hn] at hl hcap ha hlt ⊢
  have HN := hid hn
  have HR := hid hr
  have HA := hid (And.intro ha hlt)
  have HBIG := hid hbig
  have HCAP := hid hcap
  clear hr hn ha hlt hbig hcap
  go_enter Try.func5, Try.ntmps5
  go_wp2
  go_loopw [3, 4] (fun s i wr => ∃ j : Nat, j ≤ n ∧ i = .int .i64 j ∧ s = .int .i64 (lenA (xs.take j)) ∧ lenA (xs.take j) ≤ 3000 ∧ wr = w) (fun _ i _ => n - (intOf i).toNat)
  case atStart => exact ⟨0, Nat.zero_le _, rfl, rfl, by simp [lenA], rfl⟩
  case round =>
    obtain ⟨j, hj, rfl, rfl, hle, rfl⟩ := hrel
    by_cases hlt : j < n
    · obtain ⟨x, hx⟩ : ∃ x, xs[j]? = some x := ⟨xs[j]'(by rw [← HN.out]; exact hlt), List.getElem?_eq_getElem (by rw [← HN.out]; exact hlt)⟩
      obtain ⟨k0, k1, k2, hs, _⟩ := HR.out j x hx
      obtain ⟨rfl, hbl⟩ : a = some ⟨b, o, none⟩ ∧ b < wr.heap.size := ⟨HA.out.1 (by omega), HA.out.2 (by omega)⟩
      have hlx := hs.len
      have hbx := HBIG.out x (List.mem_of_getElem? hx)
      have hnx := lenA_next hx
      have hall := lenA_le xs (j + 1)
      have hlt2 : (j : Int) < (n : Int) := by omega
      have hcl : (n : Int) ≤ (cap : Int) := by have := HCAP.out; omega
      obtain ⟨L, hL⟩ : ∃ L, L = lenA (xs.take j) := ⟨_, rfl⟩
      rw [← hL] at hnx hle ⊢
      obtain ⟨⟨sa, sn, sc⟩, hsv⟩ : ∃ s, s = x.s := ⟨_, rfl⟩
      rw [← hsv] at k1 hlx
      dsimp only at hlx k1
      have hno : 3000 < lenA xs → fitsA xs = false := fun h0 => by unfold fitsA; rw [decide_eq_false (by omega)]; rfl
      have hL2 : lenA (xs.take (j + 1)) = L + sn := by omega
      have hL3 : L + sn ≤ lenA xs := by omega
      have hsn : sn ≤ 9223372036854775807 := by omega
      have HX := hid (And.intro hno (And.intro hL2 hL3))
      clear hs hbx hlx hnx hall hno hL2 hL3 hL hsv hx k0 k2
      by_cases c1 : 3000 < sn
      · have c2 : (3000 : Int) < (sn : Int) := by omega
        have c3 : fitsA xs = false := HX.out.1 (by have := HX.out.2.2; omega)
        go_wp2
        go_ret
        exact ⟨rfl, rfl⟩
      · have c2 : ¬ (3000 : Int) < (sn : Int) := by omega
        have cw : wrap64 ((L : Int) + (sn : Int)) = (L : Int) + (sn : Int) := by unfold wrap64; omega
        by_cases d1 : 3000 < L + sn
        · have d2 : (3000 : Int) < (L : Int) + (sn : Int) := by omega
          have c3 : fitsA xs = false := HX.out.1 (by have := HX.out.2.2; omega)
          go_wp2
          go_ret
          exact ⟨rfl, rfl⟩
        · have d2 : ¬ (3000 : Int) < (L : Int) + (sn : Int) := by omega
          go_wp2
          go_roundw
          case rel => exact ⟨j + 1, by omega, by go_num, congrArg (Value.int .i64) (by have := HX.out.2.1; omega), by have := HX.out.2.1; omega, trivial⟩
          case measure => simp [RowKit.intOf]; omega
    · have hlt2 : ¬ (j : Int) < (n : Int) := by omega
      have hall : xs.take j = xs := by rw [show j = xs.length by have := HN.out; omega]; exact List.take_length
      rw [hall] at hle ⊢
      by_cases c1 : n ≤ 60
      · have c2 : (n : Int) ≤ 60 := by omega
        have c3 : fitsA xs = true := by unfold fitsA; rw [decide_eq_true hle, decide_eq_true (by have := HN.out; omega)]; rfl
        go_wp2
        go_ret
        exact ⟨rfl, rfl⟩
      · have c2 : ¬ (n : Int) ≤ 60 := by omega
        have c3 : fitsA xs = false := by unfold fitsA; rw [decide_eq_false (by have := HN.out; omega : ¬ xs.length ≤ 60), Bool.and_false]
        go_wp2
        go_ret
        exact ⟨rfl, rfl⟩
end Go.Proofs.Ytiloeejpjjdaeaa

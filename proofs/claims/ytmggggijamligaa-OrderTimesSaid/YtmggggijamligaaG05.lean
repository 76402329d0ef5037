import Derived.Test.YtmggggijamligaaG04
import Derived.Test.YtmggggijamligaaG02
import Derived.Deep.RegionHeld
import Derived.WalkKit
namespace Go.Proofs.Ytmggggijamligaa
set_option linter.unusedVariables false
open Go.RowKit
open Go.Lib (hid)
def RetB (e : Ending) : Prop := ∃ b : Bool, e = .returned (.bool b)
theorem lessT_at {W : World} {B R g cap n : Nat} {rc : Array Value} {L : List Tn} (h : HpAt W B R rc (.slice (some ⟨g, 0, none⟩) n cap) L) (hn : L.length = n) {i j : Nat} (hi : i < n) (hj : j < n) {r : Bool} (hr : r = ltT (atT L i) (atT L j)) : Calls Try.prog 55 #[.slice (some ⟨g, 0, none⟩) n cap, .int .i64 i, .int .i64 j] W fun e w' => e = .returned (.bool r) ∧ Below W.heap.size W w' := by
  rcases h.own.shape with ⟨hx, _⟩ | ⟨g', cap', hx, _, _, hB, hg, hR, hf⟩
  · cases hx
  have hgg : g = g' := by injection hx with h1 _ _; injection h1 with h1; injection h1
  subst hgg
  rw [hr]
  exact cLess (cap := cap) hR hn.symm (by omega) (by omega)
theorem two_less {m k c : Nat} {L : List Tn} (hc : c = 2 * k + 1) (h2 : ¬ 2 * k + 2 < m) : ∀ d, d < m → (d = 2 * k + 1 ∨ d = 2 * k + 2) → ltT (atT L d) (atT L c) = false := fun d hd h => by
  have : d = c := by omega
  subst this; rw [ltT_no]; omega
theorem two_less1 {m k : Nat} {L : List Tn} (h : ltT (atT L (2 * k + 2)) (atT L (2 * k + 1)) = false) : ∀ d, d < m → (d = 2 * k + 1 ∨ d = 2 * k + 2) → ltT (atT L d) (atT L (2 * k + 1)) = false := fun d hd h2 => by
  rcases h2 with rfl | rfl
  · rw [ltT_no]; omega
  · exact h
theorem two_less2 {m k : Nat} {L : List Tn} (h : ltT (atT L (2 * k + 2)) (atT L (2 * k + 1)) = true) : ∀ d, d < m → (d = 2 * k + 1 ∨ d = 2 * k + 2) → ltT (atT L d) (atT L (2 * k + 2)) = false := fun d hd h2 => by
  rcases h2 with rfl | rfl
  · exact lt_asym h
  · rw [ltT_no]; omega
set_option maxHeartbeats 8000000 in
set_option maxRecDepth 100000 in
theorem cDown {w : World} {B R g cap n m : Nat} {rc : Array Value} {l : List Tn} (h : HpAt w B R rc (.slice (some ⟨g, 0, none⟩) n cap) l) (hn : n = l.length) (hl : n ≤ 1000000) (hm : m ≤ n) (hu : DownInv l m 0) : Calls Try.prog 34 #[.iface 83 (.pointer (some ⟨R, 5, none⟩)), .int .i64 0, .int .i64 m] w fun e w' => RetB e ∧ ∃ l', l'.Perm l ∧ HeapTo l' m ∧ (∀ k, m ≤ k → atT l' k = atT l k) ∧ OwnT w' B (.slice (some ⟨g, 0, none⟩) n cap) l' ∧ w.grownBy w' (some g) := by
  have HH := hid h
  have HU := hid hu
  have HN := hid hn
  clear h hu hn
  go_enter Try.func34, Try.ntmps34
  go_wp2_with fail
  go_loopw [7] (fun s7 wr => ∃ (k : Nat) (L : List Tn), k ≤ m ∧ s7 = .int .i64 k ∧ Hid (L.Perm l) ∧ Hid (L.length = n) ∧ Hid (DownInv L m k) ∧ Hid (∀ k, m ≤ k → atT L k = atT l k) ∧ Hid (HpAt wr B R rc (.slice (some ⟨g, 0, none⟩) n cap) L) ∧ Hid (w.grownBy wr (some g))) (fun s7 _ => m - (RowKit.intOf s7).toNat)
  case atStart => exact ⟨0, l, Nat.zero_le _, rfl, hid (List.Perm.refl _), hid HN.out.symm, HU, hid (fun _ _ => rfl), HH, hid (grownRefl _ _)⟩
  case round =>
    obtain ⟨k, L, hk, rfl, HP, HLN, HI, HQ, HA, HG⟩ := hrel
    have hk6 : k ≤ 1000000 := by omega
    have m0 := mLess HA.out.cell
    by_cases h1 : 2 * k + 1 < m
    rotate_left
    · have h1i : ¬ (2 * (k : Int) + 1 < m) := by omega
      have h1j : (m : Int) ≤ 2 * (k : Int) + 1 := by omega
      go_wp2_with fail
      go_ret
      exact ⟨⟨_, rfl⟩, L, HP.out, down_stop0 HI.out (by omega), HQ.out, HA.out.own, HG.out⟩
    have h1i : (2 * (k : Int) + 1 < m) := by omega
    have h1j : ¬ ((m : Int) ≤ 2 * (k : Int) + 1) := by omega
    have h1k : ¬ (2 * (k : Int) + 1 < 0) := by omega
    have h1d : decide ((m : Int) ≤ 2 * (k : Int) + 1) = false := decide_eq_false h1j
    have h1e : decide (2 * (k : Int) + 1 < 0) = false := decide_eq_false h1k
    by_cases h2 : 2 * k + 2 < m
    rotate_left
    · have h2i : ¬ (2 * (k : Int) + 2 < m) := by omega
      have h2k : ¬ (2 * (k : Int) + 1 + 1 < m) := by omega
      have h2d : decide (2 * (k : Int) + 2 < m) = false := decide_eq_false h2i
      have h2e : decide (2 * (k : Int) + 1 + 1 < m) = false := decide_eq_false h2k
      obtain ⟨r, hr⟩ : ∃ r, r = ltT (atT L (2 * k + 1)) (atT L k) := ⟨_, rfl⟩
      have HR := hid hr
      clear hr
      have tkr : Hid (1 = 1) := hid rfl
      rcases r with _ | _
      · go_wp2_with (first
          | (go_at_call 55; clear tkr; refine (show Calls Try.prog 55 #[.slice (some ⟨g, 0, none⟩) n cap, .int .i64 (2 * (k : Int) + 1), .int .i64 k] _ _ from lessT_at HA.out HLN.out (i := 2 * k + 1) (j := k) (by omega) (by omega) HR.out).mono ?_; rintro e w5 ⟨rfl, hB5⟩; have HA5 := hid (HA.out.next (HA.out.own.on hB5) (grownBelow hB5 _)); have HG5 := hid (grownTrans HG.out (grownBelow hB5 (some g))); clear hB5)
          | fail)
        go_ret
        exact ⟨⟨_, rfl⟩, L, HP.out, down_stop HI.out (by omega) (two_less rfl h2) HR.out.symm, HQ.out, HA5.out.own, HG5.out⟩
      · go_wp2_with (first
          | (go_at_call 55; clear tkr; refine (show Calls Try.prog 55 #[.slice (some ⟨g, 0, none⟩) n cap, .int .i64 (2 * (k : Int) + 1), .int .i64 k] _ _ from lessT_at HA.out HLN.out (i := 2 * k + 1) (j := k) (by omega) (by omega) HR.out).mono ?_; rintro e w5 ⟨rfl, hB5⟩; have HA5 := hid (HA.out.next (HA.out.own.on hB5) (grownBelow hB5 _)); have HG5 := hid (grownTrans HG.out (grownBelow hB5 (some g))); clear hB5; have ms := mSwap HA5.out.cell)
          | (go_at_call 56; refine (show Calls Try.prog 56 #[.slice (some ⟨g, 0, none⟩) n cap, .int .i64 k, .int .i64 (2 * (k : Int) + 1)] _ _ from cSwap HA5.out.own HLN.out.symm (i := k) (j := 2 * k + 1) (by rw [HLN.out]; omega) (by rw [HLN.out]; omega)).mono ?_; rintro e w6 ⟨rfl, hO6, hG6⟩; have HO6 := hid hO6; have HG6 := hid hG6; clear hO6 hG6)
          | fail)
        go_roundw
        case rel => exact ⟨2 * k + 1, swapL L k (2 * k + 1), by omega, by first | rfl | go_num, hid ((swap_perm (by rw [HLN.out]; omega) (by rw [HLN.out]; omega)).trans HP.out), hid (by rw [swapL_len]; exact HLN.out), hid (down_next HI.out (by omega) (by omega) (by rw [HLN.out]; exact hm) (two_less rfl h2) HR.out.symm), hid (fun x hx => by rw [swap_behind (n := m) (by omega) (by omega) (by rw [HLN.out]; exact hm) x hx]; exact HQ.out x hx), hid (HA5.out.next HO6.out HG6.out), hid (grownTrans HG5.out HG6.out)⟩
        case measure => first | omega | (simp [RowKit.intOf]; omega)
    have h2i : (2 * (k : Int) + 2 < m) := by omega
    have h2k : (2 * (k : Int) + 1 + 1 < m) := by omega
    obtain ⟨s, hs⟩ : ∃ s, s = ltT (atT L (2 * k + 2)) (atT L (2 * k + 1)) := ⟨_, rfl⟩
    have HS := hid hs
    clear hs
    have tks : Hid (1 = 1) := hid rfl
    rcases s with _ | _
    · skip
      obtain ⟨r, hr⟩ : ∃ r, r = ltT (atT L (2 * k + 1)) (atT L k) := ⟨_, rfl⟩
      have HR := hid hr
      clear hr
      have tkr : Hid (1 = 1) := hid rfl
      rcases r with _ | _
      · go_wp2_with (first
          | (go_at_call 55; clear tks; refine (show Calls Try.prog 55 #[.slice (some ⟨g, 0, none⟩) n cap, .int .i64 (2 * (k : Int) + 2), .int .i64 (2 * (k : Int) + 1)] _ _ from lessT_at HA.out HLN.out (i := 2 * k + 2) (j := 2 * k + 1) (by omega) (by omega) HS.out).mono ?_; rintro e w4 ⟨rfl, hB4⟩; have HA4 := hid (HA.out.next (HA.out.own.on hB4) (grownBelow hB4 _)); have HG4 := hid (grownTrans HG.out (grownBelow hB4 (some g))); clear hB4; have m4 := mLess HA4.out.cell)
          | (go_at_call 55; clear tkr; refine (show Calls Try.prog 55 #[.slice (some ⟨g, 0, none⟩) n cap, .int .i64 (2 * (k : Int) + 1), .int .i64 k] _ _ from lessT_at HA4.out HLN.out (i := 2 * k + 1) (j := k) (by omega) (by omega) HR.out).mono ?_; rintro e w5 ⟨rfl, hB5⟩; have HA5 := hid (HA4.out.next (HA4.out.own.on hB5) (grownBelow hB5 _)); have HG5 := hid (grownTrans HG4.out (grownBelow hB5 (some g))); clear hB5)
          | fail)
        go_ret
        exact ⟨⟨_, rfl⟩, L, HP.out, down_stop HI.out (by omega) (two_less1 HS.out.symm) HR.out.symm, HQ.out, HA5.out.own, HG5.out⟩
      · go_wp2_with (first
          | (go_at_call 55; clear tks; refine (show Calls Try.prog 55 #[.slice (some ⟨g, 0, none⟩) n cap, .int .i64 (2 * (k : Int) + 2), .int .i64 (2 * (k : Int) + 1)] _ _ from lessT_at HA.out HLN.out (i := 2 * k + 2) (j := 2 * k + 1) (by omega) (by omega) HS.out).mono ?_; rintro e w4 ⟨rfl, hB4⟩; have HA4 := hid (HA.out.next (HA.out.own.on hB4) (grownBelow hB4 _)); have HG4 := hid (grownTrans HG.out (grownBelow hB4 (some g))); clear hB4; have m4 := mLess HA4.out.cell)
          | (go_at_call 55; clear tkr; refine (show Calls Try.prog 55 #[.slice (some ⟨g, 0, none⟩) n cap, .int .i64 (2 * (k : Int) + 1), .int .i64 k] _ _ from lessT_at HA4.out HLN.out (i := 2 * k + 1) (j := k) (by omega) (by omega) HR.out).mono ?_; rintro e w5 ⟨rfl, hB5⟩; have HA5 := hid (HA4.out.next (HA4.out.own.on hB5) (grownBelow hB5 _)); have HG5 := hid (grownTrans HG4.out (grownBelow hB5 (some g))); clear hB5; have ms := mSwap HA5.out.cell)
          | (go_at_call 56; refine (show Calls Try.prog 56 #[.slice (some ⟨g, 0, none⟩) n cap, .int .i64 k, .int .i64 (2 * (k : Int) + 1)] _ _ from cSwap HA5.out.own HLN.out.symm (i := k) (j := 2 * k + 1) (by rw [HLN.out]; omega) (by rw [HLN.out]; omega)).mono ?_; rintro e w6 ⟨rfl, hO6, hG6⟩; have HO6 := hid hO6; have HG6 := hid hG6; clear hO6 hG6)
          | fail)
        go_roundw
        case rel => exact ⟨2 * k + 1, swapL L k (2 * k + 1), by omega, by first | rfl | go_num, hid ((swap_perm (by rw [HLN.out]; omega) (by rw [HLN.out]; omega)).trans HP.out), hid (by rw [swapL_len]; exact HLN.out), hid (down_next HI.out (by omega) (by omega) (by rw [HLN.out]; exact hm) (two_less1 HS.out.symm) HR.out.symm), hid (fun x hx => by rw [swap_behind (n := m) (by omega) (by omega) (by rw [HLN.out]; exact hm) x hx]; exact HQ.out x hx), hid (HA5.out.next HO6.out HG6.out), hid (grownTrans HG5.out HG6.out)⟩
        case measure => first | omega | (simp [RowKit.intOf]; omega)
    · skip
      obtain ⟨r, hr⟩ : ∃ r, r = ltT (atT L (2 * k + 2)) (atT L k) := ⟨_, rfl⟩
      have HR := hid hr
      clear hr
      have tkr : Hid (1 = 1) := hid rfl
      rcases r with _ | _
      · go_wp2_with (first
          | (go_at_call 55; clear tks; refine (show Calls Try.prog 55 #[.slice (some ⟨g, 0, none⟩) n cap, .int .i64 (2 * (k : Int) + 2), .int .i64 (2 * (k : Int) + 1)] _ _ from lessT_at HA.out HLN.out (i := 2 * k + 2) (j := 2 * k + 1) (by omega) (by omega) HS.out).mono ?_; rintro e w4 ⟨rfl, hB4⟩; have HA4 := hid (HA.out.next (HA.out.own.on hB4) (grownBelow hB4 _)); have HG4 := hid (grownTrans HG.out (grownBelow hB4 (some g))); clear hB4; have m4 := mLess HA4.out.cell)
          | (go_at_call 55; clear tkr; refine (show Calls Try.prog 55 #[.slice (some ⟨g, 0, none⟩) n cap, .int .i64 (2 * (k : Int) + 2), .int .i64 k] _ _ from lessT_at HA4.out HLN.out (i := 2 * k + 2) (j := k) (by omega) (by omega) HR.out).mono ?_; rintro e w5 ⟨rfl, hB5⟩; have HA5 := hid (HA4.out.next (HA4.out.own.on hB5) (grownBelow hB5 _)); have HG5 := hid (grownTrans HG4.out (grownBelow hB5 (some g))); clear hB5)
          | fail)
        go_ret
        exact ⟨⟨_, rfl⟩, L, HP.out, down_stop HI.out (by omega) (two_less2 HS.out.symm) HR.out.symm, HQ.out, HA5.out.own, HG5.out⟩
      · go_wp2_with (first
          | (go_at_call 55; clear tks; refine (show Calls Try.prog 55 #[.slice (some ⟨g, 0, none⟩) n cap, .int .i64 (2 * (k : Int) + 2), .int .i64 (2 * (k : Int) + 1)] _ _ from lessT_at HA.out HLN.out (i := 2 * k + 2) (j := 2 * k + 1) (by omega) (by omega) HS.out).mono ?_; rintro e w4 ⟨rfl, hB4⟩; have HA4 := hid (HA.out.next (HA.out.own.on hB4) (grownBelow hB4 _)); have HG4 := hid (grownTrans HG.out (grownBelow hB4 (some g))); clear hB4; have m4 := mLess HA4.out.cell)
          | (go_at_call 55; clear tkr; refine (show Calls Try.prog 55 #[.slice (some ⟨g, 0, none⟩) n cap, .int .i64 (2 * (k : Int) + 2), .int .i64 k] _ _ from lessT_at HA4.out HLN.out (i := 2 * k + 2) (j := k) (by omega) (by omega) HR.out).mono ?_; rintro e w5 ⟨rfl, hB5⟩; have HA5 := hid (HA4.out.next (HA4.out.own.on hB5) (grownBelow hB5 _)); have HG5 := hid (grownTrans HG4.out (grownBelow hB5 (some g))); clear hB5; have ms := mSwap HA5.out.cell)
          | (go_at_call 56; refine (show Calls Try.prog 56 #[.slice (some ⟨g, 0, none⟩) n cap, .int .i64 k, .int .i64 (2 * (k : Int) + 2)] _ _ from cSwap HA5.out.own HLN.out.symm (i := k) (j := 2 * k + 2) (by rw [HLN.out]; omega) (by rw [HLN.out]; omega)).mono ?_; rintro e w6 ⟨rfl, hO6, hG6⟩; have HO6 := hid hO6; have HG6 := hid hG6; clear hO6 hG6)
          | fail)
        go_roundw
        case rel => exact ⟨2 * k + 2, swapL L k (2 * k + 2), by omega, by first | rfl | go_num, hid ((swap_perm (by rw [HLN.out]; omega) (by rw [HLN.out]; omega)).trans HP.out), hid (by rw [swapL_len]; exact HLN.out), hid (down_next HI.out (by omega) (by omega) (by rw [HLN.out]; exact hm) (two_less2 HS.out.symm) HR.out.symm), hid (fun x hx => by rw [swap_behind (n := m) (by omega) (by omega) (by rw [HLN.out]; exact hm) x hx]; exact HQ.out x hx), hid (HA5.out.next HO6.out HG6.out), hid (grownTrans HG5.out HG6.out)⟩
        case measure => first | omega | (simp [RowKit.intOf]; omega)
end Go.Proofs.Ytmggggijamligaa
namespace Go.Proofs.Ytmggggijamligaa
set_option linter.unusedVariables false
open Go.RowKit
open Go.Lib (hid)
theorem gA {α : Type _} {l : List α} {i : Nat} : l.toArray[i]? = l[i]? := by simp
theorem gB {α : Type _} {a : α} {l : List α} {i : Nat} : (a :: l)[i + 1]? = l[i]? := by simp
theorem gC {α : Type _} {a : α} {l : List α} : (a :: l)[0]? = some a := by simp
theorem gD {α : Type _} {l : List α} {i : Nat} {a : α} : l.toArray.setIfInBounds i a = (l.set i a).toArray := by simp
theorem gE {α : Type _} {a b : α} {l : List α} {i : Nat} : (a :: l).set (i + 1) b = a :: l.set i b := by simp
theorem gF {α : Type _} {a b : α} {l : List α} : (a :: l).set 0 b = b :: l := by simp
theorem wantedP {o : Oper} {y : Nat → Option Bool} (hg : o.guard = none) : Region.wanted o y = true := by
  unfold Region.wanted; rw [hg]
section
variable {P : Program} {md : Region.Mode} {S : World → Prop} {ops : Array Oper} {fuel : Nat} {listed : Array Bool} {a : Act} {w : World} {Q : Exit → Act → World → Prop}
theorem d0 {id : Nat} (S : World → Prop) (n : Nat) (l : Array Bool) (h : wpAnyH P .any ops Q S n l a w.drew) (hm : P.follows .mixedOrders = true := by kernel_rfl) (hn : ops.size = n := by rfl) (hl : Array.replicate n false = l := by rfl) : (Code.region id ops true).wp P Q a w := by
  subst hn hl
  exact wp_region_held hm h
theorem dt (i : Nat) {o : Oper} {v : Value} {l' : Array Bool} {a' : Act} (hS : S w) (h : wpAnyH P md ops Q S fuel l' a' w) (hi : ops[i]? = some o := by (simp only [gA, gB, gC]; try rfl)) (hl : listed.setIfInBounds i true = l' := by (simp only [gD, gE, gF]; try rfl))
    (hv : ∀ w, S w → (execOp a.eval o).run P w = .ok (.value v) w := by (intro W hW; go_simp; try with_reducible rfl)) (ha : a.put o.dst v = a' := by (simp only [Act.put, gD, gE, gF]; try rfl))
    (hw : Region.wanted o (yielded ops a.tmps) = true := by rfl) (hQ : ∀ c a w, Q (.panic c) (a.put o.dst v) w → Q (.panic c) a w := by exact fun _ _ _ h => h)
    (hs : Region.noSelect ops = true := by kernel_rfl) (hf : Region.free md ops listed i = true := by kernel_rfl) (hr : (Region.ready md ops listed).contains i = true := by kernel_rfl) : wpAnyH P md ops Q S (fuel + 1) listed a w := by
  subst hl ha
  exact wpAnyH_take hi hs hf hr hQ (.inl ⟨hw, hv⟩) hS h
theorem dl (i : Nat) (cs : List Value) (b q : Nat) {o : Oper} {T : TypeId} {x : Operand} {d : TypeDesc} {l' : Array Bool} {a' : Act} (hc : ∀ w, S w → w.rangeAt b q cs) (hu : P.underlying T = some d) (hS : S w) (h : wpAnyH P md ops Q S fuel l' a' w) (hi : ops[i]? = some o := by (simp only [gA, gB, gC]; try rfl)) (hl : listed.setIfInBounds i true = l' := by (simp only [gD, gE, gF]; try rfl)) (ho : o.op = .load T x := by rfl) (hx : a.eval x = .pointer (some ⟨b, q, none⟩) := by rfl) (ha : a.put o.dst (.agg cs.toArray) = a' := by (simp only [Act.put, gD, gE, gF]; try rfl)) (hd : d.isRow = true := by rfl) (hz : (P.info? T).map (·.size) = some cs.length := by kernel_rfl)
    (hg : o.guard = none := by rfl) (hQ : ∀ c a w, Q (.panic c) (a.put o.dst (.agg cs.toArray)) w → Q (.panic c) a w := by exact fun _ _ _ h => h)
    (hs : Region.noSelect ops = true := by kernel_rfl) (hf : Region.free md ops listed i = true := by kernel_rfl) (hr : (Region.ready md ops listed).contains i = true := by kernel_rfl) : wpAnyH P md ops Q S (fuel + 1) listed a w := by
  subst hl ha
  exact wpAnyH_take hi hs hf hr hQ (yieldsIf_load_mid (wantedP hg) T x ho b q hx cs d hc hu hd hz) hS h
theorem dop (i : Nat) {o : Oper} {l' : Array Bool} (h : ∀ K' : Act → World → Prop, Shut (∀ a w, S w → wpAnyH P md ops Q S fuel l' a w → K' a w) → Oper.wp P o a w K' Q) (hi : ops[i]? = some o := by (simp only [gA, gB, gC]; try rfl)) (hl : listed.setIfInBounds i true = l' := by (simp only [gD, gE, gF]; try rfl)) (hg : o.guard = none := by rfl) (hr : Region.ready md ops listed = [i] := by kernel_rfl) : wpAnyH P md ops Q S (fuel + 1) listed a w := by
  subst hl
  refine wpAnyH_ready hr (by simp) (AllReadyH.cons hi (fun K' hK => ?_) AllReadyH.nil)
  rw [if_pos (wantedP hg)]
  exact h K' (fun a w h1 h2 => hK.out a w h1 (fun _ => h2))
end
end Go.Proofs.Ytmggggijamligaa

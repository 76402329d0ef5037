/- The live question of layer 3: its answer is yes. -/
import Derived.Test.YtpocfhcdffobhaaMinusC
import Derived.Test.YtpocfhcdffobhaaRise
import Derived.Deep.RegionHeld3
namespace Go.Proofs.Ytpocfhcdffobhaa
set_option linter.unusedVariables false
open Go.RowKit
open Go.Lib (hid)

abbrev cA : C7 := ⟨17, 1, 0, 16, 0, 0, 0⟩
abbrev cB : C7 := ⟨16, 1, 0, 17, 0, 0, 0⟩
abbrev cD : C7 := ⟨17, 1, 0, 18, 0, 0, 0⟩
theorem Sl.of_flat {W : World} {g n cap : Nat} {cs : List C7} (hn : n = cs.length) (hg : g < W.heap.size) (h : ∀ (j : Nat) u, (flat cs)[j]? = some u → W.cell? ⟨g, j, none⟩ = some u) : Sl W (.slice (some ⟨g, 0, none⟩) n cap) cs := by
  subst hn
  refine ⟨g, 0, cap, _, rfl, (fun e => by cases e), fun _ => rfl, fun j c hc f v hv => ?_, fun _ => hg⟩
  rw [Nat.zero_add]; exact h _ _ (flat_at cs j c hc f v hv)
theorem Sl.made {W : World} {g n cap : Nat} {cs : List C7} (hn : n = cs.length) (hg : g = W.heap.size) : Sl (W.alloc (.cells (flat cs).toArray 34)) (.slice (some ⟨g, 0, none⟩) n cap) cs := by
  subst hg
  exact Sl.of_flat hn (by simp) fun j u hu => by rw [World.cell?_alloc_new, List.getElem?_toArray]; exact hu
theorem of1 {W : World} {v : Value} (hs : Sl W v [cA, cB, cA]) : Calls Try.prog 6 #[v] W fun e w' => ∃ g cap, e = .returned (.tuple #[.slice (some ⟨g, 0, none⟩) 2 cap, .int .i64 0]) ∧ Own w' W.heap.size (.slice (some ⟨g, 0, none⟩) 2 cap) [cB, cA] ∧ Below W.heap.size W w' := by
  refine (cOf hs (by decide)).mono ?_
  rintro e w' ⟨r, rfl, hown, hB⟩
  have e1 : ofE [cA, cB, cA] = 0 := by decide
  have e2 : ofL [cA, cB, cA] = [cB, cA] := by decide
  rw [e2] at hown
  rcases hown.shape with ⟨_, h⟩ | ⟨g, cap, rfl, _⟩
  · cases h
  · exact ⟨g, cap, by rw [e1]; rfl, hown, hB⟩
theorem of2 {W : World} {v : Value} (hs : Sl W v [cA, cD]) : Calls Try.prog 6 #[v] W fun e w' => ∃ r, e = .returned (.tuple #[r, .int .i64 6]) ∧ Below W.heap.size W w' := by
  refine (cOf hs (by decide)).mono ?_
  rintro e w' ⟨r, rfl, hown, hB⟩
  have e1 : ofE [cA, cD] = 6 := by decide
  exact ⟨r, by rw [e1], hB⟩
theorem min1 {W : World} {v v' : Value} (hs : Sl W v [cB, cA]) (hs' : Sl W v' [cA]) : Calls Try.prog 13 #[v, v'] W fun e w' => ∃ g cap, e = .returned (.slice g 1 cap) ∧ Below W.heap.size W w' := by
  refine (cMinus hs hs' (by decide) (by decide)).mono ?_
  rintro e w' ⟨r, rfl, hown, hB⟩
  have e2 : minusL [cB, cA] [cA] = [cB] := by decide
  rw [e2] at hown
  obtain ⟨g, cap, n, rfl, rfl⟩ := hown.asSlice
  exact ⟨g, cap, rfl, hB⟩
theorem right1 {W : World} {v : Value} (hs : Sl W v [cB, cA]) : Calls Try.prog 18 #[v] W fun e w' => e = .returned (.bool true) ∧ Below W.heap.size W w' := by
  have := cSetRight hs (by decide)
  rwa [show setB [cB, cA] = true from by decide] at this

theorem alive_box {w w1 : World} {xs ys : Array Value} {T : TypeId} {o : Obj} (h : Below (((w.alloc (.cells xs T)).alloc (.cells ys T)).alloc o).heap.size (((w.alloc (.cells xs T)).alloc (.cells ys T)).alloc o) w1) :
    (∀ f, w1.cell? ⟨w.heap.size, f, none⟩ = xs[f]?) ∧ (∀ f, w1.cell? ⟨w.heap.size + 1, f, none⟩ = ys[f]?) ∧ w.heap.size + 3 ≤ w1.heap.size ∧ Below w.heap.size w w1 := by
  have hs := h.size
  simp at hs
  refine ⟨fun f => ?_, fun f => ?_, by omega, ((((Below.refl _ _).alloc (Nat.le_refl _) _).alloc (by simp) _).alloc (by simp; omega) _).trans (h.mono (by simp; omega))⟩
  · rw [h.cell (p := ⟨w.heap.size, f, none⟩) (by simp; omega)]
    rw [World.cell?_alloc_past _ _ _ (by simp; omega), World.cell?_alloc_past _ _ _ (by simp), World.cell?_alloc_new]
  · rw [h.cell (p := ⟨w.heap.size + 1, f, none⟩) (by simp)]
    rw [World.cell?_alloc_past _ _ _ (by simp), World.cell?_alloc_at _ _ _ _ (by simp)]
/-- What the last question reads. -/
def AliveS (w : World) (g n : Nat) (W : World) : Prop := n ≤ W.heap.size ∧ Below w.heap.size w W ∧
  W.cell? ⟨w.heap.size, 0, none⟩ = some (.int .i64 17) ∧
  W.cell? ⟨w.heap.size, 1, none⟩ = some (.int .i64 1) ∧
  W.cell? ⟨w.heap.size, 2, none⟩ = some (.int .i64 0) ∧
  W.cell? ⟨w.heap.size, 3, none⟩ = some (.int .i64 16) ∧
  W.cell? ⟨w.heap.size, 4, none⟩ = some (.int .i64 0) ∧
  W.cell? ⟨w.heap.size, 5, none⟩ = some (.int .i64 0) ∧
  W.cell? ⟨w.heap.size, 6, none⟩ = some (.int .i64 0) ∧
  W.cell? ⟨w.heap.size + 1, 0, none⟩ = some (.int .i64 16) ∧
  W.cell? ⟨w.heap.size + 1, 1, none⟩ = some (.int .i64 1) ∧
  W.cell? ⟨w.heap.size + 1, 2, none⟩ = some (.int .i64 0) ∧
  W.cell? ⟨w.heap.size + 1, 3, none⟩ = some (.int .i64 17) ∧
  W.cell? ⟨w.heap.size + 1, 4, none⟩ = some (.int .i64 0) ∧
  W.cell? ⟨w.heap.size + 1, 5, none⟩ = some (.int .i64 0) ∧
  W.cell? ⟨w.heap.size + 1, 6, none⟩ = some (.int .i64 0) ∧
  W.cell? ⟨g, 0, none⟩ = some (.int .i64 16) ∧
  W.cell? ⟨g, 1, none⟩ = some (.int .i64 1) ∧
  W.cell? ⟨g, 2, none⟩ = some (.int .i64 0) ∧
  W.cell? ⟨g, 3, none⟩ = some (.int .i64 17) ∧
  W.cell? ⟨g, 4, none⟩ = some (.int .i64 0) ∧
  W.cell? ⟨g, 5, none⟩ = some (.int .i64 0) ∧
  W.cell? ⟨g, 6, none⟩ = some (.int .i64 0) ∧
  W.cell? ⟨g, 7, none⟩ = some (.int .i64 17) ∧
  W.cell? ⟨g, 8, none⟩ = some (.int .i64 1) ∧
  W.cell? ⟨g, 9, none⟩ = some (.int .i64 0) ∧
  W.cell? ⟨g, 10, none⟩ = some (.int .i64 16) ∧
  W.cell? ⟨g, 11, none⟩ = some (.int .i64 0) ∧
  W.cell? ⟨g, 12, none⟩ = some (.int .i64 0) ∧
  W.cell? ⟨g, 13, none⟩ = some (.int .i64 0)
theorem AliveS.on {w : World} {g n : Nat} {W W' : World} (h : AliveS w g n W) (h1 : w.heap.size + 1 < n) (h2 : g < n) (h0 : w.heap.size ≤ n) (hb : Below n W W') : AliveS w g n W' := by
  have ha := fun f => hb.cell (p := ⟨w.heap.size, f, none⟩) (show w.heap.size < n by omega)
  have hb' := fun f => hb.cell (p := ⟨w.heap.size + 1, f, none⟩) (show w.heap.size + 1 < n from h1)
  have hg := fun f => hb.cell (p := ⟨g, f, none⟩) (show g < n from h2)
  unfold AliveS at *
  simp only [ha, hb', hg]
  exact ⟨Nat.le_trans h.1 hb.size, h.2.1.trans (hb.mono h0), h.2.2⟩

theorem AliveS.sl {w : World} {g n : Nat} {W : World} (h : AliveS w g n W) (h2 : g < n) (cap : Nat) : Sl W (.slice (some ⟨g, 0, none⟩) 2 cap) [cB, cA] := by
  obtain ⟨hn, _, _, _, _, _, _, _, _, _, _, _, _, _, _, _, l0, l1, l2, l3, l4, l5, l6, l7, l8, l9, l10, l11, l12, l13⟩ := h
  refine Sl.of_flat rfl (by omega) fun j u hu => ?_
  match j, hu with
  | 0, hu => cases (show some (Value.int .i64 16) = some u from hu); exact l0
  | 1, hu => cases (show some (Value.int .i64 1) = some u from hu); exact l1
  | 2, hu => cases (show some (Value.int .i64 0) = some u from hu); exact l2
  | 3, hu => cases (show some (Value.int .i64 17) = some u from hu); exact l3
  | 4, hu => cases (show some (Value.int .i64 0) = some u from hu); exact l4
  | 5, hu => cases (show some (Value.int .i64 0) = some u from hu); exact l5
  | 6, hu => cases (show some (Value.int .i64 0) = some u from hu); exact l6
  | 7, hu => cases (show some (Value.int .i64 17) = some u from hu); exact l7
  | 8, hu => cases (show some (Value.int .i64 1) = some u from hu); exact l8
  | 9, hu => cases (show some (Value.int .i64 0) = some u from hu); exact l9
  | 10, hu => cases (show some (Value.int .i64 16) = some u from hu); exact l10
  | 11, hu => cases (show some (Value.int .i64 0) = some u from hu); exact l11
  | 12, hu => cases (show some (Value.int .i64 0) = some u from hu); exact l12
  | 13, hu => cases (show some (Value.int .i64 0) = some u from hu); exact l13
  | _ + 14, hu => cases hu

set_option maxHeartbeats 1600000 in
set_option maxRecDepth 100000 in
theorem cAlive (w : World) : Calls Try.prog 5 #[] w fun e w' => e = .returned (.bool true) ∧ Below w.heap.size w w' := by
  go_enter Try.func5, Try.ntmps5
  go_wp2_with fail
  go_at_call 6
  refine (of1 (Sl.made rfl (by simp))).mono ?_
  rintro e w1 ⟨g, cap, rfl, hown, hB1⟩
  obtain ⟨hx, hy, hz, hW⟩ := alive_box hB1
  have a0 : w1.cell? ⟨w.heap.size, 0, none⟩ = some (.int .i64 17) := hx 0
  have a1 : w1.cell? ⟨w.heap.size, 1, none⟩ = some (.int .i64 1) := hx 1
  have a2 : w1.cell? ⟨w.heap.size, 2, none⟩ = some (.int .i64 0) := hx 2
  have a3 : w1.cell? ⟨w.heap.size, 3, none⟩ = some (.int .i64 16) := hx 3
  have a4 : w1.cell? ⟨w.heap.size, 4, none⟩ = some (.int .i64 0) := hx 4
  have a5 : w1.cell? ⟨w.heap.size, 5, none⟩ = some (.int .i64 0) := hx 5
  have a6 : w1.cell? ⟨w.heap.size, 6, none⟩ = some (.int .i64 0) := hx 6
  have H1 := hid (And.intro hown (And.intro hB1 (And.intro hx (And.intro hy hW))))
  clear hown hB1 hx hy hW
  go_wp2_with fail
  go_at_call 6
  refine (of2 (Sl.made rfl rfl)).mono ?_
  rintro e w2 ⟨r2, rfl, hB2⟩
  obtain ⟨n, hn⟩ : ∃ n, n = w2.heap.size := ⟨_, rfl⟩
  have hs2 := hB2.size
  simp at hs2
  have hB12 : Below w1.heap.size w1 w2 := ((Below.refl _ _).alloc (Nat.le_refl _) _).trans (hB2.mono (by simp))
  obtain ⟨hown, hB1, hx, hy, hW⟩ := H1.out
  have hgl := hown.lt g rfl
  have hS0 : AliveS w g n w2 := by
    rcases hown.shape with ⟨h, _⟩ | ⟨g', cap', h, _, _, hc⟩
    · cases h
    cases h
    have hx' := fun f => (hB12.cell (p := ⟨w.heap.size, f, none⟩) (show w.heap.size < w1.heap.size by omega)).trans (hx f)
    have hy' := fun f => (hB12.cell (p := ⟨w.heap.size + 1, f, none⟩) (show w.heap.size + 1 < w1.heap.size by omega)).trans (hy f)
    have hc' : ∀ (j : Nat) u, (flat [cB, cA])[j]? = some u → w2.cell? ⟨g, j, none⟩ = some u := fun j u hu => by
      obtain ⟨c, hj, hv⟩ := flat_of _ j u hu
      have := hc _ _ hj _ _ hv
      rw [show 0 + (j / 7 * 7 + j % 7) = j by omega] at this
      rw [hB12.cell (p := ⟨g, j, none⟩) hgl.2]; exact this
    exact ⟨by omega, hW.trans (hB12.mono (by omega)), hx' 0, hx' 1, hx' 2, hx' 3, hx' 4, hx' 5, hx' 6, hy' 0, hy' 1, hy' 2, hy' 3, hy' 4, hy' 5, hy' 6, hc' 0 _ rfl, hc' 1 _ rfl, hc' 2 _ rfl, hc' 3 _ rfl, hc' 4 _ rfl, hc' 5 _ rfl, hc' 6 _ rfl, hc' 7 _ rfl, hc' 8 _ rfl, hc' 9 _ rfl, hc' 10 _ rfl, hc' 11 _ rfl, hc' 12 _ rfl, hc' 13 _ rfl⟩
  have HK := hid (fun (W W' : World) (h : AliveS w g n W) (hb : Below n W W') => h.on (by omega) (by omega) (by omega) hb)
  have hgn : g < n := by omega
  have HR := hid (fun (W : World) (hS : AliveS w g n W) => (right1 (hS.sl hgn cap)).mono (fun e w' (h : e = .returned (.bool true) ∧ Below W.heap.size W w') => And.intro h.1 (HK.out W w' hS (h.2.mono hS.1))))
  have HM := hid (fun (W : World) (hS : AliveS w g n W) => (min1 ((hS.sl hgn cap).on ((Below.refl _ W).alloc (Nat.le_refl _) (.cells (flat [cA]).toArray 34))) (Sl.made (g := W.heap.size) (n := 1) (cap := 1) rfl rfl)).mono (fun e w' (h : ∃ q c, e = .returned (.slice q 1 c) ∧ Below (W.alloc (.cells (flat [cA]).toArray 34)).heap.size (W.alloc (.cells (flat [cA]).toArray 34)) w') => (show ∃ q c, e = .returned (.slice q 1 c) ∧ AliveS w g n w' from by
    obtain ⟨q, c, he, hb⟩ := h
    exact ⟨q, c, he, HK.out _ w' hS (((Below.refl n W).alloc hS.1 _).trans (hb.mono (by have := hS.1; simp; omega)))⟩)))
  have HS0 := hid hS0
  obtain ⟨hn0, _, a0, a1, a2, a3, a4, a5, a6, b0, b1, b2, b3, b4, b5, b6, l0, l1, l2, l3, l4, l5, l6, l7, l8, l9, l10, l11, l12, l13⟩ := hS0
  clear hown hB1 hx hy hW hB2 hB12 hs2 hn H1
  go_wp2_with fail
  go_region_held3 (fun W => n ≤ W.heap.size ∧ Below w.heap.size w W ∧ W.cell? ⟨w.heap.size, 0, none⟩ = some (.int .i64 17) ∧ W.cell? ⟨w.heap.size, 1, none⟩ = some (.int .i64 1) ∧ W.cell? ⟨w.heap.size, 2, none⟩ = some (.int .i64 0) ∧ W.cell? ⟨w.heap.size, 3, none⟩ = some (.int .i64 16) ∧ W.cell? ⟨w.heap.size, 4, none⟩ = some (.int .i64 0) ∧ W.cell? ⟨w.heap.size, 5, none⟩ = some (.int .i64 0) ∧ W.cell? ⟨w.heap.size, 6, none⟩ = some (.int .i64 0) ∧ W.cell? ⟨w.heap.size + 1, 0, none⟩ = some (.int .i64 16) ∧ W.cell? ⟨w.heap.size + 1, 1, none⟩ = some (.int .i64 1) ∧ W.cell? ⟨w.heap.size + 1, 2, none⟩ = some (.int .i64 0) ∧ W.cell? ⟨w.heap.size + 1, 3, none⟩ = some (.int .i64 17) ∧ W.cell? ⟨w.heap.size + 1, 4, none⟩ = some (.int .i64 0) ∧ W.cell? ⟨w.heap.size + 1, 5, none⟩ = some (.int .i64 0) ∧ W.cell? ⟨w.heap.size + 1, 6, none⟩ = some (.int .i64 0) ∧ W.cell? ⟨g, 0, none⟩ = some (.int .i64 16) ∧ W.cell? ⟨g, 1, none⟩ = some (.int .i64 1) ∧ W.cell? ⟨g, 2, none⟩ = some (.int .i64 0) ∧ W.cell? ⟨g, 3, none⟩ = some (.int .i64 17) ∧ W.cell? ⟨g, 4, none⟩ = some (.int .i64 0) ∧ W.cell? ⟨g, 5, none⟩ = some (.int .i64 0) ∧ W.cell? ⟨g, 6, none⟩ = some (.int .i64 0) ∧ W.cell? ⟨g, 7, none⟩ = some (.int .i64 17) ∧ W.cell? ⟨g, 8, none⟩ = some (.int .i64 1) ∧ W.cell? ⟨g, 9, none⟩ = some (.int .i64 0) ∧ W.cell? ⟨g, 10, none⟩ = some (.int .i64 16) ∧ W.cell? ⟨g, 11, none⟩ = some (.int .i64 0) ∧ W.cell? ⟨g, 12, none⟩ = some (.int .i64 0) ∧ W.cell? ⟨g, 13, none⟩ = some (.int .i64 0)) (first | exact HK.out _ _ HS0.out ((Below.refl _ _).drew) | assumption | exact HK.out _ _ (by assumption) ((Below.refl _ _).alloc (show AliveS w g n _ by assumption).1 _)) (first | (go_at_call 18; refine (HR.out _ (by assumption)).mono ?_; rintro e w3 ⟨rfl, hS3⟩) | (go_at_call 13; refine (HM.out _ (by assumption)).mono ?_; rintro e w4 ⟨q, c, rfl, hS4⟩))
  go_wp2
  go_ret
  exact ⟨rfl, (show AliveS w g n _ from by assumption).2.1⟩
end Go.Proofs.Ytpocfhcdffobhaa

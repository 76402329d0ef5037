/- Rows of orders, and of fills, of the program's own; slices.IndexFunc, slices.Clone at orders. -/
import Derived.Test.YtdgllpfccdbdnaaBMath
import Derived.Deep.LoopGhost
import Derived.Shelf.RegionOpenPlain
namespace Go.Proofs.Ytdgllpfccdbdnaa
set_option linter.unusedVariables false
open Go.RowKit
open Go.Lib (hid)

theorem Try.infoO : (Try.prog.info? 52).map (fun i => (i.zero, i.size, i.bytes)) = some (some (.agg #[.int .i64 0, .int .i64 0, .int .i64 0, .int .i64 0]), 4, 32) := by kernel_rfl
theorem Try.infoF : (Try.prog.info? 55).map (fun i => (i.zero, i.size, i.bytes)) = some (some (.agg #[.int .i64 0, .int .i64 0, .int .i64 0]), 3, 24) := by kernel_rfl
theorem kO : ∀ x : Od, x.cells.length = 4 := fun _ => rfl
theorem kF : ∀ x : Fl, x.cells.length = 3 := fun _ => rfl
theorem oneO (x : Od) : ∀ u ∈ x.cells, u.oneCell' = true := fun u hu => by
  simp at hu; rcases hu with rfl | rfl | rfl | rfl <;> rfl
theorem oneF (x : Fl) : ∀ u ∈ x.cells, u.oneCell' = true := fun u hu => by
  simp at hu; rcases hu with rfl | rfl | rfl <;> rfl
/-- A row of orders, of fills, that the calls made. -/
abbrev OwnO (w : World) (B : Nat) (v : Value) (l : List Od) : Prop := OwnG Od.cells 4 52 w B v l
abbrev OwnF (w : World) (B : Nat) (v : Value) (l : List Fl) : Prop := OwnG Fl.cells 3 55 w B v l
theorem OwnO.shape {w : World} {B : Nat} {v : Value} {l : List Od} (h : OwnO w B v l) :
    (v = .slice none 0 0 ∧ l = []) ∨ ∃ g cap, v = .slice (some ⟨g, 0, none⟩) l.length cap ∧ l.length ≤ cap ∧ cap ≤ maxLen ∧ B ≤ g ∧ g < w.heap.size ∧
      (∀ (j : Nat) o, l[j]? = some o → w.cell? ⟨g, j * 4, none⟩ = some (.int .i64 o.i) ∧ w.cell? ⟨g, j * 4 + 1, none⟩ = some (.int .i64 o.s) ∧ w.cell? ⟨g, j * 4 + 2, none⟩ = some (.int .i64 o.p) ∧ w.cell? ⟨g, j * 4 + 3, none⟩ = some (.int .i64 o.n)) ∧
      ∀ j, w.frozen? ⟨g, j, none⟩ = false := by
  have hl := h.lt
  have h1 := h
  have hcl := fun g (hg : v.ownBlock = some g) => h.cells hg
  rcases h.2 with ⟨rfl, h0⟩ | ⟨g, cap, cur, rfl, hb, hg, hn, hm, hs, ht⟩
  · exact .inl ⟨rfl, List.length_eq_zero_iff.1 h0⟩
  · refine .inr ⟨g, cap, rfl, hn, hm, hb, (hl g rfl).2, fun j o hj => ?_, fun j => h1.frozenAt j⟩
    have hat := fun f u hu => hcl g rfl _ _ (flatG_at kO l j o hj f u hu)
    simp only [addr_add] at hat
    exact ⟨hat 0 _ rfl, hat 1 _ rfl, hat 2 _ rfl, hat 3 _ rfl⟩
theorem OwnF.shape {w : World} {B : Nat} {v : Value} {l : List Fl} (h : OwnF w B v l) :
    (v = .slice none 0 0 ∧ l = []) ∨ ∃ g cap, v = .slice (some ⟨g, 0, none⟩) l.length cap ∧ l.length ≤ cap ∧ cap ≤ maxLen ∧ B ≤ g ∧ g < w.heap.size ∧
      (∀ (j : Nat) o, l[j]? = some o → w.cell? ⟨g, j * 3, none⟩ = some (.int .i64 o.i) ∧ w.cell? ⟨g, j * 3 + 1, none⟩ = some (.int .i64 o.p) ∧ w.cell? ⟨g, j * 3 + 2, none⟩ = some (.int .i64 o.q)) ∧
      ∀ j, w.frozen? ⟨g, j, none⟩ = false := by
  have hl := h.lt
  have h1 := h
  have hcl := fun g (hg : v.ownBlock = some g) => h.cells hg
  rcases h.2 with ⟨rfl, h0⟩ | ⟨g, cap, cur, rfl, hb, hg, hn, hm, hs, ht⟩
  · exact .inl ⟨rfl, List.length_eq_zero_iff.1 h0⟩
  · refine .inr ⟨g, cap, rfl, hn, hm, hb, (hl g rfl).2, fun j o hj => ?_, fun j => h1.frozenAt j⟩
    have hat := fun f u hu => hcl g rfl _ _ (flatG_at kF l j o hj f u hu)
    simp only [addr_add] at hat
    exact ⟨hat 0 _ rfl, hat 1 _ rfl, hat 2 _ rfl⟩
theorem OwnG.lt {α : Type} {cl : α → List Value} {K : Nat} {T : TypeId} {w : World} {B : Nat} {v : Value} {xs : List α} (h : OwnG cl K T w B v xs) : ∀ k, v.ownBlock = some k → B ≤ k ∧ k < w.heap.size := World.ownsRow.lt h

/-- The first place at which p holds; -1: nowhere. -/
def idxO (p : Od → Bool) (l : List Od) : Int := if l.findIdx p < l.length then (l.findIdx p : Int) else -1
theorem idxO_hit {p : Od → Bool} {l : List Od} {k : Nat} {o : Od} (hk : l[k]? = some o) (ho : p o = true) (hn : ∀ j, j < k → ∀ x, l[j]? = some x → p x = false) : idxO p l = k := by
  obtain ⟨hlt, rfl⟩ := List.getElem?_eq_some_iff.1 hk
  have : l.findIdx p = k := by
    rw [List.findIdx_eq hlt]
    exact ⟨ho, fun j hj => by
      have := hn j hj _ (List.getElem?_eq_getElem (by omega)); simpa using this⟩
  unfold idxO; rw [this, if_pos hlt]
theorem idxO_miss {p : Od → Bool} {l : List Od} (hn : ∀ j, j < l.length → ∀ x, l[j]? = some x → p x = false) : idxO p l = -1 := by
  have : l.findIdx p = l.length := by
    rw [List.findIdx_eq_length]
    intro x hx
    obtain ⟨j, hj, rfl⟩ := List.mem_iff_getElem.1 hx
    simpa using hn j hj _ (List.getElem?_eq_getElem hj)
  unfold idxO; rw [this, if_neg (by omega)]
theorem idxO_next {p : Od → Bool} {l : List Od} {k : Nat} (h : ∀ j, j < k → ∀ x, l[j]? = some x → p x = false) {o : Od} (hk : l[k]? = some o) (ho : p o = false) : ∀ j, j < k + 1 → ∀ x, l[j]? = some x → p x = false := fun j hj x hx => by
  by_cases e : j = k
  · subst e; rw [hk] at hx; rw [← Option.some.inj hx]; exact ho
  · exact h j (by omega) x hx

set_option maxHeartbeats 1600000 in
set_option maxRecDepth 100000 in
theorem cIndexFunc {w : World} {B : Nat} {v : Value} {l : List Od} (h : OwnO w B v l) (hl : l.length ≤ 1000000) (p : Od → Bool) (g : Nat) (lb : Array Value) (eg : ∀ args w, (callFunc g args).run Try.prog w = .ok (.enter g args) w)
    (hp : ∀ (W : World) (x : Od), Below w.heap.size w W → Calls Try.prog g (#[x.v] ++ lb) W fun e w' => e = .returned (.bool (p x)) ∧ Below w.heap.size w w') :
    Calls Try.prog 62 #[v, .func (.func g) #[] lb] w fun e w' => e = .returned (.int .i64 (idxO p l)) ∧ Below w.heap.size w w' := by
  rcases h.shape with ⟨rfl, rfl⟩ | ⟨b, cap, rfl, hn, hm, hB, hb, hc, _⟩
  · clear h
    go_enter Try.func62, Try.ntmps62
    go_wp2
    go_loopg [5, 8] 0 (fun gg _ s8 wr => s8 = .int .i64 0 ∧ wr = w)
    case atStart => exact ⟨rfl, rfl⟩
    case round =>
      obtain ⟨rfl, rfl⟩ := hrel
      go_wp2
      go_ret
      exact ⟨rfl, Below.refl _ _⟩
  · clear h
    have HC := hid hc
    have HP := hid hp
    obtain ⟨n, hnl⟩ : ∃ n, n = l.length := ⟨_, rfl⟩
    rw [← hnl] at hl hn ⊢
    have HN := hid hnl
    clear hc hp hnl hm
    go_enter Try.func62, Try.ntmps62
    go_wp2
    go_loopg [5, 8] n (fun gg _ s8 wr => ∃ kk : Nat, kk ≤ n ∧ n - kk ≤ gg ∧ s8 = .int .i64 kk ∧ Hid (Below w.heap.size w wr) ∧ Hid (∀ j, j < kk → ∀ x, l[j]? = some x → p x = false))
    case atStart => exact ⟨0, Nat.zero_le _, by omega, rfl, hid (Below.refl _ w), hid fun j hj => absurd hj (Nat.not_lt_zero _)⟩
    case round =>
      obtain ⟨kk, hkk, hg, rfl, BW, A⟩ := hrel
      by_cases hlt : kk < n
      · have hltz : (kk : Int) < (n : Int) := by omega
        obtain ⟨x, hx⟩ : ∃ x, l[kk]? = some x := ⟨l[kk]'(by rw [← HN.out]; exact hlt), List.getElem?_eq_getElem (by rw [← HN.out]; exact hlt)⟩
        obtain ⟨k0, k1, k2, k3⟩ := HC.out kk x hx
        have d0 := (BW.out.cell (p := ⟨b, kk * 4, none⟩) hb).trans k0
        have d1 := (BW.out.cell (p := ⟨b, kk * 4 + 1, none⟩) hb).trans k1
        have d2 := (BW.out.cell (p := ⟨b, kk * 4 + 2, none⟩) hb).trans k2
        have d3 := (BW.out.cell (p := ⟨b, kk * 4 + 3, none⟩) hb).trans k3
        have HX := hid hx
        have hcall := HP.out wr x BW.out
        clear hx k0 k1 k2 k3
        cases hq : p x with
        | true =>
          rw [hq] at hcall
          have HQ := hid hq
          have HCL := hid hcall
          clear hq hcall
          go_wp2_with (go_at_fn g; refine HCL.out.mono ?_; rintro e w' ⟨rfl, hb'⟩)
          go_ret
          exact ⟨ret_int (idxO_hit HX.out HQ.out A.out).symm, hb'⟩
        | false =>
          rw [hq] at hcall
          have HQ := hid hq
          have HCL := hid hcall
          clear hq hcall
          go_wp2_with (go_at_fn g; refine HCL.out.mono ?_; rintro e w' ⟨rfl, hb'⟩)
          go_roundg (n - (kk + 1))
          case measure => omega
          case rel => exact ⟨kk + 1, by omega, by omega, by go_num, hid hb', hid (idxO_next A.out HX.out HQ.out)⟩
      · have hltz : ¬ (kk : Int) < (n : Int) := by omega
        have HE : Hid (idxO p l = -1) := hid (idxO_miss fun j hj => A.out j (by have := HN.out; omega))
        go_wp2
        go_ret
        exact ⟨ret_int HE.out.symm, BW.out⟩
end Go.Proofs.Ytdgllpfccdbdnaa

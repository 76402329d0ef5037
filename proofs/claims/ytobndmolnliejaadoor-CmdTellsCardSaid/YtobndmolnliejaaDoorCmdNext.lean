/- The reader of words: the contract of next: it hands the first word over, or the empty one. -/
import Derived.Test.YtobndmolnliejaaDoorCmdWorld
import Derived.Outline
import Derived.Deep.Light
namespace Go.Proofs.YtobndmolnliejaaDoor
open Go.RowKit Go.Lib

/-- Block bw is a reader with the words ws left, and 'wrong' g. -/
def WordsAt (w : World) (bw : Nat) (ws : List (List UInt8)) (g : Bool) : Prop :=
  ∃ b o cap, w.heap[bw]? = some (.cells #[.slice (some ⟨b, o, none⟩) ws.length cap, .bool g] 55 (0, 0)) ∧ ws.length ≤ cap ∧ cap ≤ 1000 ∧ b ≠ bw ∧ Strs w b o ws

theorem cells_at {w : World} {b : Nat} {xs : Array Value} {T : TypeId} (h : w.heap[b]? = some (.cells xs T (0, 0))) : (∀ o, w.cell? ⟨b, o, none⟩ = xs[o]?) ∧ (∀ o, xs[o]?.isSome = true → w.frozen? ⟨b, o, none⟩ = false) := by
  refine ⟨fun o => ?_, fun o _ => ?_⟩
  · simp [World.cell?, h]
  · simp [World.frozen?, h]
theorem heap_setCell_same {w : World} {b o : Nat} {xs : Array Value} {T : TypeId} {f : Nat × Nat} (h : w.heap[b]? = some (.cells xs T f)) (v : Value) : (w.setCell ⟨b, o, none⟩ v).heap[b]? = some (.cells (xs.setIfInBounds o v) T f) := by
  simp [World.setCell, Array.getElem?_modify, h]
theorem grown_setCell (w : World) (b o : Nat) (v : Value) : w.grownBy (w.setCell ⟨b, o, none⟩ v) (some b) :=
  ⟨rfl, rfl, rfl, by simp [World.setCell], fun i _ hi => Below.heap_setCell _ _ _ _ (fun e => hi (by simp [e]))⟩
theorem Strs.kept {w w' : World} {b o : Nat} {ws : List (List UInt8)} {row : Option Nat} (h : Strs w b o ws) (hg : w.grownBy w' row) (hne : some b ≠ row) : Strs w' b o ws := by
  intro j x hx
  have hc := h j x hx
  have e : w'.cell? ⟨b, o + j, none⟩ = w.cell? ⟨b, o + j, none⟩ := World.cell?_of_block (w := w) (hg.block b (lt_of_cell hc) hne)
  rw [e]; exact hc
theorem WordsAt.kept {w w' : World} {bw : Nat} {ws : List (List UInt8)} {g : Bool} (h : WordsAt w bw ws g) (hb : Below w.heap.size w w') : WordsAt w' bw ws g := by
  obtain ⟨b, o, cap, hh, hl, hc, hne, hs⟩ := h
  refine ⟨b, o, cap, ?_, hl, hc, hne, fun j x hx => ?_⟩
  · rw [hb.block bw (Array.getElem?_eq_some_iff.1 hh).1]; exact hh
  · rw [hb.cell (lt_of_cell (hs j x hx))]; exact hs j x hx

set_option maxRecDepth 100000 in
theorem cNext_nil (bw b o cap : Nat) (g : Bool) (w : World) (h : w.heap[bw]? = some (.cells #[.slice (some ⟨b, o, none⟩) 0 cap, .bool g] 55 (0, 0))) :
    Calls Tryd.prog 41 #[.pointer (some ⟨bw, 0, none⟩)] w fun e w' => e = .returned (str []) ∧ w = w' := by
  have h0 : w.cell? ⟨bw, 0, none⟩ = some (.slice (some ⟨b, o, none⟩) 0 cap) := by rw [(cells_at h).1]; rfl
  clear h
  go_enter Tryd.func41, Tryd.ntmps41
  go_wp2
  go_ret
  exact ⟨rfl, rfl⟩

set_option maxRecDepth 100000 in
theorem cNext_cons (bw b o n cap : Nat) (x : List UInt8) (w : World) (h0 : w.cell? ⟨bw, 0, none⟩ = some (.slice (some ⟨b, o, none⟩) (n + 1) cap)) (f0 : w.frozen? ⟨bw, 0, none⟩ = false) (hx : w.cell? ⟨b, o, none⟩ = some (str x)) (hc : n + 1 ≤ cap) (hk : cap ≤ 1000) :
    Calls Tryd.prog 41 #[.pointer (some ⟨bw, 0, none⟩)] w fun e w' => ∃ o', e = .returned (str x) ∧ w' = w.setCell ⟨bw, 0, none⟩ (.slice (some ⟨b, o', none⟩) n (cap - 1)) ∧ (0 < n → o' = o + 1) := by
  by_cases h1 : cap = 1
  · subst h1
    obtain rfl : n = 0 := by omega
    go_enter Tryd.func41, Tryd.ntmps41
    go_wp2
    go_ret
    exact ⟨o, rfl, rfl, fun h => by omega⟩
  · have h2 : 1 < cap := by omega
    go_enter Tryd.func41, Tryd.ntmps41
    go_wp2
    go_ret
    exact ⟨o + 1, rfl, rfl, fun _ => rfl⟩

/-- next: what it hands over, and what it leaves. -/
def Nexted (w : World) (bw : Nat) (ws : List (List UInt8)) (g : Bool) (e : Ending) (w' : World) : Prop := e = .returned (str (hdW ws)) ∧ WordsAt w' bw ws.tail g ∧ w.grownBy w' (some bw)
theorem cNext (bw : Nat) (ws : List (List UInt8)) (g : Bool) (w : World) (h : WordsAt w bw ws g) : Calls Tryd.prog 41 #[.pointer (some ⟨bw, 0, none⟩)] w (Nexted w bw ws g) := by
  obtain ⟨b, o, cap, hh, hl, hc, hne, hs⟩ := h
  cases ws with
  | nil =>
    refine (cNext_nil bw b o cap g w hh).mono ?_
    rintro e w' ⟨rfl, rfl⟩
    exact ⟨rfl, ⟨b, o, cap, hh, hl, hc, hne, hs⟩, ⟨rfl, rfl, rfl, Nat.le_refl _, fun _ _ _ => rfl⟩⟩
  | cons x r =>
    have hx := hs 0 x rfl
    refine (cNext_cons bw b o r.length cap x w (by rw [(cells_at hh).1]; rfl) ((cells_at hh).2 0 rfl) hx (by simpa using hl) hc).mono ?_
    rintro e w' ⟨o', rfl, rfl, ho⟩
    refine ⟨rfl, ⟨b, o', cap - 1, ?_, by simp at hl ⊢; omega, by omega, hne, fun j y hy => ?_⟩, grown_setCell _ _ _ _⟩
    · rw [heap_setCell_same hh]; rfl
    · have hr : 0 < r.length := by
        simp at hy
        have := (List.getElem?_eq_some_iff.1 hy).1
        omega
      have e1 := ho hr
      subst e1
      have hy' := hs (j + 1) y (by simpa using hy)
      have e2 : (w.setCell ⟨bw, 0, none⟩ (.slice (some ⟨b, o + 1, none⟩) r.length (cap - 1))).cell? ⟨b, o + 1 + j, none⟩ = w.cell? ⟨b, o + 1 + j, none⟩ := World.cell?_of_block (w := w) (Below.heap_setCell _ _ _ _ hne)
      rw [e2, show o + 1 + j = o + (j + 1) from by omega]
      exact hy'
end Go.Proofs.YtobndmolnliejaaDoor

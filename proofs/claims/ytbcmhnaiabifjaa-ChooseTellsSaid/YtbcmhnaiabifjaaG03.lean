import Derived.Test.YtbcmhnaiabifjaaG02
import Derived.Deep.QuietTactic
import Derived.BigQuiet
import Derived.Deep.Light
import Derived.Laws.StructEq
namespace Go.Proofs.Ytbcmhnaiabifjaa
set_option linter.unusedVariables false
open Go.RowKit
open Go.Lib (hid)
theorem rise_next {cs : List C7} {k : Nat} {x y : C7} (h : RiseTo cs k) (hx : cs[k - 1]? = some x) (hy : cs[k]? = some y) (hlt : x.i < y.i) : RiseTo cs (k + 1) := fun j h1 hj u z hu hz => by
  by_cases e : j = k
  · subst e; rw [hx] at hu; rw [hy] at hz; rw [← Option.some.inj hu, ← Option.some.inj hz]; exact hlt
  · exact h j h1 (by omega) u z hu hz
theorem rise_short {cs : List C7} (h : cs.length ≤ 1) : risesB cs = true := RiseTo.yes fun j h1 hj => by omega
theorem rise_one (cs : List C7) : RiseTo cs 1 := fun j h1 hj => by omega
set_option maxHeartbeats 600000 in
set_option maxRecDepth 100000 in
theorem cSetRight {v : Value} {cs : List C7} {w : World} (h : Sl w v cs) (hl : cs.length ≤ 1024) : Calls Try.prog 67 #[v] w fun e w' => e = .returned (.bool (setB cs)) ∧ Below w.heap.size w w' := by
  have hR := cRight' h (by omega)
  obtain ⟨b, o, cap, a, rfl, hn, ha, hc, hb⟩ := h
  rcases hok : cs.all C7.ok with _ | _
  · rw [hok] at hR
    have HS := hid (show setB cs = false from by unfold setB; rw [hok]; simp)
    clear hok
    go_enter Try.func67, Try.ntmps67
    go_wp2_with (go_at_call 48; refine hR.mono ?_; rintro e w' ⟨rfl, hB⟩)
    go_ret
    exact ⟨ret_bool HS.out.symm, hB⟩
  · rw [hok] at hR
    have HS := hid (show setB cs = risesB cs from by unfold setB; rw [hok, decide_eq_true hl]; simp)
    clear hok
    go_enter Try.func67, Try.ntmps67
    go_wp2_with (go_at_call 48; refine hR.mono ?_; rintro e w' ⟨rfl, hB'⟩)
    go_loopw [3] (fun i wr => ∃ k : Nat, 1 ≤ k ∧ (k ≤ cs.length ∨ k = 1) ∧ i = .int .i64 k ∧ Hid (RiseTo cs k) ∧ Below w.heap.size w wr) (fun i _ => cs.length - (intOf i).toNat)
    case atStart => exact ⟨1, Nat.le_refl _, .inr rfl, rfl, rise_one _, hB'⟩
    case round =>
      clear hB'
      obtain ⟨k, h1k, hk, rfl, hak, hB⟩ := hrel
      by_cases hlt : k < cs.length
      · obtain rfl := ha (by omega)
        obtain ⟨m, rfl⟩ : ∃ m, k = m + 1 := ⟨k - 1, by omega⟩
        obtain ⟨x, hx⟩ : ∃ x, cs[m]? = some x := ⟨cs[m], List.getElem?_eq_getElem (by omega)⟩
        obtain ⟨y, hy⟩ : ∃ y, cs[m + 1]? = some y := ⟨cs[m + 1], List.getElem?_eq_getElem hlt⟩
        have hbw := hb (by omega)
        have c0 := ((hc.on hB hbw).at hx).1
        have d0 := ((hc.on hB hbw).at hy).1
        have HX := hid (And.intro hx hy)
        have HB := hid hB
        clear hx hy hB
        by_cases hxy : x.i < y.i
        · have HI := hid hxy
          go_wp2
          go_quiet (fail)
          go_wp2
          go_roundw
          case rel => exact ⟨m + 1 + 1, by omega, .inl (by omega), by go_num, rise_next hak.out HX.out.1 HX.out.2 HI.out, Below.drewN' HB.out _⟩
          case measure => simp [intOf]; omega
        · have HI := hid hxy
          go_wp2
          go_quiet (fail)
          go_wp2
          go_ret
          exact ⟨ret_bool (HS.out.trans (rises_no (k := m + 1) HX.out.1 HX.out.2 (by omega) HI.out)).symm, Below.drewN' HB.out _⟩
      · have HE : Hid (risesB cs = true) := by
          rcases hk with hk | hk
          · have : k = cs.length := by omega
            exact RiseTo.yes (this ▸ hak.out)
          · exact rise_short (by omega)
        clear hk
        go_wp2
        go_ret
        exact ⟨ret_bool (HS.out.trans HE.out).symm, hB⟩
set_option maxHeartbeats 600000 in
set_option maxRecDepth 100000 in
theorem rSetRight {v : Value} {cs : List C7} {w : World} (h : Sl w v cs) (hl : cs.length ≤ 1024) : Calls Try.prog 34 #[v] w fun e w' => e = .returned (.bool (setB cs)) ∧ Below w.heap.size w w' := by
  have HH := hid h
  obtain ⟨b, o, cap, a, rfl, hn, ha, hc, hb⟩ := h
  go_enter Try.func34, Try.ntmps34
  go_wp2
  go_loopw [3] (fun i wr => ∃ k : Nat, 1 ≤ k ∧ (k ≤ cs.length ∨ k = 1) ∧ i = .int .i64 k ∧ Hid (RiseTo cs k) ∧ Below w.heap.size w wr) (fun i _ => cs.length - (intOf i).toNat)
  case atStart => exact ⟨1, Nat.le_refl _, .inr rfl, rfl, rise_one _, Below.refl _ _⟩
  case round =>
    obtain ⟨k, h1k, hk, rfl, hak, hB⟩ := hrel
    by_cases hlt : k < cs.length
    · obtain rfl := ha (by omega)
      obtain ⟨m, rfl⟩ : ∃ m, k = m + 1 := ⟨k - 1, by omega⟩
      obtain ⟨x, hx⟩ : ∃ x, cs[m]? = some x := ⟨cs[m], List.getElem?_eq_getElem (by omega)⟩
      obtain ⟨y, hy⟩ : ∃ y, cs[m + 1]? = some y := ⟨cs[m + 1], List.getElem?_eq_getElem hlt⟩
      have hbw := hb (by omega)
      have c0 := ((hc.on hB hbw).at hx).1
      have d0 := ((hc.on hB hbw).at hy).1
      have HX := hid (And.intro hx hy)
      have HB := hid hB
      clear hx hy hB
      by_cases hxy : x.i < y.i
      · have HI := hid hxy
        go_wp2
        go_quiet (fail)
        go_wp2
        go_roundw
        case rel => exact ⟨m + 1 + 1, by omega, .inl (by omega), by go_num, rise_next hak.out HX.out.1 HX.out.2 HI.out, Below.drewN' HB.out _⟩
        case measure => simp [intOf]; omega
      · have HI := hid hxy
        go_wp2
        go_quiet (fail)
        go_wp2
        go_ret
        exact ⟨ret_bool (by unfold setB; rw [rises_no (k := m + 1) HX.out.1 HX.out.2 (by omega) HI.out]; simp), Below.drewN' HB.out _⟩
    · have HE : Hid (risesB cs = true) := by
        rcases hk with hk | hk
        · have : k = cs.length := by omega
          exact RiseTo.yes (this ▸ hak.out)
        · exact rise_short (by omega)
      clear hk
      have hR := rRights' (HH.out.on hB) (by omega)
      rcases hok : cs.all C7.ok with _ | _
      · rw [hok] at hR
        have HS := hid (show setB cs = false from by unfold setB; rw [hok]; simp)
        clear hok
        go_wp2_with (go_at_call 57; refine hR.mono ?_; rintro e w' ⟨rfl, hB'⟩)
        go_ret
        exact ⟨ret_bool HS.out.symm, hB.trans (hB'.mono hB.size)⟩
      · rw [hok] at hR
        have HS := hid (show setB cs = true from by unfold setB; rw [hok, HE.out, decide_eq_true hl]; rfl)
        clear hok
        go_wp2_with (go_at_call 57; refine hR.mono ?_; rintro e w' ⟨rfl, hB'⟩)
        go_ret
        exact ⟨ret_bool (by rw [HS.out]; exact decide_eq_true (by omega)), hB.trans (hB'.mono hB.size)⟩
end Go.Proofs.Ytbcmhnaiabifjaa
namespace Go.Proofs.Ytbcmhnaiabifjaa
set_option linter.unusedVariables false
open Go.RowKit
open Go.Lib (hid)
def ints (l : List Int) : List Value := l.map (Value.int .i64)
theorem ints_append (a b : List Int) : ints (a ++ b) = ints a ++ ints b := by simp [ints]
abbrev OwnN (w : World) (B : Nat) (v : Value) (l : List Int) : Prop := w.ownsRow B 3 1 v l.length (ints l)
theorem OwnN.sl {w : World} {B : Nat} {v : Value} {l : List Int} (h : OwnN w B v l) : SlN w v l := by
  have hl := h.lt
  rcases h.2 with ⟨rfl, h0⟩ | ⟨g, cap, cur, rfl, hb, hg, hn, hm, hs, ht⟩
  · obtain rfl := List.length_eq_zero_iff.1 h0
    exact ⟨0, 0, 0, none, rfl, fun h => absurd h (by simp), fun j x hx => by simp at hx, fun h => absurd h (by simp)⟩
  · refine ⟨g, 0, cap, _, rfl, fun _ => rfl, fun j x hx => ?_, fun _ => (hl g rfl).2⟩
    have hj := (List.getElem?_eq_some_iff.1 hx).1
    rw [Nat.zero_add, h.cellAt j (by omega)]
    simp [ints, hx]
theorem own_below {w w' : World} {B C : Nat} {e : TypeId} {size : Nat} {v : Value} {n : Nat} {xs : List Value} (h : w.ownsRow B e size v n xs) (hb : Below C w w') (hC : ∀ k, v.ownBlock = some k → k < C) : w'.ownsRow B e size v n xs := by
  refine ⟨h.1, ?_⟩
  rcases h.2 with h2 | ⟨g, cap, cur, rfl, h1, hg, r⟩
  · exact .inl h2
  · exact .inr ⟨g, cap, cur, rfl, h1, by rw [hb.block g (hC g rfl)]; exact hg, r⟩
theorem OwnN.asSlice {w : World} {B : Nat} {v : Value} {l : List Int} (h : OwnN w B v l) : ∃ (g : Option Addr) (cap n : Nat), v = .slice g n cap ∧ n = l.length := by
  rcases h.2 with ⟨rfl, h0⟩ | ⟨g, cap, cur, rfl, _⟩
  · exact ⟨none, 0, 0, rfl, h0.symm⟩
  · exact ⟨_, cap, _, rfl, rfl⟩
theorem OwnN.grows {w W0 w1 : World} {B n : Nat} {v v' : Value} {a b : List Int} (hB : Below B w W0) (hsz : B ≤ W0.heap.size) (hlt : ∀ k, v.ownBlock = some k → B ≤ k)
    (hown' : w1.ownsRow B 3 1 v' n (ints a ++ ints b)) (hn : n = a.length + b.length) (hg : W0.grownBy w1 v.ownBlock) : OwnN w1 B v' (a ++ b) ∧ Below B w w1 :=
  ⟨by unfold OwnN; rw [ints_append, List.length_append, ← hn]; exact hown', hB.grown hg hsz hlt⟩
end Go.Proofs.Ytbcmhnaiabifjaa
namespace Go.Proofs.Ytbcmhnaiabifjaa
set_option linter.unusedVariables false
open Go.RowKit
open Go.Lib (hid)
theorem OwnB.some {w : World} {B : Nat} {v : Value} {l : List UInt8} (h : OwnB w B v l) (hl : l ≠ []) : ∃ g cap, v = .slice (Option.some ⟨g, 0, none⟩) l.length cap := by
  rcases h.shape with ⟨_, e⟩ | ⟨g, cap, e, _⟩
  · exact absurd e hl
  · exact ⟨g, cap, e⟩
end Go.Proofs.Ytbcmhnaiabifjaa
namespace Go.Proofs.Ytbcmhnaiabifjaa
set_option linter.unusedVariables false
open Go.RowKit
open Go.Lib (hid)
def SlB (w : World) (v : Value) (l : List UInt8) : Prop :=
  ∃ (b o cap : Nat) (a : Option Addr), v = .slice a l.length cap ∧ (a = none → cap = 0) ∧ l.length ≤ cap ∧ (0 < l.length → a = some ⟨b, o, none⟩) ∧ (∀ (j : Nat) x, l[j]? = some x → w.cell? ⟨b, o + j, none⟩ = some (.int .u8 x.toNat)) ∧ (0 < l.length → b < w.heap.size)
theorem SlB.nil (w : World) : SlB w (.slice none 0 0) [] := ⟨0, 0, 0, none, rfl, fun _ => rfl, Nat.le_refl _, fun h => absurd h (by simp), fun j x hx => by simp at hx, fun h => absurd h (by simp)⟩
def Rd (T : TypeId) (F : Nat → Prop) (w : World) (p : Nat) (s : St) : Prop :=
  ∃ v, w.heap[p]? = some (.cells #[v, .int .i64 s.2] T (0, 0)) ∧ SlB w v s.1 ∧ (∀ k, v.ownBlock = some k → F k) ∧ ¬ F p
theorem SlB.same {w w' : World} {v : Value} {l : List UInt8} (h : SlB w v l) (hs : w.heap.size ≤ w'.heap.size) (hb : ∀ k, v.ownBlock = some k → k < w.heap.size → w'.heap[k]? = w.heap[k]?) : SlB w' v l := by
  obtain ⟨b, o, cap, a, rfl, hn, hc, ha, hcl, hl⟩ := h
  refine ⟨b, o, cap, a, rfl, hn, hc, ha, fun j x hx => ?_, fun h0 => by have := hl h0; omega⟩
  have h0 : 0 < l.length := by have := (List.getElem?_eq_some_iff.1 hx).1; omega
  obtain rfl := ha h0
  have := hb b rfl (hl h0)
  rw [← hcl j x hx]
  simp only [World.cell?, this]
theorem SlB.on {w w' : World} {v : Value} {l : List UInt8} (h : SlB w v l) (hb : Below w.heap.size w w') : SlB w' v l := h.same hb.size fun k _ hk => hb.block k hk
theorem Rd.lt {T : TypeId} {F : Nat → Prop} {w : World} {p : Nat} {s : St} (h : Rd T F w p s) : p < w.heap.size := by
  obtain ⟨v, hp, _⟩ := h
  exact (Array.getElem?_eq_some_iff.1 hp).1
theorem Rd.out {T : TypeId} {F : Nat → Prop} {w : World} {p : Nat} {s : St} (h : Rd T F w p s) : ¬ F p := by
  obtain ⟨v, hp, _, _, hf⟩ := h
  exact hf
theorem Rd.on {T : TypeId} {F : Nat → Prop} {w w' : World} {p : Nat} {s : St} (h : Rd T F w p s) (hb : Below w.heap.size w w') : Rd T F w' p s := by
  have hl := h.lt
  obtain ⟨v, hp, hs, hF, hf⟩ := h
  exact ⟨v, by rw [hb.block p hl]; exact hp, hs.on hb, hF, hf⟩
theorem Rd.cells {T : TypeId} {F : Nat → Prop} {w : World} {p : Nat} {s : St} (h : Rd T F w p s) : ∃ v, w.heap[p]? = some (.cells #[v, .int .i64 s.2] T (0, 0)) ∧ p < w.heap.size ∧ w.cell? ⟨p, 0, none⟩ = some v ∧ w.cell? ⟨p, 1, none⟩ = some (.int .i64 s.2) ∧ w.frozen? ⟨p, 0, none⟩ = false ∧ w.frozen? ⟨p, 1, none⟩ = false ∧ SlB w v s.1 ∧ (∀ k, v.ownBlock = some k → F k) := by
  obtain ⟨v, hp, hs, hF, hf⟩ := h
  exact ⟨v, hp, (Array.getElem?_eq_some_iff.1 hp).1, by simp [World.cell?, hp], by simp [World.cell?, hp], by simp [World.frozen?, hp], by simp [World.frozen?, hp], hs, hF⟩
theorem grownSet (w : World) (a : Addr) (u : Value) : w.grownBy (w.setCell a u) (some a.block) :=
  ⟨rfl, rfl, rfl, by simp [World.setCell], fun k _ hk => by
    have hne : a.block ≠ k := fun e => hk (by rw [e])
    simp [World.setCell, Array.getElem?_modify, hne]⟩
theorem grownRefl (w : World) (row : Option Nat) : w.grownBy w row := ⟨rfl, rfl, rfl, Nat.le_refl _, fun _ _ _ => rfl⟩
theorem SlB.drop {w : World} {b o cap : Nat} {l : List UInt8} (k : Nat) (hk : k ≤ l.length) (hlen : 0 < l.length) (hc : ∀ (j : Nat) x, l[j]? = some x → w.cell? ⟨b, o + j, none⟩ = some (.int .u8 x.toNat)) (hn : l.length ≤ cap) (hb : b < w.heap.size) :
    SlB w (.slice (some ⟨b, o + k, none⟩) (l.length - k) (cap - k)) (l.drop k) := by
  refine ⟨b, o + k, cap - k, _, by rw [List.length_drop], by simp, by rw [List.length_drop]; omega, fun _ => rfl, fun j x hx => ?_, fun _ => hb⟩
  rw [List.getElem?_drop] at hx
  rw [Nat.add_assoc]; exact hc _ x hx
theorem SlB.nothing {w : World} {a : Option Addr} {n c : Nat} {l : List UInt8} (hl : l.length = 0) (hn : n = 0) (hc : c = 0) : SlB w (.slice a n c) l := by
  subst hn hc
  obtain rfl := List.length_eq_zero_iff.1 hl
  exact ⟨0, 0, 0, a, rfl, fun _ => rfl, Nat.le_refl _, fun h => absurd h (by simp), fun j x hx => by simp at hx, fun h => absurd h (by simp)⟩
theorem SlB.of {w : World} {v v' : Value} {l : List UInt8} (h : SlB w v l) (e : v' = v) : SlB w v' l := e ▸ h
end Go.Proofs.Ytbcmhnaiabifjaa
namespace Go.Proofs.Ytbcmhnaiabifjaa
set_option linter.unusedVariables false
open Go.RowKit
open Go.Lib (hid)
end Go.Proofs.Ytbcmhnaiabifjaa
namespace Go.Proofs.Ytbcmhnaiabifjaa
set_option linter.unusedVariables false
open Go.RowKit
open Go.Lib (hid)
theorem Rd.alloc {T : TypeId} {F : Nat → Prop} {w : World} {p : Nat} {s : St} (h : Rd T F w p s) (o : Obj) : Rd T F (w.alloc o) p s := h.on ((Below.refl _ w).alloc (Nat.le_refl _) o)
theorem Rd.drewN {T : TypeId} {F : Nat → Prop} {w : World} {p : Nat} {s : St} (h : Rd T F w p s) (n : Nat) : Rd T F (w.drewN n) p s := h.on (Below.drewN' (Below.refl _ w) n)
theorem setAt {w : World} {q j : Nat} {vs : Array Value} {x : Value} {t : TypeId} (h : w.heap[q]? = some (.cells vs t (0, 0))) : (w.setCell ⟨q, j, none⟩ x).heap[q]? = some (.cells (vs.setIfInBounds j x) t (0, 0)) := by
  show (w.heap.modify q _)[q]? = _
  obtain ⟨hlt, hk⟩ := Array.getElem?_eq_some_iff.1 h
  rw [Array.getElem?_eq_getElem (by rw [Array.size_modify]; exact hlt), Array.getElem_modify_self, hk]
  rfl
theorem cellAt' {w : World} {q : Nat} {vs : Array Value} {t : TypeId} (h : w.heap[q]? = some (.cells vs t (0, 0))) (j : Nat) : w.cell? ⟨q, j, none⟩ = vs[j]? := cell_of_row w q j vs t (0, 0) h
theorem frozenAt {w : World} {q : Nat} {vs : Array Value} {t : TypeId} (h : w.heap[q]? = some (.cells vs t (0, 0))) (j : Nat) : w.frozen? ⟨q, j, none⟩ = false := by simp [World.frozen?, h]
theorem OwnN.cell {w : World} {B : Nat} {v : Value} {l : List Int} (h : OwnN w B v l) (h0 : 0 < l.length) : ∃ g cap, v = .slice (some ⟨g, 0, none⟩) l.length cap ∧ B ≤ g ∧ g < w.heap.size ∧ ∀ (j : Nat) x, l[j]? = some x → w.cell? ⟨g, j, none⟩ = some (.int .i64 x) := by
  have hl := h.lt
  rcases h.2 with ⟨rfl, e0⟩ | ⟨g, cap, cur, rfl, hb, hg, hn, hm, hs, ht⟩
  · omega
  · refine ⟨g, cap, rfl, hb, (hl g rfl).2, fun j x hx => ?_⟩
    have hj := (List.getElem?_eq_some_iff.1 hx).1
    rw [h.cellAt j (by omega)]
    simp [ints, hx]
end Go.Proofs.Ytbcmhnaiabifjaa
namespace Go.Proofs.Ytbcmhnaiabifjaa
open Go.RowKit
open Go.Lib (hid)
theorem Own.more {w : World} {B : Nat} {v : Value} {cs : List C7} {c : C7} (h : w.ownsRow B 47 7 v (cs.length + 1) (flat cs ++ c.cells)) : Own w B v (cs ++ [c]) := by
  unfold Own; rw [flat_append, flat_single, List.length_append]; exact h
theorem Own.grows {w W0 w1 : World} {B : Nat} {v v' : Value} {cs : List C7} {c : C7} (hB : Below B w W0) (hsz : B ≤ W0.heap.size) (hlt : ∀ k, v.ownBlock = some k → B ≤ k)
    (hown' : w1.ownsRow B 47 7 v' (cs.length + 1) (flat cs ++ c.cells)) (hg : W0.grownBy w1 v.ownBlock) : Own w1 B v' (cs ++ [c]) ∧ Below B w w1 :=
  ⟨Own.more hown', hB.grown hg hsz hlt⟩
theorem new_cell {W : World} {c : C7} {g : Nat} (hg : g = W.heap.size) : ∀ (j : Nat) u, c.cells[j]? = some u → (W.alloc (.cells #[.int .i64 c.i, .int .i64 c.k, .int .i64 c.s, .int .i64 c.t, .int .i64 c.d, .int .i64 c.p, .int .i64 c.q] 47)).cell? ((⟨g, 0, none⟩ : Addr).add j) = some u := by
  intro j u hj
  subst hg
  rw [show (⟨W.heap.size, 0, none⟩ : Addr).add j = ⟨W.heap.size, j, none⟩ from by unfold Addr.add; split <;> simp_all, World.cell?_alloc_new, List.getElem?_toArray]
  exact hj
theorem cells_one (c : C7) : ∀ u ∈ c.cells, u.oneCell' = true := by
  intro u hu; simp at hu; rcases hu with rfl | rfl | rfl | rfl | rfl | rfl | rfl <;> rfl
end Go.Proofs.Ytbcmhnaiabifjaa
namespace Go.Proofs.Ytbcmhnaiabifjaa
set_option linter.unusedVariables false
open Go.RowKit
open Go.Lib (hid)
theorem Own.asSlice {w : World} {B : Nat} {v : Value} {cs : List C7} (h : Own w B v cs) : ∃ (g : Option Addr) (cap n : Nat), v = .slice g n cap ∧ n = cs.length := by
  rcases h.shape with ⟨e, e'⟩ | ⟨g, cap, e, _⟩
  · exact ⟨none, 0, 0, e, by rw [e']; rfl⟩
  · exact ⟨_, cap, _, e, rfl⟩
end Go.Proofs.Ytbcmhnaiabifjaa
namespace Go.Proofs.Ytbcmhnaiabifjaa
open Go.RowKit
open Go.Lib (hid)
theorem equalC (a b : C7) (w : World) : Sem.run Try.prog (Op.equalIn 10000 47 a.v b.v) w = .ok (a.same b) w := by
  have u3 := Try.underlying3
  have a3 := Try.isAgg3
  have z3 := Try.sizeOf3
  have u31 := Try.underlying44
  have a31 := Try.isAgg44
  have z31 := Try.sizeOf44
  have u32 := Try.underlying45
  have a32 := Try.isAgg45
  have z32 := Try.sizeOf45
  have hS : Try.prog.underlying 47 = some (.struct (Try.prog.fieldsOf 47)) := by kernel_rfl
  have hp : Try.prog.stoodInHeld 47 = false := by kernel_rfl
  simp only [C7.v, cmV]
  rw [show (10000 : Nat) = 9999 + 1 from rfl, run_equalIn_agg w 9999 47 _ _ hS hp]
  simp only [Program.fieldsOf, Try.underlying47]
  go_simp
  unfold C7.same
  by_cases h1 : a.i = b.i
  · by_cases h2 : a.k = b.k
    · by_cases h3 : a.s = b.s
      · by_cases h4 : a.t = b.t
        · by_cases h5 : a.d = b.d
          · by_cases h6 : a.p = b.p
            · by_cases h7 : a.q = b.q
              · simp [h1, h2, h3, h4, h5, h6, h7]
              · simp [h1, h2, h3, h4, h5, h6, h7]
            · simp [h1, h2, h3, h4, h5, h6]
          · simp [h1, h2, h3, h4, h5]
        · simp [h1, h2, h3, h4]
      · simp [h1, h2, h3]
    · simp [h1, h2]
  · simp [h1]
theorem neqC {a b : C7} {r : Bool} (h : a.same b = r) (w : World) : Sem.run Try.prog (binOp .neq 47 a.v b.v) w = .ok (.bool (!r)) w := by
  rw [C7.v, C7.v, cmV, cmV, run_neq_struct]
  have := equalC a b w
  rw [C7.v, C7.v, cmV, cmV] at this
  rw [this, h]; rfl
theorem guardC (op : BinOp) (x y : Operand) (a b : C7) (w : World) : Sem.run Try.prog (eqGuard op 47 x y a.v b.v) w = .ok () w := run_eqGuard_agg w op 47 x y _ _ (by kernel_rfl)
theorem Sl.open {w : World} {v : Value} {cs : List C7} (h : Sl w v cs) : ∃ (b o cap : Nat) (a : Option Addr), v = .slice a cs.length cap ∧ (0 < cs.length → a = some ⟨b, o, none⟩) ∧ CmsAt w b o cs ∧ (0 < cs.length → b < w.heap.size) := by
  obtain ⟨b, o, cap, a, hv, _, ha, hc, hb⟩ := h
  exact ⟨b, o, cap, a, hv, ha, hc, hb⟩
end Go.Proofs.Ytbcmhnaiabifjaa
namespace Go.Proofs.Ytbcmhnaiabifjaa
set_option linter.unusedVariables false
open Go.RowKit
open Go.Lib (hid)
def sameB (a b : List C7) : Bool := decide (a = b)
theorem same_len {a b : List C7} (h : ¬ a.length = b.length) : sameB a b = false := decide_eq_false fun e => h (by rw [e])
theorem same_no {a b : List C7} {k : Nat} {x y : C7} (hx : a[k]? = some x) (hy : b[k]? = some y) (h : x.same y = false) : sameB a b = false := decide_eq_false fun e => by
  subst e; rw [hx] at hy; exact C7.same_no.1 h (Option.some.inj hy)
theorem same_yes {a b : List C7} {k : Nat} (hl : a.length = b.length) (hk : a.length ≤ k) (h : ∀ j, j < k → ∀ x, a[j]? = some x → ∀ y, b[j]? = some y → x.same y = true) : sameB a b = true := decide_eq_true (List.ext_getElem hl fun j h1 h2 => C7.same_iff.1 (h j (by omega) _ (List.getElem?_eq_getElem h1) _ (List.getElem?_eq_getElem h2)))
theorem same_next {a b : List C7} {k : Nat} {x y : C7} (h : ∀ j, j < k → ∀ x, a[j]? = some x → ∀ y, b[j]? = some y → x.same y = true) (hx : a[k]? = some x) (hy : b[k]? = some y) (hs : x.same y = true) : ∀ j, j < k + 1 → ∀ x, a[j]? = some x → ∀ y, b[j]? = some y → x.same y = true := fun j hj u hu v hv => by
  by_cases e : j = k
  · subst e; rw [hx] at hu; rw [hy] at hv; rw [← Option.some.inj hu, ← Option.some.inj hv]; exact hs
  · exact h j (by omega) u hu v hv
set_option maxHeartbeats 600000 in
set_option maxRecDepth 100000 in
theorem rSame {v v' : Value} {cs ds : List C7} {w : World} (h : Sl w v cs) (h' : Sl w v' ds) (hl : cs.length ≤ 100000) (hl' : ds.length ≤ 100000) : Calls Try.prog 33 #[v, v'] w fun e w' => e = .returned (.bool (sameB cs ds)) ∧ Below w.heap.size w w' := by
  obtain ⟨b, o, cap, a, rfl, ha, hc, hb⟩ := h.open
  obtain ⟨b', o', cap', a', rfl, ha', hc', hb'⟩ := h'.open
  clear h h'
  by_cases hlen : cs.length = ds.length
  · rw [hlen] at ha hb hl
    rw [hlen]
    have HL := hid hlen
    clear hlen
    go_enter Try.func33, Try.ntmps33
    go_wp2
    go_loopw [5] (fun i wr => ∃ k : Nat, k ≤ ds.length ∧ i = .int .i64 k ∧ Hid (∀ j, j < k → ∀ x, cs[j]? = some x → ∀ y, ds[j]? = some y → x.same y = true) ∧ Below w.heap.size w wr) (fun i _ => ds.length - (intOf i).toNat)
    case atStart => exact ⟨0, Nat.zero_le _, rfl, fun j hj => absurd hj (by omega), Below.refl _ _⟩
    case round =>
      obtain ⟨k, hk, rfl, hak, hB⟩ := hrel
      by_cases hlt : k < ds.length
      · obtain rfl := ha (by omega)
        obtain rfl := ha' (by omega)
        obtain ⟨x, hxx⟩ : ∃ x, cs[k]? = some x := ⟨cs[k]'(by rw [HL.out]; exact hlt), List.getElem?_eq_getElem (by rw [HL.out]; exact hlt)⟩
        obtain ⟨y, hyy⟩ : ∃ y, ds[k]? = some y := ⟨ds[k], List.getElem?_eq_getElem (by omega)⟩
        have hbw := hb (by omega)
        have hbw' := hb' (by omega)
        obtain ⟨c0, c1, c2, c3, c4, c5, c6⟩ := (hc.on hB hbw).at hxx
        obtain ⟨d0, d1, d2, d3, d4, d5, d6⟩ := (hc'.on hB hbw').at hyy
        have HX := hid (And.intro hxx hyy)
        have HB := hid hB
        clear hxx hyy hB
        rcases hs : x.same y with _ | _
        · have hE := neqC hs
          have hG := fun op p q W => guardC op p q x y W
          have HS := hid hs
          clear hs
          go_wp2
          go_quiet (fail)
          go_wp2
          go_ret
          exact ⟨ret_bool (same_no HX.out.1 HX.out.2 HS.out).symm, Below.drewN' HB.out _⟩
        · have hE := neqC hs
          have hG := fun op p q W => guardC op p q x y W
          have HS := hid hs
          clear hs
          go_wp2
          go_quiet (fail)
          go_wp2
          go_roundw
          case rel => exact ⟨k + 1, by omega, by go_num, same_next hak.out HX.out.1 HX.out.2 HS.out, Below.drewN' HB.out _⟩
          case measure => simp [intOf]; omega
      · have HS : Hid (sameB cs ds = true) := same_yes HL.out (by rw [HL.out]; omega) hak.out
        go_wp2
        go_ret
        exact ⟨ret_bool HS.out.symm, hB⟩
  · have HS : Hid (sameB cs ds = false) := same_len hlen
    go_enter Try.func33, Try.ntmps33
    go_wp2
    go_ret
    exact ⟨ret_bool HS.out.symm, Below.refl _ _⟩
end Go.Proofs.Ytbcmhnaiabifjaa
namespace Go.Proofs.Ytbcmhnaiabifjaa
set_option linter.unusedVariables false
open Go.RowKit
open Go.Lib (hid)
set_option maxHeartbeats 1600000 in
set_option maxRecDepth 100000 in
theorem rSameValue {v v' : Value} {cs : List C7} {w : World} (t : Int) (h : Sl w v cs) (h' : Sl w v' cs) (hl : cs.length ≤ 100000) : Calls Try.prog 12 #[.agg #[.int .i64 t, v], .agg #[.int .i64 t, v']] w fun e w' => e = .returned (.bool true) ∧ Below w.heap.size w w' := by
  have H := hid h
  have H' := hid h'
  obtain ⟨_, _, cap, a, rfl, _⟩ := h
  obtain ⟨_, _, cap', a', rfl, _⟩ := h'
  have hS := rSame (H.out.on (((Below.refl _ w).alloc (Nat.le_refl _) (.cells #[.int .i64 t, .slice a cs.length cap] 28)).alloc (by simp) (.cells #[.int .i64 t, .slice a' cs.length cap'] 28))) (H'.out.on (((Below.refl _ w).alloc (Nat.le_refl _) (.cells #[.int .i64 t, .slice a cs.length cap] 28)).alloc (by simp) (.cells #[.int .i64 t, .slice a' cs.length cap'] 28))) hl hl
  rw [show sameB cs cs = true from decide_eq_true rfl] at hS
  go_enter Try.func12, Try.ntmps12
  go_wp2_with (go_at_call 33; (
    refine hS.mono ?_
    rintro e w1 ⟨rfl, hB⟩
    have hs1 := hB.size
    have k0 : w1.cell? ⟨w.heap.size, 0, none⟩ = some (.int .i64 t) := (hB.cell (p := ⟨w.heap.size, 0, none⟩) (by simp; omega)).trans (by simp [go_sem])
    have k1 : w1.cell? ⟨w.heap.size + 1, 0, none⟩ = some (.int .i64 t) := (hB.cell (p := ⟨w.heap.size + 1, 0, none⟩) (by simp)).trans (by simp [go_sem])
    have HB := hid hB
    clear hB))
  go_ret
  exact ⟨rfl, (((Below.refl _ w).alloc (Nat.le_refl _) _).alloc (by simp) _).trans (HB.out.mono (by simp; omega))⟩
end Go.Proofs.Ytbcmhnaiabifjaa
namespace Go.Proofs.Ytbcmhnaiabifjaa
set_option linter.unusedVariables false
open Go.RowKit
open Go.Lib (hid)
def validB (t : Int) : Bool := decide (16 ≤ t ∧ t < 1048576 ∧ t % 16 ≤ 8)
theorem rValid (t : Int) (w : World) : Calls Try.prog 31 #[.int .i64 t] w fun e w' => e = .returned (.bool (validB t)) ∧ w = w' := by
  by_cases h0 : 16 ≤ t
  · by_cases h1 : t < 1048576
    · by_cases h2 : t % 16 ≤ 8
      · go_enter Try.func31, Try.ntmps31
        go_wp2
        go_ret
        exact ⟨ret_bool (by unfold validB; symm; simp; omega), rfl⟩
      · go_enter Try.func31, Try.ntmps31
        go_wp2
        go_ret
        exact ⟨ret_bool (by unfold validB; symm; simp; omega), rfl⟩
    · go_enter Try.func31, Try.ntmps31
      go_wp2
      go_ret
      exact ⟨ret_bool (by unfold validB; symm; simp; omega), rfl⟩
  · go_enter Try.func31, Try.ntmps31
    go_wp2
    go_ret
    exact ⟨ret_bool (by unfold validB; symm; simp; omega), rfl⟩
def fullB (t : Int) (l : List C7) : Bool := validB t && setB l
def noneB (t : Int) (l : List C7) : Bool := decide (t = 0) && decide (l.length = 0)
abbrev boxV (t : Int) (v : Value) : Obj := .cells #[.int .i64 t, v] 28
set_option maxHeartbeats 1600000 in
set_option maxRecDepth 100000 in
theorem rSameVG {v v' : Value} {cs ds : List C7} {w : World} (t t' : Int) (h : Sl w v cs) (h' : Sl w v' ds) (hl : cs.length ≤ 100000) (hl' : ds.length ≤ 100000) : Calls Try.prog 12 #[.agg #[.int .i64 t, v], .agg #[.int .i64 t', v']] w fun e w' => e = .returned (.bool (decide (t = t') && sameB cs ds)) ∧ Below w.heap.size w w' := by
  have H := hid h
  have H' := hid h'
  obtain ⟨_, _, cap, a, rfl, _⟩ := h
  obtain ⟨_, _, cap', a', rfl, _⟩ := h'
  have hS := rSame (H.out.on (((Below.refl _ w).alloc (Nat.le_refl _) (boxV t (.slice a cs.length cap))).alloc (by simp) (boxV t' (.slice a' ds.length cap')))) (H'.out.on (((Below.refl _ w).alloc (Nat.le_refl _) (boxV t (.slice a cs.length cap))).alloc (by simp) (boxV t' (.slice a' ds.length cap')))) hl hl'
  have hT : (t = t' ∧ t' = t) ∨ ¬ t = t' := by omega
  rcases hT with ⟨ht, _⟩ | ht
  · subst ht
    go_enter Try.func12, Try.ntmps12
    go_wp2_with (go_at_call 33; (
      refine hS.mono ?_
      rintro e w1 ⟨rfl, hB⟩
      have hs1 := hB.size
      have k0 : w1.cell? ⟨w.heap.size, 0, none⟩ = some (.int .i64 t) := (hB.cell (p := ⟨w.heap.size, 0, none⟩) (by simp; omega)).trans (by simp [go_sem])
      have k1 : w1.cell? ⟨w.heap.size + 1, 0, none⟩ = some (.int .i64 t) := (hB.cell (p := ⟨w.heap.size + 1, 0, none⟩) (by simp)).trans (by simp [go_sem])
      have HB := hid hB
      clear hB))
    go_ret
    exact ⟨ret_bool (by simp), (((Below.refl _ w).alloc (Nat.le_refl _) _).alloc (by simp) _).trans (HB.out.mono (by simp; omega))⟩
  all_goals (
    go_enter Try.func12, Try.ntmps12
    go_wp2_with (go_at_call 33; (
      refine hS.mono ?_
      rintro e w1 ⟨rfl, hB⟩
      have hs1 := hB.size
      have k0 : w1.cell? ⟨w.heap.size, 0, none⟩ = some (.int .i64 t) := (hB.cell (p := ⟨w.heap.size, 0, none⟩) (by simp; omega)).trans (by simp [go_sem])
      have k1 : w1.cell? ⟨w.heap.size + 1, 0, none⟩ = some (.int .i64 t') := (hB.cell (p := ⟨w.heap.size + 1, 0, none⟩) (by simp)).trans (by simp [go_sem])
      have HB := hid hB
      clear hB))
    go_ret
    exact ⟨ret_bool (by simp [ht]), (((Below.refl _ w).alloc (Nat.le_refl _) _).alloc (by simp) _).trans (HB.out.mono (by simp; omega))⟩)
end Go.Proofs.Ytbcmhnaiabifjaa

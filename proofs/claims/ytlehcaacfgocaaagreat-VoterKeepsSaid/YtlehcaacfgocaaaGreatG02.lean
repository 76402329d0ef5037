import Derived.Test.YtlehcaacfgocaaaGreatG01
import Derived.Laws.OwnMore
import Derived.OwnWalk
import Derived.Deep.QuietTactic
import Derived.BigQuiet
import Derived.Deep.MidRow
import Derived.Laws.ResultCell
import Derived.Deep.Light
/- The mathematics of commands and values as bytes: what is put is taken, and its bytes are the only ones. -/
namespace Go.Proofs.YtlehcaacfgocaaaGreat

def C7.bytes (c : C7) : List UInt8 := oneN c.i.toNat ++ (oneN c.k.toNat ++ (oneN c.s.toNat ++ (oneN c.t.toNat ++ (oneN c.d.toNat ++ (oneN c.p.toNat ++ oneN c.q.toNat)))))
end Go.Proofs.YtlehcaacfgocaaaGreat
/- The document's numbers as bytes: in, One, Put, Nums. -/

namespace Go.Proofs.YtlehcaacfgocaaaGreat
set_option linter.unusedVariables false
open Go.RowKit
open Go.Lib (hid)

/-- Bytes as the model has them. -/
def octs (l : List UInt8) : List Value := l.map fun b => .int .u8 b.toNat
theorem octs_append (a b : List UInt8) : octs (a ++ b) = octs a ++ octs b := by simp [octs]
/-- A slice of bytes that the call itself made. -/
abbrev OwnB (w : World) (B : Nat) (v : Value) (l : List UInt8) : Prop := w.ownsRow B 5 1 v l.length (octs l)
theorem OwnB.nil (w : World) (B : Nat) : OwnB w B (.slice none 0 0) [] := World.ownsRow_nil _ _ _ _
theorem OwnB.shape {w : World} {B : Nat} {v : Value} {l : List UInt8} (h : OwnB w B v l) :
    (v = .slice none 0 0 ∧ l = []) ∨ ∃ g cap, v = .slice (some ⟨g, 0, none⟩) l.length cap ∧ B ≤ g ∧ g < w.heap.size ∧ ∀ (j : Nat) b, l[j]? = some b → w.cell? ⟨g, j, none⟩ = some (.int .u8 b.toNat) := by
  have hl := h.lt
  rcases h.2 with ⟨rfl, h0⟩ | ⟨g, cap, cur, rfl, hb, hg, hn, hm, hs, ht⟩
  · exact .inl ⟨rfl, List.length_eq_zero_iff.1 h0⟩
  · refine .inr ⟨g, cap, rfl, hb, (hl g rfl).2, fun j b hj => ?_⟩
    have hj' := (List.getElem?_eq_some_iff.1 hj).1
    rw [h.cellAt j (by omega)]
    simp [octs, hj]
theorem own_monoB {w : World} {B B' : Nat} {e : TypeId} {size : Nat} {v : Value} {n : Nat} {xs : List Value} (h : w.ownsRow B e size v n xs) (hB : B' ≤ B) : w.ownsRow B' e size v n xs := by
  refine ⟨h.1, ?_⟩
  rcases h.2 with h2 | ⟨g, cap, cur, rfl, hb, r⟩
  · exact .inl h2
  · exact .inr ⟨g, cap, cur, rfl, Nat.le_trans hB hb, r⟩
theorem OwnB.below {w w' : World} {B C : Nat} {v : Value} {l : List UInt8} (h : OwnB w B v l) (hb : Below C w w') (hC : ∀ k, v.ownBlock = some k → k < C) : OwnB w' B v l := by
  refine ⟨h.1, ?_⟩
  rcases h.2 with h2 | ⟨g, cap, cur, rfl, h1, hg, r⟩
  · exact .inl h2
  · exact .inr ⟨g, cap, cur, rfl, h1, by rw [hb.block g (hC g rfl)]; exact hg, r⟩

end Go.Proofs.YtlehcaacfgocaaaGreat
/- The document's Put, Nums: numbers' bytes, one behind the other. -/
namespace Go.Proofs.YtlehcaacfgocaaaGreat
set_option linter.unusedVariables false
open Go.RowKit
open Go.Lib (hid)

/-- Numbers behind an address. -/
def SlN (w : World) (v : Value) (l : List Int) : Prop :=
  ∃ (b o cap : Nat) (a : Option Addr), v = .slice a l.length cap ∧ (0 < l.length → a = some ⟨b, o, none⟩) ∧ (∀ (j : Nat) x, l[j]? = some x → w.cell? ⟨b, o + j, none⟩ = some (.int .i64 x)) ∧ (0 < l.length → b < w.heap.size)
theorem SlN.on {w w' : World} {v : Value} {l : List Int} (h : SlN w v l) (hb : Below w.heap.size w w') : SlN w' v l := by
  obtain ⟨b, o, cap, a, rfl, ha, hc, hl⟩ := h
  refine ⟨b, o, cap, a, rfl, ha, fun j x hx => ?_, fun h0 => by have := hl h0; have := hb.size; omega⟩
  have h0 : 0 < l.length := by have := (List.getElem?_eq_some_iff.1 hx).1; omega
  rw [hb.cell (p := ⟨b, o + j, none⟩) (hl h0)]
  exact hc j x hx
theorem OwnB.grows {w W0 w1 : World} {B n : Nat} {v v' : Value} {a b : List UInt8} (hB : Below B w W0) (hsz : B ≤ W0.heap.size) (hlt : ∀ k, v.ownBlock = some k → B ≤ k)
    (hown' : w1.ownsRow B 5 1 v' n (octs a ++ octs b)) (hn : n = a.length + b.length) (hg : W0.grownBy w1 v.ownBlock) : OwnB w1 B v' (a ++ b) ∧ Below B w w1 :=
  ⟨by unfold OwnB; rw [octs_append, List.length_append, ← hn]; exact hown', hB.grown hg hsz hlt⟩

theorem OwnB.asSlice {w : World} {B : Nat} {v : Value} {l : List UInt8} (h : OwnB w B v l) : ∃ (g : Option Addr) (cap n : Nat), v = .slice g n cap ∧ n = l.length := by
  rcases h.shape with ⟨e, e'⟩ | ⟨g, cap, e, _⟩
  · exact ⟨none, 0, 0, e, by rw [e']; rfl⟩
  · exact ⟨_, cap, _, e, rfl⟩

/-- A command's numbers. -/
def C7.nums (c : C7) : List Int := [c.i, c.k, c.s, c.t, c.d, c.p, c.q]
end Go.Proofs.YtlehcaacfgocaaaGreat
/- Whether commands are a set: the program's Right, and the document's. -/
namespace Go.Proofs.YtlehcaacfgocaaaGreat
set_option linter.unusedVariables false
open Go.RowKit
open Go.Lib (hid)

theorem rise_next {cs : List C7} {k : Nat} {x y : C7} (h : RiseTo cs k) (hx : cs[k - 1]? = some x) (hy : cs[k]? = some y) (hlt : x.i < y.i) : RiseTo cs (k + 1) := fun j h1 hj u z hu hz => by
  by_cases e : j = k
  · subst e; rw [hx] at hu; rw [hy] at hz; rw [← Option.some.inj hu, ← Option.some.inj hz]; exact hlt
  · exact h j h1 (by omega) u z hu hz
theorem rise_short {cs : List C7} (h : cs.length ≤ 1) : risesB cs = true := RiseTo.yes fun j h1 hj => by omega
theorem rise_one (cs : List C7) : RiseTo cs 1 := fun j h1 hj => by omega
set_option maxHeartbeats 600000 in
set_option maxRecDepth 100000 in
theorem cSetRight {v : Value} {cs : List C7} {w : World} (h : Sl w v cs) (hl : cs.length ≤ 1024) : Calls Tryz.prog 110 #[v] w fun e w' => e = .returned (.bool (setB cs)) ∧ Below w.heap.size w w' := by
  have hR := cRight' h (by omega)
  obtain ⟨b, o, cap, a, rfl, hn, ha, hc, hb⟩ := h
  rcases hok : cs.all C7.ok with _ | _
  · rw [hok] at hR
    have HS := hid (show setB cs = false from by unfold setB; rw [hok]; simp)
    clear hok
    go_enter Tryz.func110, Tryz.ntmps110
    go_wp2_with (go_at_call 64; refine hR.mono ?_; rintro e w' ⟨rfl, hB⟩)
    go_ret
    exact ⟨ret_bool HS.out.symm, hB⟩
  · rw [hok] at hR
    have HS := hid (show setB cs = risesB cs from by unfold setB; rw [hok, decide_eq_true hl]; simp)
    clear hok
    go_enter Tryz.func110, Tryz.ntmps110
    go_wp2_with (go_at_call 64; refine hR.mono ?_; rintro e w' ⟨rfl, hB'⟩)
    go_loopw [3] (fun i wr => ∃ k : Nat, 1 ≤ k ∧ (k ≤ cs.length ∨ k = 1) ∧ i = .int .i64 k ∧ Hid (RiseTo cs k) ∧ Below w.heap.size w wr) (fun i _ => cs.length - (intOf i).toNat)
    case atStart => exact ⟨1, Nat.le_refl _, .inr rfl, rfl, rise_one _, hB'⟩
    case round =>
      clear hB'
      obtain ⟨k, h1k, hk, rfl, hak, hB⟩ := hrel
      by_cases hlt : k < cs.length
      · obtain rfl := ha (by omega)
        obtain ⟨m, rfl⟩ : ∃ m, k = m + 1 := ⟨k - 1, by omega⟩
        obtain ⟨x, hx⟩ : ∃ x, cs[m]? = some x := ⟨cs[m], List.getElem?_eq_getElem (by omega)⟩
        obtain ⟨y, hy⟩ : ∃ y, cs[m + 1]? = some y := ⟨cs[m + 1], List.getElem?_eq_getElem hlt⟩
        have hbw := hb (by omega)
        have c0 := ((hc.on hB hbw).at hx).1
        have d0 := ((hc.on hB hbw).at hy).1
        have HX := hid (And.intro hx hy)
        have HB := hid hB
        clear hx hy hB
        by_cases hxy : x.i < y.i
        · have HI := hid hxy
          go_wp2
          go_quiet (fail)
          go_wp2
          go_roundw
          case rel => exact ⟨m + 1 + 1, by omega, .inl (by omega), by go_num, rise_next hak.out HX.out.1 HX.out.2 HI.out, Below.drewN' HB.out _⟩
          case measure => simp [intOf]; omega
        · have HI := hid hxy
          go_wp2
          go_quiet (fail)
          go_wp2
          go_ret
          exact ⟨ret_bool (HS.out.trans (rises_no (k := m + 1) HX.out.1 HX.out.2 (by omega) HI.out)).symm, Below.drewN' HB.out _⟩
      · have HE : Hid (risesB cs = true) := by
          rcases hk with hk | hk
          · have : k = cs.length := by omega
            exact RiseTo.yes (this ▸ hak.out)
          · exact rise_short (by omega)
        clear hk
        go_wp2
        go_ret
        exact ⟨ret_bool (HS.out.trans HE.out).symm, hB⟩

set_option maxHeartbeats 600000 in
set_option maxRecDepth 100000 in
theorem rSetRight {v : Value} {cs : List C7} {w : World} (h : Sl w v cs) (hl : cs.length ≤ 1024) : Calls Tryz.prog 80 #[v] w fun e w' => e = .returned (.bool (setB cs)) ∧ Below w.heap.size w w' := by
  have HH := hid h
  obtain ⟨b, o, cap, a, rfl, hn, ha, hc, hb⟩ := h
  go_enter Tryz.func80, Tryz.ntmps80
  go_wp2
  go_loopw [3] (fun i wr => ∃ k : Nat, 1 ≤ k ∧ (k ≤ cs.length ∨ k = 1) ∧ i = .int .i64 k ∧ Hid (RiseTo cs k) ∧ Below w.heap.size w wr) (fun i _ => cs.length - (intOf i).toNat)
  case atStart => exact ⟨1, Nat.le_refl _, .inr rfl, rfl, rise_one _, Below.refl _ _⟩
  case round =>
    obtain ⟨k, h1k, hk, rfl, hak, hB⟩ := hrel
    by_cases hlt : k < cs.length
    · obtain rfl := ha (by omega)
      obtain ⟨m, rfl⟩ : ∃ m, k = m + 1 := ⟨k - 1, by omega⟩
      obtain ⟨x, hx⟩ : ∃ x, cs[m]? = some x := ⟨cs[m], List.getElem?_eq_getElem (by omega)⟩
      obtain ⟨y, hy⟩ : ∃ y, cs[m + 1]? = some y := ⟨cs[m + 1], List.getElem?_eq_getElem hlt⟩
      have hbw := hb (by omega)
      have c0 := ((hc.on hB hbw).at hx).1
      have d0 := ((hc.on hB hbw).at hy).1
      have HX := hid (And.intro hx hy)
      have HB := hid hB
      clear hx hy hB
      by_cases hxy : x.i < y.i
      · have HI := hid hxy
        go_wp2
        go_quiet (fail)
        go_wp2
        go_roundw
        case rel => exact ⟨m + 1 + 1, by omega, .inl (by omega), by go_num, rise_next hak.out HX.out.1 HX.out.2 HI.out, Below.drewN' HB.out _⟩
        case measure => simp [intOf]; omega
      · have HI := hid hxy
        go_wp2
        go_quiet (fail)
        go_wp2
        go_ret
        exact ⟨ret_bool (by unfold setB; rw [rises_no (k := m + 1) HX.out.1 HX.out.2 (by omega) HI.out]; simp), Below.drewN' HB.out _⟩
    · have HE : Hid (risesB cs = true) := by
        rcases hk with hk | hk
        · have : k = cs.length := by omega
          exact RiseTo.yes (this ▸ hak.out)
        · exact rise_short (by omega)
      clear hk
      have hR := rRights' (HH.out.on hB) (by omega)
      rcases hok : cs.all C7.ok with _ | _
      · rw [hok] at hR
        have HS := hid (show setB cs = false from by unfold setB; rw [hok]; simp)
        clear hok
        go_wp2_with (go_at_call 82; refine hR.mono ?_; rintro e w' ⟨rfl, hB'⟩)
        go_ret
        exact ⟨ret_bool HS.out.symm, hB.trans (hB'.mono hB.size)⟩
      · rw [hok] at hR
        have HS := hid (show setB cs = true from by unfold setB; rw [hok, HE.out, decide_eq_true hl]; rfl)
        clear hok
        go_wp2_with (go_at_call 82; refine hR.mono ?_; rintro e w' ⟨rfl, hB'⟩)
        go_ret
        exact ⟨ret_bool (by rw [HS.out]; exact decide_eq_true (by omega)), hB.trans (hB'.mono hB.size)⟩
end Go.Proofs.YtlehcaacfgocaaaGreat
/- The document's PutCmds and PutValue: commands' bytes, a value's. -/

namespace Go.Proofs.YtlehcaacfgocaaaGreat
set_option linter.unusedVariables false
open Go.RowKit
open Go.Lib (hid)

def ints (l : List Int) : List Value := l.map (Value.int .i64)
theorem ints_append (a b : List Int) : ints (a ++ b) = ints a ++ ints b := by simp [ints]
abbrev OwnN (w : World) (B : Nat) (v : Value) (l : List Int) : Prop := w.ownsRow B 3 1 v l.length (ints l)
theorem OwnN.sl {w : World} {B : Nat} {v : Value} {l : List Int} (h : OwnN w B v l) : SlN w v l := by
  have hl := h.lt
  rcases h.2 with ⟨rfl, h0⟩ | ⟨g, cap, cur, rfl, hb, hg, hn, hm, hs, ht⟩
  · obtain rfl := List.length_eq_zero_iff.1 h0
    exact ⟨0, 0, 0, none, rfl, fun h => absurd h (by simp), fun j x hx => by simp at hx, fun h => absurd h (by simp)⟩
  · refine ⟨g, 0, cap, _, rfl, fun _ => rfl, fun j x hx => ?_, fun _ => (hl g rfl).2⟩
    have hj := (List.getElem?_eq_some_iff.1 hx).1
    rw [Nat.zero_add, h.cellAt j (by omega)]
    simp [ints, hx]
theorem own_below {w w' : World} {B C : Nat} {e : TypeId} {size : Nat} {v : Value} {n : Nat} {xs : List Value} (h : w.ownsRow B e size v n xs) (hb : Below C w w') (hC : ∀ k, v.ownBlock = some k → k < C) : w'.ownsRow B e size v n xs := by
  refine ⟨h.1, ?_⟩
  rcases h.2 with h2 | ⟨g, cap, cur, rfl, h1, hg, r⟩
  · exact .inl h2
  · exact .inr ⟨g, cap, cur, rfl, h1, by rw [hb.block g (hC g rfl)]; exact hg, r⟩
theorem OwnN.asSlice {w : World} {B : Nat} {v : Value} {l : List Int} (h : OwnN w B v l) : ∃ (g : Option Addr) (cap n : Nat), v = .slice g n cap ∧ n = l.length := by
  rcases h.2 with ⟨rfl, h0⟩ | ⟨g, cap, cur, rfl, _⟩
  · exact ⟨none, 0, 0, rfl, h0.symm⟩
  · exact ⟨_, cap, _, rfl, rfl⟩

theorem OwnN.grows {w W0 w1 : World} {B n : Nat} {v v' : Value} {a b : List Int} (hB : Below B w W0) (hsz : B ≤ W0.heap.size) (hlt : ∀ k, v.ownBlock = some k → B ≤ k)
    (hown' : w1.ownsRow B 3 1 v' n (ints a ++ ints b)) (hn : n = a.length + b.length) (hg : W0.grownBy w1 v.ownBlock) : OwnN w1 B v' (a ++ b) ∧ Below B w w1 :=
  ⟨by unfold OwnN; rw [ints_append, List.length_append, ← hn]; exact hown', hB.grown hg hsz hlt⟩
end Go.Proofs.YtlehcaacfgocaaaGreat
/- The document's PutValue: a value's bytes. -/
namespace Go.Proofs.YtlehcaacfgocaaaGreat
set_option linter.unusedVariables false
open Go.RowKit
open Go.Lib (hid)

theorem OwnB.some {w : World} {B : Nat} {v : Value} {l : List UInt8} (h : OwnB w B v l) (hl : l ≠ []) : ∃ g cap, v = .slice (Option.some ⟨g, 0, none⟩) l.length cap := by
  rcases h.shape with ⟨_, e⟩ | ⟨g, cap, e, _⟩
  · exact absurd e hl
  · exact ⟨g, cap, e⟩
end Go.Proofs.YtlehcaacfgocaaaGreat
/- A reader, the program's or the document's: what stands in its two cells. -/
namespace Go.Proofs.YtlehcaacfgocaaaGreat
set_option linter.unusedVariables false
open Go.RowKit
open Go.Lib (hid)

/-- Bytes behind an address. -/
def SlB (w : World) (v : Value) (l : List UInt8) : Prop :=
  ∃ (b o cap : Nat) (a : Option Addr), v = .slice a l.length cap ∧ (a = none → cap = 0) ∧ l.length ≤ cap ∧ (0 < l.length → a = some ⟨b, o, none⟩) ∧ (∀ (j : Nat) x, l[j]? = some x → w.cell? ⟨b, o + j, none⟩ = some (.int .u8 x.toNat)) ∧ (0 < l.length → b < w.heap.size)
theorem SlB.nil (w : World) : SlB w (.slice none 0 0) [] := ⟨0, 0, 0, none, rfl, fun _ => rfl, Nat.le_refl _, fun h => absurd h (by simp), fun j x hx => by simp at hx, fun h => absurd h (by simp)⟩
/-- The reader at block p: its bytes lie in a block of which F holds, its own is none of these. -/
def Rd (T : TypeId) (F : Nat → Prop) (w : World) (p : Nat) (s : St) : Prop :=
  ∃ v, w.heap[p]? = some (.cells #[v, .int .i64 s.2] T (0, 0)) ∧ SlB w v s.1 ∧ (∀ k, v.ownBlock = some k → F k) ∧ ¬ F p
theorem SlB.same {w w' : World} {v : Value} {l : List UInt8} (h : SlB w v l) (hs : w.heap.size ≤ w'.heap.size) (hb : ∀ k, v.ownBlock = some k → k < w.heap.size → w'.heap[k]? = w.heap[k]?) : SlB w' v l := by
  obtain ⟨b, o, cap, a, rfl, hn, hc, ha, hcl, hl⟩ := h
  refine ⟨b, o, cap, a, rfl, hn, hc, ha, fun j x hx => ?_, fun h0 => by have := hl h0; omega⟩
  have h0 : 0 < l.length := by have := (List.getElem?_eq_some_iff.1 hx).1; omega
  obtain rfl := ha h0
  have := hb b rfl (hl h0)
  rw [← hcl j x hx]
  simp only [World.cell?, this]
theorem SlB.on {w w' : World} {v : Value} {l : List UInt8} (h : SlB w v l) (hb : Below w.heap.size w w') : SlB w' v l := h.same hb.size fun k _ hk => hb.block k hk
theorem Rd.lt {T : TypeId} {F : Nat → Prop} {w : World} {p : Nat} {s : St} (h : Rd T F w p s) : p < w.heap.size := by
  obtain ⟨v, hp, _⟩ := h
  exact (Array.getElem?_eq_some_iff.1 hp).1
theorem Rd.out {T : TypeId} {F : Nat → Prop} {w : World} {p : Nat} {s : St} (h : Rd T F w p s) : ¬ F p := by
  obtain ⟨v, hp, _, _, hf⟩ := h
  exact hf
/-- What another reader's call does leaves this one alone. -/
theorem Rd.kept {T : TypeId} {F : Nat → Prop} {w w' : World} {p q : Nat} {s : St} (h : Rd T F w p s) (hg : w.grownBy w' (some q)) (hpq : p ≠ q) (hq : ¬ F q) : Rd T F w' p s := by
  have hl := h.lt
  obtain ⟨v, hp, hs, hF, hf⟩ := h
  refine ⟨v, ?_, hs.same hg.size fun k hk hlt => hg.block k hlt fun e => hq (by cases e; exact hF _ hk), hF, hf⟩
  rw [hg.block p hl (fun e => hpq (by cases e; rfl))]; exact hp
theorem Rd.on {T : TypeId} {F : Nat → Prop} {w w' : World} {p : Nat} {s : St} (h : Rd T F w p s) (hb : Below w.heap.size w w') : Rd T F w' p s := by
  have hl := h.lt
  obtain ⟨v, hp, hs, hF, hf⟩ := h
  exact ⟨v, by rw [hb.block p hl]; exact hp, hs.on hb, hF, hf⟩
theorem Rd.cells {T : TypeId} {F : Nat → Prop} {w : World} {p : Nat} {s : St} (h : Rd T F w p s) : ∃ v, w.heap[p]? = some (.cells #[v, .int .i64 s.2] T (0, 0)) ∧ p < w.heap.size ∧ w.cell? ⟨p, 0, none⟩ = some v ∧ w.cell? ⟨p, 1, none⟩ = some (.int .i64 s.2) ∧ w.frozen? ⟨p, 0, none⟩ = false ∧ w.frozen? ⟨p, 1, none⟩ = false ∧ SlB w v s.1 ∧ (∀ k, v.ownBlock = some k → F k) := by
  obtain ⟨v, hp, hs, hF, hf⟩ := h
  exact ⟨v, hp, (Array.getElem?_eq_some_iff.1 hp).1, by simp [World.cell?, hp], by simp [World.cell?, hp], by simp [World.frozen?, hp], by simp [World.frozen?, hp], hs, hF⟩

theorem grownSet (w : World) (a : Addr) (u : Value) : w.grownBy (w.setCell a u) (some a.block) :=
  ⟨rfl, rfl, rfl, by simp [World.setCell], fun k _ hk => by
    have hne : a.block ≠ k := fun e => hk (by rw [e])
    simp [World.setCell, Array.getElem?_modify, hne]⟩
theorem grownRefl (w : World) (row : Option Nat) : w.grownBy w row := ⟨rfl, rfl, rfl, Nat.le_refl _, fun _ _ _ => rfl⟩
theorem grownBelow {a b : World} (h : Below a.heap.size a b) (row : Option Nat) : a.grownBy b row := ⟨h.os, h.tape, h.output, h.size, fun k hk _ => h.block k hk⟩
theorem SlB.drop {w : World} {b o cap : Nat} {l : List UInt8} (k : Nat) (hk : k ≤ l.length) (hlen : 0 < l.length) (hc : ∀ (j : Nat) x, l[j]? = some x → w.cell? ⟨b, o + j, none⟩ = some (.int .u8 x.toNat)) (hn : l.length ≤ cap) (hb : b < w.heap.size) :
    SlB w (.slice (some ⟨b, o + k, none⟩) (l.length - k) (cap - k)) (l.drop k) := by
  refine ⟨b, o + k, cap - k, _, by rw [List.length_drop], by simp, by rw [List.length_drop]; omega, fun _ => rfl, fun j x hx => ?_, fun _ => hb⟩
  rw [List.getElem?_drop] at hx
  rw [Nat.add_assoc]; exact hc _ x hx

theorem SlB.nothing {w : World} {a : Option Addr} {n c : Nat} {l : List UInt8} (hl : l.length = 0) (hn : n = 0) (hc : c = 0) : SlB w (.slice a n c) l := by
  subst hn hc
  obtain rfl := List.length_eq_zero_iff.1 hl
  exact ⟨0, 0, 0, a, rfl, fun _ => rfl, Nat.le_refl _, fun h => absurd h (by simp), fun j x hx => by simp at hx, fun h => absurd h (by simp)⟩
theorem SlB.of {w : World} {v v' : Value} {l : List UInt8} (h : SlB w v l) (e : v' = v) : SlB w v' l := e ▸ h

end Go.Proofs.YtlehcaacfgocaaaGreat
/- The document's reader: fail, Num. -/
namespace Go.Proofs.YtlehcaacfgocaaaGreat
set_option linter.unusedVariables false
open Go.RowKit
open Go.Lib (hid)

end Go.Proofs.YtlehcaacfgocaaaGreat
/- Cells that a call makes for itself, beside a reader. -/
namespace Go.Proofs.YtlehcaacfgocaaaGreat
set_option linter.unusedVariables false
open Go.RowKit
open Go.Lib (hid)

theorem Rd.alloc {T : TypeId} {F : Nat → Prop} {w : World} {p : Nat} {s : St} (h : Rd T F w p s) (o : Obj) : Rd T F (w.alloc o) p s := h.on ((Below.refl _ w).alloc (Nat.le_refl _) o)
theorem Rd.drewN {T : TypeId} {F : Nat → Prop} {w : World} {p : Nat} {s : St} (h : Rd T F w p s) (n : Nat) : Rd T F (w.drewN n) p s := h.on (Below.drewN' (Below.refl _ w) n)
theorem setAt {w : World} {q j : Nat} {vs : Array Value} {x : Value} {t : TypeId} (h : w.heap[q]? = some (.cells vs t (0, 0))) : (w.setCell ⟨q, j, none⟩ x).heap[q]? = some (.cells (vs.setIfInBounds j x) t (0, 0)) := by
  show (w.heap.modify q _)[q]? = _
  obtain ⟨hlt, hk⟩ := Array.getElem?_eq_some_iff.1 h
  rw [Array.getElem?_eq_getElem (by rw [Array.size_modify]; exact hlt), Array.getElem_modify_self, hk]
  rfl
theorem cellAt' {w : World} {q : Nat} {vs : Array Value} {t : TypeId} (h : w.heap[q]? = some (.cells vs t (0, 0))) (j : Nat) : w.cell? ⟨q, j, none⟩ = vs[j]? := cell_of_row w q j vs t (0, 0) h
theorem frozenAt {w : World} {q : Nat} {vs : Array Value} {t : TypeId} (h : w.heap[q]? = some (.cells vs t (0, 0))) (j : Nat) : w.frozen? ⟨q, j, none⟩ = false := by simp [World.frozen?, h]
theorem OwnN.cell {w : World} {B : Nat} {v : Value} {l : List Int} (h : OwnN w B v l) (h0 : 0 < l.length) : ∃ g cap, v = .slice (some ⟨g, 0, none⟩) l.length cap ∧ B ≤ g ∧ g < w.heap.size ∧ ∀ (j : Nat) x, l[j]? = some x → w.cell? ⟨g, j, none⟩ = some (.int .i64 x) := by
  have hl := h.lt
  rcases h.2 with ⟨rfl, e0⟩ | ⟨g, cap, cur, rfl, hb, hg, hn, hm, hs, ht⟩
  · omega
  · refine ⟨g, cap, rfl, hb, (hl g rfl).2, fun j x hx => ?_⟩
    have hj := (List.getElem?_eq_some_iff.1 hx).1
    rw [h.cellAt j (by omega)]
    simp [ints, hx]

end Go.Proofs.YtlehcaacfgocaaaGreat
/- Entries: the raw cells of one, and what the document asks of it; Valid, ballot, Full, None, must; SameValue of any two values. -/


namespace Go.Proofs.YtlehcaacfgocaaaGreat
set_option linter.unusedVariables false
open Go.RowKit
open Go.Lib (hid)

def validB (t : Int) : Bool := decide (16 ≤ t ∧ t < 1048576 ∧ t % 16 ≤ 8)
theorem rValid (t : Int) (w : World) : Calls Tryz.prog 55 #[.int .i64 t] w fun e w' => e = .returned (.bool (validB t)) ∧ w = w' := by
  by_cases h0 : 16 ≤ t
  · by_cases h1 : t < 1048576
    · by_cases h2 : t % 16 ≤ 8
      · go_enter Tryz.func55, Tryz.ntmps55
        go_wp2
        go_ret
        exact ⟨ret_bool (by unfold validB; symm; simp; omega), rfl⟩
      · go_enter Tryz.func55, Tryz.ntmps55
        go_wp2
        go_ret
        exact ⟨ret_bool (by unfold validB; symm; simp; omega), rfl⟩
    · go_enter Tryz.func55, Tryz.ntmps55
      go_wp2
      go_ret
      exact ⟨ret_bool (by unfold validB; symm; simp; omega), rfl⟩
  · go_enter Tryz.func55, Tryz.ntmps55
    go_wp2
    go_ret
    exact ⟨ret_bool (by unfold validB; symm; simp; omega), rfl⟩
theorem rBallot (t : Int) (w : World) : Calls Tryz.prog 57 #[.int .i64 t] w fun e w' => e = .returned (.bool (withinB t 1048576)) ∧ w = w' := by
  by_cases h0 : 0 ≤ t
  · go_enter Tryz.func57, Tryz.ntmps57
    go_wp2
    go_ret
    exact ⟨ret_bool (by unfold withinB; symm; simp; omega), rfl⟩
  · go_enter Tryz.func57, Tryz.ntmps57
    go_wp2
    go_ret
    exact ⟨ret_bool (by unfold withinB; symm; simp; omega), rfl⟩

def fullB (t : Int) (l : List C7) : Bool := validB t && setB l
def noneB (t : Int) (l : List C7) : Bool := decide (t = 0) && decide (l.length = 0)
def mustB (t : Int) (l : List C7) (is : Bool) : Bool := (is && fullB t l) || (!is && noneB t l)
abbrev boxV (t : Int) (v : Value) : Obj := .cells #[.int .i64 t, v] 48

set_option maxHeartbeats 600000 in
set_option maxRecDepth 100000 in
theorem rFull {v : Value} {l : List C7} {w : World} (t : Int) (h : Sl w v l) (hl : l.length ≤ 1024) : Calls Tryz.prog 100 #[.agg #[.int .i64 t, v]] w fun e w' => e = .returned (.bool (fullB t l)) ∧ Below w.heap.size w w' := by
  obtain ⟨_, _, cap, a, hv, _⟩ := id h
  subst hv
  have hS := rSetRight (h.on ((Below.refl _ w).alloc (Nat.le_refl _) (boxV t (.slice a l.length cap)))) hl
  have hV := fun W => rValid t W
  rcases hv : validB t with _ | _
  · rw [hv] at hV
    have HE := hid (show fullB t l = false by unfold fullB; rw [hv]; rfl)
    clear hv
    go_enter Tryz.func100, Tryz.ntmps100
    go_wp2_with (first | (go_at_call 55; refine (hV _).mono ?_; rintro e w' ⟨rfl, rfl⟩) | (go_at_call 80; refine hS.mono ?_; rintro e w1 ⟨rfl, hB⟩; have HB := hid hB; clear hB))
    go_ret
    exact ⟨ret_bool HE.out.symm, ((Below.refl _ w).alloc (Nat.le_refl _) _).trans (HB.out.mono (by simp))⟩
  · rw [hv] at hV
    have HE := hid (show fullB t l = setB l by unfold fullB; rw [hv]; rfl)
    clear hv
    go_enter Tryz.func100, Tryz.ntmps100
    go_wp2_with (first | (go_at_call 55; refine (hV _).mono ?_; rintro e w' ⟨rfl, rfl⟩) | (go_at_call 80; refine hS.mono ?_; rintro e w1 ⟨rfl, hB⟩; have HB := hid hB; clear hB))
    go_ret
    exact ⟨ret_bool HE.out.symm, ((Below.refl _ w).alloc (Nat.le_refl _) _).trans (HB.out.mono (by simp))⟩

set_option maxHeartbeats 600000 in
set_option maxRecDepth 100000 in
theorem rNone {a : Option Addr} {n cap : Nat} {l : List C7} {w : World} (t : Int) (hn : n = l.length) : Calls Tryz.prog 101 #[.agg #[.int .i64 t, .slice a n cap]] w fun e w' => e = .returned (.bool (noneB t l)) ∧ Below w.heap.size w w' := by
  have HN := hid (show noneB t l = (decide (t = 0) && decide (n = 0)) by unfold noneB; rw [hn])
  clear hn
  by_cases ht : t = 0
  · subst ht
    go_enter Tryz.func101, Tryz.ntmps101
    go_wp2
    go_ret
    exact ⟨ret_bool (by rw [HN.out, Bool.eq_iff_iff]; simp), (Below.refl _ w).alloc (Nat.le_refl _) _⟩
  · go_enter Tryz.func101, Tryz.ntmps101
    go_wp2
    go_ret
    exact ⟨ret_bool (by rw [HN.out]; simp [ht]), (Below.refl _ w).alloc (Nat.le_refl _) _⟩

set_option maxHeartbeats 600000 in
set_option maxRecDepth 100000 in
theorem rMust {v : Value} {l : List C7} {w : World} (t : Int) (is : Bool) (h : Sl w v l) (hl : l.length ≤ 1024) : Calls Tryz.prog 56 #[.agg #[.int .i64 t, v], .bool is] w fun e w' => e = .returned (.bool (mustB t l is)) ∧ Below w.heap.size w w' := by
  have H := hid h
  obtain ⟨_, _, cap, a, hv, _⟩ := id h
  subst hv
  have hF := rFull t (h.on ((Below.refl _ w).alloc (Nat.le_refl _) (boxV t (.slice a l.length cap)))) hl
  have hN := fun W => rNone (a := a) (cap := cap) (l := l) (w := W) t rfl
  have HE := hid (show mustB t l is = ((is && fullB t l) || (!is && noneB t l)) from rfl)
  clear h
  rcases is with _ | _
  all_goals (
    go_enter Tryz.func56, Tryz.ntmps56
    go_wp2_with (first
      | (go_at_call 100; (
          refine hF.mono ?_
          rintro e w1 ⟨rfl, hB⟩
          obtain ⟨hcell, hz, hBw⟩ := box_cells hB
          have k0 : w1.cell? ⟨w.heap.size, 0, none⟩ = some (.int .i64 t) := hcell 0
          have k1 : w1.cell? ⟨w.heap.size, 1, none⟩ = some (.slice a l.length cap) := hcell 1
          have HB := hid hBw
          clear hB hcell hBw))
      | (go_at_call 101; (
          refine (hN _).mono ?_
          rintro e w2 ⟨rfl, hB⟩
          have HB2 := hid (HB.out.trans (hB.mono HB.out.size))
          clear hB)))
    all_goals (
      go_ret
      exact ⟨ret_bool (by rw [HE.out]; simp_all), HB2.out⟩))

end Go.Proofs.YtlehcaacfgocaaaGreat
/- Entries by value, their cells behind one name: what loads, stores and results of them come to. -/
namespace Go.Proofs.YtlehcaacfgocaaaGreat
set_option linter.unusedVariables false
open Go.RowKit
open Go.Lib (hid)

/-- A slice's three words. -/
structure Sv where
  a : Option Addr
  n : Nat
  c : Nat
/-- An entry's words. -/
structure Ev where
  c : C7
  pr : Int
  lo : Int
  hi : Int
  ft : Int
  fp : Sv
  ab : Int
  xt : Int
  xp : Sv
  fr : Bool
  dn : Bool
  vt : Int
  vp : Sv
abbrev Sv.v (s : Sv) : Value := .slice s.a s.n s.c
/-- Its cells. -/
def Ev.list (e : Ev) : List Value := [.int .i64 e.c.i, .int .i64 e.c.k, .int .i64 e.c.s, .int .i64 e.c.t, .int .i64 e.c.d, .int .i64 e.c.p, .int .i64 e.c.q, .int .i64 e.pr, .int .i64 e.lo, .int .i64 e.hi, .int .i64 e.ft, e.fp.v, .int .i64 e.ab, .int .i64 e.xt, e.xp.v, .bool e.fr, .bool e.dn, .int .i64 e.vt, e.vp.v]
def Ev.arr (e : Ev) : Array Value := e.list.toArray
theorem Ev.len (e : Ev) : e.list.length = 19 := rfl
theorem Ev.size (e : Ev) : e.arr.size = 19 := rfl
theorem Ev.toList (e : Ev) : e.arr.toList = e.list := by unfold Ev.arr; simp
theorem Ev.one (e : Ev) : e.arr.all (·.oneCell') = true := all_oneCell_toArray fun v hv => by
  unfold Ev.list at hv; simp at hv
  rcases hv with h | h | h | h | h | h | h | h | h | h | h | h | h | h | h | h | h | h | h <;> subst h <;> rfl

theorem rangeNew (w : World) (e : Ev) (T : TypeId) : (w.alloc (.cells e.arr T)).rangeAt w.heap.size 0 e.list := fun j v hv => by
  rw [Nat.zero_add, World.cell?_alloc_new, ← Ev.toList] at *
  simpa using hv
theorem thereNew (w : World) (C : Array Value) (T : TypeId) (n : Nat) (h : n ≤ C.size) : (w.alloc (.cells C T)).there w.heap.size 0 n := fun j hj => by
  rw [Nat.zero_add, World.cell?_alloc_new]
  refine ⟨?_, frozenAt (vs := C) (t := T) (heap_alloc_new w (.cells C T)) j⟩
  rw [Array.getElem?_eq_getElem (by omega)]; rfl
theorem below_cells {B : Nat} {a : World} {b : Nat} (hb : B ≤ b) : ∀ (vs : List Value) (o : Nat) (w : World), Below B a w → Below B a (w.setCells b o vs)
  | [], o, w, h => h
  | v :: vs, o, w, h => by
    show Below B a ((w.setCell ⟨b, o, none⟩ v).setCells b (o + 1) vs)
    exact below_cells hb vs (o + 1) _ (h.setCell hb v)
theorem ret_cell_tmp {P : Program} {fn : Func} {a : Act} {w : World} {p u : Tmp} {ty : TypeId} {b o : Nat} {cs : List Value} {d : TypeDesc} {v : Value} (h : fn.results = #[.cell p ty, .tmp u]) (hp : a.tmps.getD p undef = .pointer (some ⟨b, o, none⟩)) (hu : a.tmps.getD u undef = v)
    (hc : w.rangeAt b o cs) (ht : P.underlying ty = some d) (hd : d.isRow = true) (hi : (P.info? ty).map (·.size) = some cs.length) : (results fn a.tmps).run P w = .ok (.tuple #[.agg cs.toArray, v]) w := by
  rw [results_cell_tmp h, hp, hu]
  simp [asAddr, run_loadVar_mid w b o ty cs d hc ht hd hi, Result.andThen]
theorem infoE (e : Ev) : (Tryz.prog.info? 78).map (·.size) = some e.list.length := by rw [Ev.len]; kernel_rfl
theorem infoE' (e : Ev) : (Tryz.prog.info? 78).map (·.size) = some e.arr.size := by rw [Ev.size]; kernel_rfl

def promE (e : Ev) (b : Int) : Ev × Int := if withinB b 1048576 = false then (e, 1) else if b < e.pr then (e, 11) else ({ e with pr := b }, 0)

abbrev zeroE : Obj := .cells #[.int .i64 0, .int .i64 0, .int .i64 0, .int .i64 0, .int .i64 0, .int .i64 0, .int .i64 0, .int .i64 0, .int .i64 0, .int .i64 0, .int .i64 0, .slice none 0 0, .int .i64 0, .int .i64 0, .slice none 0 0, .bool false, .bool false, .int .i64 0, .slice none 0 0] 78
theorem setsE {w : World} {b : Nat} {e : Ev} (h : w.there b 0 19) : (w.setCells b 0 e.arr.toList).rangeAt b 0 e.list := by
  rw [Ev.toList]; exact World.rangeAt_setCells_same w b 0 e.list h

end Go.Proofs.YtlehcaacfgocaaaGreat
/- Entries by value: the document's Reserve, Ahead, Holds, and Of. -/
namespace Go.Proofs.YtlehcaacfgocaaaGreat
set_option linter.unusedVariables false
open Go.RowKit
open Go.Lib (hid)

def loE (e : Ev) (t : Int) : Int := if e.lo = 0 ∨ t < e.lo then t else e.lo
def hiE (e : Ev) (t : Int) : Int := if e.hi < t then t else e.hi
def resE (e : Ev) (t : Int) : Ev × Int := if validB t = false then (e, 1) else ({ e with lo := loE e t, hi := hiE e t }, 0)
def aheadE (e : Ev) (t : Int) : Bool := if e.dn = true then decide (e.vt < t) else (!decide (e.lo = 0) && decide (e.lo < t))
def holdsE (e : Ev) (t : Int) : Bool := !e.dn && decide (t < e.hi)
theorem newE_cell (w : World) (e : Ev) (T : TypeId) {j : Nat} {v : Value} (h : e.list[j]? = some v) : (w.alloc (.cells e.arr T)).cell? ⟨w.heap.size, j, none⟩ = some v := by
  have := rangeNew w e T j v h; rwa [Nat.zero_add] at this

end Go.Proofs.YtlehcaacfgocaaaGreat
/- A slice of commands that the call itself made, one command longer. -/
namespace Go.Proofs.YtlehcaacfgocaaaGreat
open Go.RowKit
open Go.Lib (hid)

theorem Own.more {w : World} {B : Nat} {v : Value} {cs : List C7} {c : C7} (h : w.ownsRow B 45 7 v (cs.length + 1) (flat cs ++ c.cells)) : Own w B v (cs ++ [c]) := by
  unfold Own; rw [flat_append, flat_single, List.length_append]; exact h
theorem Own.grows {w W0 w1 : World} {B : Nat} {v v' : Value} {cs : List C7} {c : C7} (hB : Below B w W0) (hsz : B ≤ W0.heap.size) (hlt : ∀ k, v.ownBlock = some k → B ≤ k)
    (hown' : w1.ownsRow B 45 7 v' (cs.length + 1) (flat cs ++ c.cells)) (hg : W0.grownBy w1 v.ownBlock) : Own w1 B v' (cs ++ [c]) ∧ Below B w w1 :=
  ⟨Own.more hown', hB.grown hg hsz hlt⟩

theorem new_cell {W : World} {c : C7} {g : Nat} (hg : g = W.heap.size) : ∀ (j : Nat) u, c.cells[j]? = some u → (W.alloc (.cells #[.int .i64 c.i, .int .i64 c.k, .int .i64 c.s, .int .i64 c.t, .int .i64 c.d, .int .i64 c.p, .int .i64 c.q] 45)).cell? ((⟨g, 0, none⟩ : Addr).add j) = some u := by
  intro j u hj
  subst hg
  rw [show (⟨W.heap.size, 0, none⟩ : Addr).add j = ⟨W.heap.size, j, none⟩ from by unfold Addr.add; split <;> simp_all, World.cell?_alloc_new, List.getElem?_toArray]
  exact hj
theorem cells_one (c : C7) : ∀ u ∈ c.cells, u.oneCell' = true := by
  intro u hu; simp at hu; rcases hu with rfl | rfl | rfl | rfl | rfl | rfl | rfl <;> rfl

end Go.Proofs.YtlehcaacfgocaaaGreat
/- Commands one behind the other, as states: what the loops over them keep. -/

namespace Go.Proofs.YtlehcaacfgocaaaGreat
set_option linter.unusedVariables false
open Go.RowKit
open Go.Lib (hid)

theorem Own.asSlice {w : World} {B : Nat} {v : Value} {cs : List C7} (h : Own w B v cs) : ∃ (g : Option Addr) (cap n : Nat), v = .slice g n cap ∧ n = cs.length := by
  rcases h.shape with ⟨e, e'⟩ | ⟨g, cap, e, _⟩
  · exact ⟨none, 0, 0, e, by rw [e']; rfl⟩
  · exact ⟨_, cap, _, e, rfl⟩
end Go.Proofs.YtlehcaacfgocaaaGreat

/- A value behind its number and its commands, as states. -/
namespace Go.Proofs.YtlehcaacfgocaaaGreat
set_option linter.unusedVariables false
open Go.RowKit
open Go.Lib (hid)

theorem heapB {w w' : World} {q B : Nat} {o : Obj} (h : w.heap[q]? = some o) (hB : Below B w w') (hq : q < B) : w'.heap[q]? = some o := by rw [hB.block q hq]; exact h
theorem own_sl_below {w w' : World} {B : Nat} {v : Value} {cs : List C7} (h : Own w B v cs) (hb : Below w.heap.size w w') : Own w' B v cs := own_below h hb fun k hk => (h.lt k hk).2
end Go.Proofs.YtlehcaacfgocaaaGreat

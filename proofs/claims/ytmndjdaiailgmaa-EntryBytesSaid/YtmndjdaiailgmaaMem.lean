/- Slices of commands in memory: as they come in, and as the calls make them. -/
import Derived.Test.YtmndjdaiailgmaaSets
import Derived.Laws.AppendOwn
import Derived.Laws.AppendOwnNone
import Derived.Laws.OwnMore
import Derived.OwnWalk
import Derived.WalkKit
namespace Go.Proofs.Ytmndjdaiailgmaa
open Go.RowKit
open Go.Lib (hid)

/-- The cells of commands, one behind the other. -/
def flat : List C7 → List Value
  | [] => []
  | c :: cs => c.cells ++ flat cs
theorem flat_len : ∀ cs : List C7, (flat cs).length = cs.length * 7
  | [] => rfl
  | c :: cs => by rw [flat, List.length_append, flat_len cs, List.length_cons]; simp; omega
theorem flat_append : ∀ a b : List C7, flat (a ++ b) = flat a ++ flat b
  | [], b => rfl
  | c :: a, b => by rw [List.cons_append, flat, flat, flat_append a b, List.append_assoc]
theorem flat_single (c : C7) : flat [c] = c.cells := by simp [flat]
theorem flat_one : ∀ (cs : List C7), ∀ u ∈ flat cs, u.oneCell' = true
  | [], u, hu => by simp [flat] at hu
  | c :: cs, u, hu => by
    rw [flat] at hu
    rcases List.mem_append.1 hu with hu | hu
    · simp at hu; rcases hu with rfl | rfl | rfl | rfl | rfl | rfl | rfl <;> rfl
    · exact flat_one cs u hu
theorem flat_at : ∀ (cs : List C7) (j : Nat) (c : C7), cs[j]? = some c → ∀ (f : Nat) v, c.cells[f]? = some v → (flat cs)[j * 7 + f]? = some v
  | [], j, c, h, _, _, _ => by simp at h
  | d :: cs, 0, c, h, f, v, hv => by
    simp at h; subst h
    have hf := (List.getElem?_eq_some_iff.1 hv).1
    rw [flat, Nat.zero_mul, Nat.zero_add, List.getElem?_append_left hf]; exact hv
  | d :: cs, j + 1, c, h, f, v, hv => by
    have := flat_at cs j c (by simpa using h) f v hv
    have h7 : d.cells.length = 7 := rfl
    rw [flat, List.getElem?_append_right (by omega), h7, show (j + 1) * 7 + f - 7 = j * 7 + f by omega]
    exact this
theorem flat_of (cs : List C7) (n : Nat) (v : Value) (h : (flat cs)[n]? = some v) : ∃ c, cs[n / 7]? = some c ∧ c.cells[n % 7]? = some v := by
  have hl := (List.getElem?_eq_some_iff.1 h).1
  rw [flat_len] at hl
  have hc : cs[n / 7]? = some (cs[n / 7]'(by omega)) := List.getElem?_eq_getElem (by omega)
  refine ⟨_, hc, ?_⟩
  have h7 : n % 7 < (cs[n / 7]'(by omega)).cells.length := Nat.mod_lt _ (by decide)
  have hv : (cs[n / 7]'(by omega)).cells[n % 7]? = some ((cs[n / 7]'(by omega)).cells[n % 7]) := List.getElem?_eq_getElem h7
  have := flat_at cs _ _ hc _ _ hv
  rw [show n / 7 * 7 + n % 7 = n by omega, h] at this
  rw [hv]; exact this.symm

/-- A slice that the call itself made holds the commands. -/
abbrev Own (w : World) (B : Nat) (v : Value) (cs : List C7) : Prop := w.ownsRow B 25 7 v cs.length (flat cs)
theorem Own.nil (w : World) (B : Nat) : Own w B (.slice none 0 0) [] := World.ownsRow_nil _ _ _ _
theorem Own.shape {w : World} {B : Nat} {v : Value} {cs : List C7} (h : Own w B v cs) :
    (v = .slice none 0 0 ∧ cs = []) ∨ ∃ g cap, v = .slice (some ⟨g, 0, none⟩) cs.length cap ∧ B ≤ g ∧ g < w.heap.size ∧ CmsAt w g 0 cs := by
  have hl := h.lt
  have hcl := fun g (hg : v.ownBlock = some g) => h.cells hg
  rcases h.2 with ⟨rfl, h0⟩ | ⟨g, cap, cur, rfl, hb, hg, hn, hm, hs, ht⟩
  · exact .inl ⟨rfl, List.length_eq_zero_iff.1 h0⟩
  · refine .inr ⟨g, cap, rfl, hb, (hl g rfl).2, fun j c hc f v hv => ?_⟩
    have := hcl g rfl _ _ (flat_at cs j c hc f v hv)
    rw [show (⟨g, 0, none⟩ : Addr).add (j * 7 + f) = ⟨g, 0 + (j * 7 + f), none⟩ from by unfold Addr.add; split <;> simp_all] at this
    exact this

/-- A slice of commands. -/
def Sl (w : World) (v : Value) (cs : List C7) : Prop :=
  ∃ (b o cap : Nat) (a : Option Addr), v = .slice a cs.length cap ∧ (a = none → cap = 0) ∧ (0 < cs.length → a = some ⟨b, o, none⟩) ∧ CmsAt w b o cs ∧ (0 < cs.length → b < w.heap.size)
theorem Own.sl {w : World} {B : Nat} {v : Value} {cs : List C7} (h : Own w B v cs) : Sl w v cs := by
  rcases h.shape with ⟨rfl, rfl⟩ | ⟨g, cap, rfl, hb, hl, hc⟩
  · exact ⟨0, 0, 0, none, rfl, fun _ => rfl, fun h => absurd h (by simp), fun j c hc => by simp at hc, fun h => absurd h (by simp)⟩
  · exact ⟨g, 0, cap, _, rfl, fun h => by simp at h, fun _ => rfl, hc, fun _ => hl⟩
theorem Sl.on {w w' : World} {v : Value} {cs : List C7} (h : Sl w v cs) (hb : Below w.heap.size w w') : Sl w' v cs := by
  obtain ⟨b, o, cap, a, rfl, hn, ha, hc, hl⟩ := h
  refine ⟨b, o, cap, a, rfl, hn, ha, ?_, fun h0 => by have := hl h0; have := hb.size; omega⟩
  intro j c hj
  have h0 : 0 < cs.length := by have := (List.getElem?_eq_some_iff.1 hj).1; omega
  exact hc.on hb (hl h0) j c hj
theorem Sl.src {w : World} {v : Value} {cs : List C7} (h : Sl w v cs) :
    (v = .slice none 0 0 ∧ cs = []) ∨ ∃ ad cap, v = .slice (some ad) cs.length cap ∧ (∀ (j : Nat) u, (flat cs)[j]? = some u → w.cell? (ad.add j) = some u) ∧ (flat cs ≠ [] → ad.block < w.heap.size) := by
  obtain ⟨b, o, cap, a, rfl, hn, ha, hc, hl⟩ := h
  rcases a with _ | ad
  · have h0 : cs.length = 0 := by
      rcases Nat.eq_zero_or_pos cs.length with h | h
      · exact h
      · have := ha h; simp at this
    exact .inl ⟨by rw [hn rfl, h0], List.length_eq_zero_iff.1 h0⟩
  · refine .inr ⟨ad, cap, rfl, fun j u hu => ?_, fun h0 => ?_⟩
    · obtain ⟨c, hj, hv⟩ := flat_of cs j u hu
      have h0 : 0 < cs.length := by have := (List.getElem?_eq_some_iff.1 hj).1; omega
      obtain rfl := Option.some.inj (ha h0)
      have := hc _ _ hj _ _ hv
      rw [show j / 7 * 7 + j % 7 = j by omega] at this
      rw [show (⟨b, o, none⟩ : Addr).add j = ⟨b, o + j, none⟩ from by unfold Addr.add; split <;> simp_all]
      exact this
    · have h0 : 0 < cs.length := by
        rcases cs with _ | _
        · simp [flat] at h0
        · simp
      obtain rfl := Option.some.inj (ha h0)
      exact hl h0

theorem Try.infoC : (Try.prog.info? 25).map (fun i => (i.zero, i.size, i.bytes)) = some (some (.agg #[.int .i64 0, .int .i64 0, .int .i64 0, .int .i64 0, .int .i64 0, .int .i64 0, .int .i64 0]), 7, 56) := by kernel_rfl
theorem Try.infoI : (Try.prog.info? 3).map (fun i => (i.zero, i.size, i.bytes)) = some (some (.int .i64 0), 1, 8) := by kernel_rfl

abbrev C7.v (c : C7) : Value := cmV c.i c.k c.s c.t c.d c.p c.q

theorem cRight' {v : Value} {cs : List C7} {w : World} (h : Sl w v cs) (hl : cs.length ≤ 100000) : Calls Try.prog 17 #[v] w fun e w' => e = .returned (.bool (cs.all C7.ok)) ∧ Below w.heap.size w w' := by
  obtain ⟨b, o, cap, a, rfl, hn, ha, hc, hb⟩ := h
  exact cRight b o cap a cs ha hl w hc hb
theorem rRights' {v : Value} {cs : List C7} {w : World} (h : Sl w v cs) (hl : cs.length ≤ 100000) : Calls Try.prog 87 #[v] w fun e w' => e = .returned (.bool (cs.all C7.ok)) ∧ Below w.heap.size w w' := by
  obtain ⟨b, o, cap, a, rfl, hn, ha, hc, hb⟩ := h
  exact rRights b o cap a cs ha hl w hc hb
end Go.Proofs.Ytmndjdaiailgmaa

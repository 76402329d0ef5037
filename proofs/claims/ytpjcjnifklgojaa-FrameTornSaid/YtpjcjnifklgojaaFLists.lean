/- Slices of slices of bytes: as the calls make them, as they come in. -/
import Derived.Test.YtpjcjnifklgojaaFFirst
namespace Go.Proofs.Ytpjcjnifklgojaa
set_option linter.unusedVariables false
open Go.RowKit
open Go.Lib (hid)

theorem Try.infoS : (Try.prog.info? 22).map (fun i => (i.zero, i.size, i.bytes)) = some (some (.slice none 0 0), 1, 24) := by kernel_rfl
/-- What the calls told: a slice of their own, of slices of their own. -/
def OwnL (w : World) (B : Nat) (v : Value) (ps : List (Sv × List UInt8)) : Prop := w.ownsRow B 22 1 v ps.length (ps.map fun p => p.1.v) ∧ ∀ p ∈ ps, OwnB w B p.1.v p.2
theorem OwnL.nil (w : World) (B : Nat) : OwnL w B (.slice none 0 0) [] := ⟨World.ownsRow_nil _ _ _ _, fun p hp => by simp at hp⟩
theorem rows_apart {w : World} {B B' : Nat} {e e' : TypeId} {s s' : Nat} {v v' : Value} {n n' : Nat} {xs xs' : List Value} (h : w.ownsRow B e s v n xs) (h' : w.ownsRow B' e' s' v' n' xs') (hne : e ≠ e') : v.ownBlock = none ∨ v.ownBlock ≠ v'.ownBlock := by
  rcases h.2 with ⟨rfl, _⟩ | ⟨g, cap, cur, rfl, _, hg, _⟩
  · exact .inl rfl
  · refine .inr fun hh => ?_
    rcases h'.2 with ⟨rfl, _⟩ | ⟨g', cap', cur', rfl, _, hg', _⟩
    · simp [Value.ownBlock] at hh
    · simp [Value.ownBlock] at hh
      subst hh
      rw [hg] at hg'
      injection hg' with h1
      injection h1 with h2 h3
      exact hne h3
theorem OwnL.alloc {w : World} {B : Nat} {v : Value} {ps : List (Sv × List UInt8)} (h : OwnL w B v ps) (o : Obj) : OwnL (w.alloc o) B v ps := ⟨World.ownsRow.alloc h.1 o, fun p hp => World.ownsRow.alloc (h.2 p hp) o⟩
theorem OwnL.on {w w' : World} {B : Nat} {v : Value} {ps : List (Sv × List UInt8)} (h : OwnL w B v ps) (hb : Below w.heap.size w w') : OwnL w' B v ps :=
  ⟨own_below h.1 hb (fun k hk => (h.1.lt k hk).2), fun p hp => own_below (h.2 p hp) hb (fun k hk => ((h.2 p hp).lt k hk).2)⟩
theorem OwnL.more {w W0 w1 : World} {B : Nat} {v v' : Value} {ps : List (Sv × List UInt8)} {s : Sv} {b : List UInt8} (h : OwnL W0 B v ps) (hb : OwnB W0 B s.v b) (hB : Below B w W0) (hsz : B ≤ W0.heap.size)
    (hown' : w1.ownsRow B 22 1 v' (ps.length + 1) ((ps.map fun p => p.1.v) ++ [s.v])) (hg : W0.grownBy w1 v.ownBlock) : OwnL w1 B v' (ps ++ [(s, b)]) ∧ Below B w w1 := by
  refine ⟨⟨?_, fun p hp => ?_⟩, hB.grown hg hsz (fun k hk => (h.1.lt k hk).1)⟩
  · rw [List.length_append, List.map_append]; exact hown'
  · rcases List.mem_append.1 hp with hp | hp
    · exact (h.2 p hp).kept hg (rows_apart (h.2 p hp) h.1 (by decide))
    · obtain rfl := List.mem_singleton.1 hp
      exact World.ownsRow.kept hb hg (rows_apart hb h.1 (by decide))
theorem OwnL.asSlice {w : World} {B : Nat} {v : Value} {ps : List (Sv × List UInt8)} (h : OwnL w B v ps) : ∃ (g : Option Addr) (cap n : Nat), v = .slice g n cap ∧ n = ps.length := by
  rcases h.1.2 with ⟨e, e'⟩ | ⟨g, cap, cur, e, _⟩
  · exact ⟨none, 0, 0, e, e'.symm⟩
  · exact ⟨_, cap, _, e, rfl⟩
theorem OwnB.sv {w : World} {B : Nat} {v : Value} {l : List UInt8} (h : OwnB w B v l) : ∃ s : Sv, v = s.v ∧ OwnB w B s.v l := by
  obtain ⟨g, cap, n, rfl, _⟩ := h.asSlice
  exact ⟨⟨g, n, cap⟩, rfl, h⟩

/-- A slice of slices of bytes. -/
def SlL (w : World) (v : Value) (ls : List (List UInt8)) : Prop :=
  ∃ (b o cap : Nat) (a : Option Addr) (ps : List (Sv × List UInt8)), ps.map (fun p => p.2) = ls ∧ v = .slice a ls.length cap ∧ ls.length ≤ cap ∧ (0 < ls.length → a = some ⟨b, o, none⟩) ∧ RowsB w b o ps ∧ (0 < ls.length → b < w.heap.size)
theorem SlL.on {w w' : World} {v : Value} {ls : List (List UInt8)} (h : SlL w v ls) (hb : Below w.heap.size w w') : SlL w' v ls := by
  obtain ⟨b, o, cap, a, ps, hp, rfl, hcap, ha, hr, hl⟩ := h
  refine ⟨b, o, cap, a, ps, hp, rfl, hcap, ha, fun j p hj => ?_, fun h0 => by have := hl h0; have := hb.size; omega⟩
  have h0 : 0 < ls.length := by rw [← hp, List.length_map]; have := (List.getElem?_eq_some_iff.1 hj).1; omega
  exact ⟨(hb.cell (p := ⟨b, o + j, none⟩) (hl h0)).trans (hr j p hj).1, (hr j p hj).2.on hb⟩
theorem OwnL.sl {w : World} {B : Nat} {v : Value} {ps : List (Sv × List UInt8)} (h : OwnL w B v ps) : SlL w v (ps.map fun p => p.2) := by
  have hlt := h.1.lt
  rcases h.1.2 with ⟨e, e'⟩ | ⟨g, cap, cur, rfl, hb, hg, hn, _⟩
  · obtain rfl := List.length_eq_zero_iff.1 e'
    exact ⟨0, 0, 0, none, [], rfl, e, Nat.le_refl _, fun h => absurd h (by simp), fun j p hj => by simp at hj, fun h => absurd h (by simp)⟩
  · refine ⟨g, 0, cap, _, ps, rfl, by rw [List.length_map], by rw [List.length_map]; exact hn, fun _ => rfl, fun j p hj => ⟨?_, (h.2 p (List.mem_of_getElem? hj)).slb⟩, fun _ => (hlt g rfl).2⟩
    have hjl := (List.getElem?_eq_some_iff.1 hj).1
    rw [Nat.zero_add, h.1.cellAt j (by omega), List.getElem?_map, hj]; rfl

/-- The bytes from number k on. -/
theorem slice_from {w : World} {v : Value} {l : List UInt8} (h : SlB w v l) {k : Nat} (hk : k ≤ l.length) : ∃ v', (∀ W : World, (Instr.slice 22 v (some (.int .i64 (k : Int))) none none).run Try.prog W = .ok v' W) ∧ SlB w v' (l.drop k) := by
  have HS := h
  obtain ⟨b, o, cap, a, rfl, hn, hcap, ha, hc, hb⟩ := h
  have hs : ∀ W : World, (sizeOf (Try.prog.elem 22)).run Try.prog W = .ok 1 W := fun W => by
    obtain ⟨i0, hi, hz0, hz1, hz2⟩ := info_parts Try.infoB
    rw [show Try.prog.elem 22 = 5 from by kernel_rfl]
    simp [sizeOf, typeInfo, hi, hz1]
  refine ⟨sliced a k l.length cap 1, fun W => ?_, ?_⟩
  · rw [run_slice_l (P := Try.prog) (w := W) 22 a l.length cap (by kernel_rfl) .i64 (k : Int) (by omega) (by omega), hs W]
    rfl
  · unfold sliced
    by_cases hck : cap = k
    · rw [if_pos hck]
      exact SlB.nothing (by rw [List.length_drop]; omega) (by omega) (by omega)
    · rw [if_neg hck]
      rcases a with _ | ad
      · exact absurd (hn rfl) (by intro h0; omega)
      · refine ⟨ad.block, ad.off + k, cap - k, Option.some (ad.add k), by rw [List.length_drop, Nat.mul_one]; rfl, (fun e => by cases e), by rw [List.length_drop]; omega, fun h0 => ?_, fun j x hx => ?_, fun h0 => ?_⟩
        · rw [List.length_drop] at h0
          obtain rfl := Option.some.inj (ha (by omega))
          unfold Addr.add; split <;> simp_all
        · have h0 : 0 < l.length := by have := (List.getElem?_eq_some_iff.1 hx).1; rw [List.length_drop] at this; omega
          obtain rfl := Option.some.inj (ha h0)
          rw [List.getElem?_drop] at hx
          rw [Nat.add_assoc]; exact hc _ x hx
        · rw [List.length_drop] at h0
          obtain rfl := Option.some.inj (ha (by omega))
          exact hb (by omega)
end Go.Proofs.Ytpjcjnifklgojaa

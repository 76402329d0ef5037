import Derived.Test.YtlehcaacfgocaaaGreatG17
import Derived.Test.YtlehcaacfgocaaaGreatG14
namespace Go.Proofs.YtlehcaacfgocaaaGreat
set_option linter.unusedVariables false
open Go.RowKit
open Go.Lib (hid)
theorem look_mem {xs : List En} {x : En} (h : x ∈ xs) : ∃ z, lookG En.id xs x.id = some z := by
  induction xs using snocRec with
  | nil => simp at h
  | snoc xs y ih =>
    rw [look_snoc]
    by_cases hy : y.id = x.id
    · exact ⟨y, by rw [if_pos hy]⟩
    · rw [if_neg hy]
      rcases List.mem_append.1 h with h | h
      · exact ih h
      · simp at h; subst h; exact absurd rfl hy
theorem look_append (a b : List En) (i : Int) : lookG En.id (a ++ b) i = (lookG En.id b i).or (lookG En.id a i) := by
  induction b using snocRec with
  | nil => simp [lookG]
  | snoc b y ih =>
    rw [← List.append_assoc, look_snoc, look_snoc]
    by_cases hy : y.id = i
    · simp [hy]
    · simp [hy, ih]
theorem look_all {fs ys : List En} (h : AllEn fs ys) (i : Int) : lookG En.id ys i = lookG En.id fs i := by
  rcases hf : lookG En.id fs i with _ | x
  · rcases hy : lookG En.id ys i with _ | z
    · rfl
    · obtain ⟨h1, h2⟩ := look_key En.id ys i z hy
      have := (h.2 z).1 h2
      rw [h1, hf] at this; cases this
  · obtain ⟨h1, h2⟩ := look_key En.id fs i x hf
    have hx : x ∈ ys := (h.2 x).2 (by rw [h1]; exact hf)
    obtain ⟨z, hz⟩ := look_mem hx
    rw [h1] at hz
    obtain ⟨h3, h4⟩ := look_key En.id ys i z hz
    have := (h.2 z).1 h4
    rw [h3, hf] at this
    rw [hz, this]
theorem all_ids {fs ys : List En} (h : AllEn fs ys) (i : Int) : i ∈ ys.map En.id ↔ i ∈ fs.map En.id := by
  simp only [List.mem_map]
  constructor
  · rintro ⟨y, hy, rfl⟩
    exact ⟨y, (look_key En.id fs _ y ((h.2 y).1 hy)).2, rfl⟩
  · rintro ⟨y, hy, rfl⟩
    obtain ⟨z, hz⟩ := look_mem hy
    obtain ⟨h1, h2⟩ := look_key En.id fs _ z hz
    exact ⟨z, (h.2 z).2 (by rw [h1]; exact hz), h1⟩
abbrev newN (c : C7) : En := ⟨newE c, [], [], []⟩
def freshF (xs : List En) (cs : List C7) : List En := cs.foldl (fun fs c => if (hasE xs c.i || hasE fs c.i) = true then fs else fs ++ [newN c]) []
theorem fresh_snoc (xs : List En) (cs : List C7) (c : C7) : freshF xs (cs ++ [c]) = if (hasE xs c.i || hasE (freshF xs cs) c.i) = true then freshF xs cs else freshF xs cs ++ [newN c] := by simp [freshF]
theorem fresh_len (xs : List En) (cs : List C7) : (freshF xs cs).length ≤ cs.length := by
  induction cs using snocRec with
  | nil => simp [freshF]
  | snoc cs c ih => rw [fresh_snoc]; split <;> simp <;> omega
theorem fresh_is (xs : List En) (cs : List C7) : ∀ x ∈ freshF xs cs, ∃ c ∈ cs, x = newN c := by
  induction cs using snocRec with
  | nil => simp [freshF]
  | snoc cs c ih =>
    rw [fresh_snoc]
    intro x hx
    split at hx
    · obtain ⟨d, h1, h2⟩ := ih x hx; exact ⟨d, by simp [h1], h2⟩
    · rcases List.mem_append.1 hx with hx | hx
      · obtain ⟨d, h1, h2⟩ := ih x hx; exact ⟨d, by simp [h1], h2⟩
      · simp at hx; exact ⟨c, by simp, hx⟩
def FineL (xs : List En) (cs : List C7) : Prop := clashB cs = false ∧ ∀ c ∈ cs, hasE xs c.i = true → (lookE xs c.i).c = c
theorem has_some {xs : List En} {i : Int} (h : hasE xs i = true) : ∃ x, lookG En.id xs i = some x := by
  unfold hasE at h
  rcases hl : lookG En.id xs i with _ | x
  · rw [hl] at h; cases h
  · exact ⟨x, rfl⟩
theorem has_none {xs : List En} {i : Int} (h : hasE xs i = false) : lookG En.id xs i = none := by
  unfold hasE at h
  rcases hl : lookG En.id xs i with _ | x
  · rfl
  · rw [hl] at h; cases h
theorem fresh_look {xs : List En} {cs : List C7} (h : FineL xs cs) : ∀ c ∈ cs, hasE xs c.i = false → lookG En.id (freshF xs cs) c.i = some (newN c) := by
  induction cs using snocRec with
  | nil => simp
  | snoc cs d ih =>
    have hn := no_clash.1 h.1
    have h' : FineL xs cs := ⟨no_clash.2 fun x hx y hy => hn x (by simp [hx]) y (by simp [hy]), fun c hc => h.2 c (by simp [hc])⟩
    intro c hc hx
    rw [fresh_snoc]
    rcases List.mem_append.1 hc with hc | hc
    · have hi := ih h' c hc hx
      split
      · exact hi
      · rename_i hh
        rw [look_snoc]
        have : ¬ d.i = c.i := fun e => by
          rw [e] at hh
          rw [(lookE_some hi).2] at hh
          simp at hh
        rw [if_neg this]; exact hi
    · simp at hc; subst hc
      by_cases hf : hasE (freshF xs cs) c.i = true
      · rw [if_pos (by simp [hf])]
        obtain ⟨x, hl⟩ := has_some hf
        obtain ⟨k1, k2⟩ := look_key En.id _ _ x hl
        obtain ⟨d, hd, rfl⟩ := fresh_is xs cs x k2
        have : d = c := hn d (by simp [hd]) c (by simp) k1
        subst this; exact hl
      · rw [if_neg (by simp [hx, hf]), look_snoc, if_pos rfl]
def hitB (xs fs : List En) (c : C7) : Bool := if hasE xs c.i = true then !(lookE xs c.i).c.same c else hasE fs c.i && !(lookE fs c.i).c.same c
open Classical in
noncomputable def learnE (xs : List En) (cs : List C7) : Int := if cs.all C7.ok = true then (if FineL xs cs then 0 else 6) else 1
theorem same_no' {a b : C7} (h : a.same b = false) : a ≠ b := fun e => by rw [C7.same_iff.2 e] at h; cases h
theorem hit_yes {xs : List En} {cs : List C7} {k : Nat} {c : C7} (hc : cs[k]? = some c) (hf : FineL xs (cs.take k)) (h : hitB xs (freshF xs (cs.take k)) c = true) : ¬ FineL xs cs := by
  rintro ⟨h1, h2⟩
  have hm : c ∈ cs := List.mem_of_getElem? hc
  unfold hitB at h
  by_cases hx : hasE xs c.i = true
  · rw [if_pos hx] at h
    exact same_no' (by simpa using h) (h2 c hm hx)
  · rw [if_neg hx] at h
    simp only [Bool.and_eq_true, Bool.not_eq_true'] at h
    obtain ⟨x, hl⟩ := has_some h.1
    obtain ⟨k1, k2⟩ := look_key En.id _ _ x hl
    obtain ⟨d, hd, rfl⟩ := fresh_is xs _ x k2
    have h3 := h.2
    rw [(lookE_some hl).1] at h3
    exact same_no' h3 (no_clash.1 h1 d (List.mem_of_mem_take hd) c hm k1)
theorem hit_no {xs : List En} {cs : List C7} {c : C7} (hf : FineL xs cs) (h : hitB xs (freshF xs cs) c = false) : FineL xs (cs ++ [c]) := by
  have hn := no_clash.1 hf.1
  have key : ∀ x ∈ cs, x.i = c.i → x = c := fun x hx e => by
    unfold hitB at h
    by_cases hh : hasE xs c.i = true
    · rw [if_pos hh] at h
      have h1 : (lookE xs c.i).c = c := C7.same_iff.1 (by simpa using h)
      have h2 := hf.2 x hx (by rw [e]; exact hh)
      rw [e, h1] at h2; exact h2.symm
    · rw [if_neg hh] at h
      have hl := fresh_look hf x hx (by rw [e]; simpa using hh)
      rw [e] at hl
      obtain ⟨h1, h2⟩ := lookE_some hl
      rw [h1, h2] at h
      exact C7.same_iff.1 (by simpa using h)
  refine ⟨no_clash.2 fun x hx y hy e => ?_, fun d hd hh => ?_⟩
  · rcases List.mem_append.1 hx with hx | hx <;> rcases List.mem_append.1 hy with hy | hy
    · exact hn x hx y hy e
    · simp at hy; rw [hy] at e ⊢; exact key x hx e
    · simp at hx; rw [hx] at e ⊢; exact (key y hy e.symm).symm
    · simp at hx hy; rw [hx, hy]
  · rcases List.mem_append.1 hd with hd | hd
    · exact hf.2 d hd hh
    · simp at hd; subst hd
      unfold hitB at h
      rw [if_pos hh] at h
      exact C7.same_iff.1 (by simpa using h)
theorem fine_nil (xs : List En) : FineL xs [] := ⟨by simp [clashB], by simp⟩
theorem take_next {cs : List C7} {k : Nat} {c : C7} (hc : cs[k]? = some c) : cs.take (k + 1) = cs.take k ++ [c] := by rw [List.take_add_one, hc]; rfl
end Go.Proofs.YtlehcaacfgocaaaGreat

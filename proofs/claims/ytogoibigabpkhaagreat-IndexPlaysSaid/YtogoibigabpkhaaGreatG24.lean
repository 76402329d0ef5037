import Derived.Test.YtogoibigabpkhaaGreatQMapM
import Derived.Test.YtogoibigabpkhaaGreatQTouchM
import Derived.Test.YtogoibigabpkhaaGreatG11
import Derived.Deep.QuietTactic
import Derived.BigQuiet
import Derived.StillTailTactics
/- What is learned: lists of entries by their names. -/
namespace Go.Proofs.YtogoibigabpkhaaGreat
set_option linter.unusedVariables false
open Go.RowKit
open Go.Lib (hid)

theorem look_mem {xs : List En} {x : En} (h : x ∈ xs) : ∃ z, lookG En.id xs x.id = some z := by
  induction xs using snocRec with
  | nil => simp at h
  | snoc xs y ih =>
    rw [look_snoc]
    by_cases hy : y.id = x.id
    · exact ⟨y, by rw [if_pos hy]⟩
    · rw [if_neg hy]
      rcases List.mem_append.1 h with h | h
      · exact ih h
      · simp at h; subst h; exact absurd rfl hy
theorem look_append (a b : List En) (i : Int) : lookG En.id (a ++ b) i = (lookG En.id b i).or (lookG En.id a i) := by
  induction b using snocRec with
  | nil => simp [lookG]
  | snoc b y ih =>
    rw [← List.append_assoc, look_snoc, look_snoc]
    by_cases hy : y.id = i
    · simp [hy]
    · simp [hy, ih]
theorem look_all {fs ys : List En} (h : AllEn fs ys) (i : Int) : lookG En.id ys i = lookG En.id fs i := by
  rcases hf : lookG En.id fs i with _ | x
  · rcases hy : lookG En.id ys i with _ | z
    · rfl
    · obtain ⟨h1, h2⟩ := look_key En.id ys i z hy
      have := (h.2 z).1 h2
      rw [h1, hf] at this; cases this
  · obtain ⟨h1, h2⟩ := look_key En.id fs i x hf
    have hx : x ∈ ys := (h.2 x).2 (by rw [h1]; exact hf)
    obtain ⟨z, hz⟩ := look_mem hx
    rw [h1] at hz
    obtain ⟨h3, h4⟩ := look_key En.id ys i z hz
    have := (h.2 z).1 h4
    rw [h3, hf] at this
    rw [hz, this]
theorem all_ids {fs ys : List En} (h : AllEn fs ys) (i : Int) : i ∈ ys.map En.id ↔ i ∈ fs.map En.id := by
  simp only [List.mem_map]
  constructor
  · rintro ⟨y, hy, rfl⟩
    exact ⟨y, (look_key En.id fs _ y ((h.2 y).1 hy)).2, rfl⟩
  · rintro ⟨y, hy, rfl⟩
    obtain ⟨z, hz⟩ := look_mem hy
    obtain ⟨h1, h2⟩ := look_key En.id fs _ z hz
    exact ⟨z, (h.2 z).2 (by rw [h1]; exact hz), h1⟩

abbrev newN (c : C7) : En := ⟨newE c, [], [], []⟩
/-- The new entries of commands that are learned. -/
def freshF (xs : List En) (cs : List C7) : List En := cs.foldl (fun fs c => if (hasE xs c.i || hasE fs c.i) = true then fs else fs ++ [newN c]) []
theorem fresh_snoc (xs : List En) (cs : List C7) (c : C7) : freshF xs (cs ++ [c]) = if (hasE xs c.i || hasE (freshF xs cs) c.i) = true then freshF xs cs else freshF xs cs ++ [newN c] := by simp [freshF]
theorem fresh_len (xs : List En) (cs : List C7) : (freshF xs cs).length ≤ cs.length := by
  induction cs using snocRec with
  | nil => simp [freshF]
  | snoc cs c ih => rw [fresh_snoc]; split <;> simp <;> omega
theorem fresh_is (xs : List En) (cs : List C7) : ∀ x ∈ freshF xs cs, ∃ c ∈ cs, x = newN c := by
  induction cs using snocRec with
  | nil => simp [freshF]
  | snoc cs c ih =>
    rw [fresh_snoc]
    intro x hx
    split at hx
    · obtain ⟨d, h1, h2⟩ := ih x hx; exact ⟨d, by simp [h1], h2⟩
    · rcases List.mem_append.1 hx with hx | hx
      · obtain ⟨d, h1, h2⟩ := ih x hx; exact ⟨d, by simp [h1], h2⟩
      · simp at hx; exact ⟨c, by simp, hx⟩
/-- Nothing stands against these commands. -/
def FineL (xs : List En) (cs : List C7) : Prop := clashB cs = false ∧ ∀ c ∈ cs, hasE xs c.i = true → (lookE xs c.i).c = c
theorem has_some {xs : List En} {i : Int} (h : hasE xs i = true) : ∃ x, lookG En.id xs i = some x := by
  unfold hasE at h
  rcases hl : lookG En.id xs i with _ | x
  · rw [hl] at h; cases h
  · exact ⟨x, rfl⟩
theorem has_none {xs : List En} {i : Int} (h : hasE xs i = false) : lookG En.id xs i = none := by
  unfold hasE at h
  rcases hl : lookG En.id xs i with _ | x
  · rfl
  · rw [hl] at h; cases h
theorem fresh_look {xs : List En} {cs : List C7} (h : FineL xs cs) : ∀ c ∈ cs, hasE xs c.i = false → lookG En.id (freshF xs cs) c.i = some (newN c) := by
  induction cs using snocRec with
  | nil => simp
  | snoc cs d ih =>
    have hn := no_clash.1 h.1
    have h' : FineL xs cs := ⟨no_clash.2 fun x hx y hy => hn x (by simp [hx]) y (by simp [hy]), fun c hc => h.2 c (by simp [hc])⟩
    intro c hc hx
    rw [fresh_snoc]
    rcases List.mem_append.1 hc with hc | hc
    · have hi := ih h' c hc hx
      split
      · exact hi
      · rename_i hh
        rw [look_snoc]
        have : ¬ d.i = c.i := fun e => by
          rw [e] at hh
          rw [(lookE_some hi).2] at hh
          simp at hh
        rw [if_neg this]; exact hi
    · simp at hc; subst hc
      by_cases hf : hasE (freshF xs cs) c.i = true
      · rw [if_pos (by simp [hf])]
        obtain ⟨x, hl⟩ := has_some hf
        obtain ⟨k1, k2⟩ := look_key En.id _ _ x hl
        obtain ⟨d, hd, rfl⟩ := fresh_is xs cs x k2
        have : d = c := hn d (by simp [hd]) c (by simp) k1
        subst this; exact hl
      · rw [if_neg (by simp [hx, hf]), look_snoc, if_pos rfl]
/-- Its name is another's. -/
def hitB (xs fs : List En) (c : C7) : Bool := if hasE xs c.i = true then !(lookE xs c.i).c.same c else hasE fs c.i && !(lookE fs c.i).c.same c
open Classical in
/-- Learn's answer. -/
noncomputable def learnE (xs : List En) (cs : List C7) : Int := if cs.all C7.ok = true then (if FineL xs cs then 0 else 6) else 1
theorem same_no' {a b : C7} (h : a.same b = false) : a ≠ b := fun e => by rw [C7.same_iff.2 e] at h; cases h
theorem hit_yes {xs : List En} {cs : List C7} {k : Nat} {c : C7} (hc : cs[k]? = some c) (hf : FineL xs (cs.take k)) (h : hitB xs (freshF xs (cs.take k)) c = true) : ¬ FineL xs cs := by
  rintro ⟨h1, h2⟩
  have hm : c ∈ cs := List.mem_of_getElem? hc
  unfold hitB at h
  by_cases hx : hasE xs c.i = true
  · rw [if_pos hx] at h
    exact same_no' (by simpa using h) (h2 c hm hx)
  · rw [if_neg hx] at h
    simp only [Bool.and_eq_true, Bool.not_eq_true'] at h
    obtain ⟨x, hl⟩ := has_some h.1
    obtain ⟨k1, k2⟩ := look_key En.id _ _ x hl
    obtain ⟨d, hd, rfl⟩ := fresh_is xs _ x k2
    have h3 := h.2
    rw [(lookE_some hl).1] at h3
    exact same_no' h3 (no_clash.1 h1 d (List.mem_of_mem_take hd) c hm k1)
theorem hit_no {xs : List En} {cs : List C7} {c : C7} (hf : FineL xs cs) (h : hitB xs (freshF xs cs) c = false) : FineL xs (cs ++ [c]) := by
  have hn := no_clash.1 hf.1
  have key : ∀ x ∈ cs, x.i = c.i → x = c := fun x hx e => by
    unfold hitB at h
    by_cases hh : hasE xs c.i = true
    · rw [if_pos hh] at h
      have h1 : (lookE xs c.i).c = c := C7.same_iff.1 (by simpa using h)
      have h2 := hf.2 x hx (by rw [e]; exact hh)
      rw [e, h1] at h2; exact h2.symm
    · rw [if_neg hh] at h
      have hl := fresh_look hf x hx (by rw [e]; simpa using hh)
      rw [e] at hl
      obtain ⟨h1, h2⟩ := lookE_some hl
      rw [h1, h2] at h
      exact C7.same_iff.1 (by simpa using h)
  refine ⟨no_clash.2 fun x hx y hy e => ?_, fun d hd hh => ?_⟩
  · rcases List.mem_append.1 hx with hx | hx <;> rcases List.mem_append.1 hy with hy | hy
    · exact hn x hx y hy e
    · simp at hy; rw [hy] at e ⊢; exact key x hx e
    · simp at hx; rw [hx] at e ⊢; exact (key y hy e.symm).symm
    · simp at hx hy; rw [hx, hy]
  · rcases List.mem_append.1 hd with hd | hd
    · exact hf.2 d hd hh
    · simp at hd; subst hd
      unfold hitB at h
      rw [if_pos hh] at h
      exact C7.same_iff.1 (by simpa using h)
theorem fine_nil (xs : List En) : FineL xs [] := ⟨by simp [clashB], by simp⟩
theorem take_next {cs : List C7} {k : Nat} {c : C7} (hc : cs[k]? = some c) : cs.take (k + 1) = cs.take k ++ [c] := by rw [List.take_add_one, hc]; rfl
end Go.Proofs.YtogoibigabpkhaaGreat
/- The document's index: at, See, Tick, Get, Changed. -/
namespace Go.Proofs.YtogoibigabpkhaaGreat
set_option linter.unusedVariables false
open Go.RowKit
open Go.Lib (hid)

def atE (es : List Ev) (i : Int) : Int := match es.findIdx? (fun e => decide (e.c.i = i)) with | some k => (k : Int) | none => -1
theorem at_hit {es : List Ev} {k : Nat} {e : Ev} {i : Int} (he : es[k]? = some e) (hi : e.c.i = i) (hno : ∀ j, j < k → ∀ d, es[j]? = some d → d.c.i ≠ i) : atE es i = k := by
  have h : es.findIdx? (fun e => decide (e.c.i = i)) = some k := by
    rw [List.findIdx?_eq_some_iff_getElem]
    obtain ⟨hk, hk2⟩ := List.getElem?_eq_some_iff.1 he
    refine ⟨hk, by rw [hk2]; simpa using hi, fun j hj => ?_⟩
    have := hno j hj _ (List.getElem?_eq_getElem (by omega))
    simpa using this
  unfold atE; rw [h]
theorem at_miss {es : List Ev} {i : Int} (hno : ∀ d ∈ es, d.c.i ≠ i) : atE es i = -1 := by
  have h : es.findIdx? (fun e => decide (e.c.i = i)) = none := by
    rw [List.findIdx?_eq_none_iff]
    intro d hd
    simpa using hno d hd
  unfold atE; rw [h]
theorem at_some {es : List Ev} {i : Int} {d : Ev} (hd : d ∈ es) (hi : d.c.i = i) : ∃ (k : Nat) (e : Ev), atE es i = k ∧ es[k]? = some e ∧ e.c.i = i := by
  rcases h : es.findIdx? (fun e => decide (e.c.i = i)) with _ | k
  · rw [List.findIdx?_eq_none_iff] at h
    have := h d hd
    simp [hi] at this
  · have h' := h
    rw [List.findIdx?_eq_some_iff_getElem] at h
    obtain ⟨hk, h1, _⟩ := h
    exact ⟨k, es[k], by unfold atE; rw [h'], List.getElem?_eq_getElem hk, by simpa using h1⟩
theorem at_kept_no {xs : List En} {i : Int} (h : hasE xs i = false) : atE (keptE xs) i = -1 := at_miss fun d hd e => by
  obtain ⟨x, hx, _⟩ := (keptE_mem xs d).1 hd
  rw [e, has_none h] at hx; cases hx
theorem at_kept_yes {xs : List En} {i : Int} (h : hasE xs i = true) : ∃ k : Nat, atE (keptE xs) i = k ∧ (keptE xs)[k]? = some (lookE xs i) := by
  obtain ⟨x, hx⟩ := has_some h
  have hi := (look_key En.id xs i x hx).1
  have hm : x.e ∈ keptE xs := (keptE_mem xs x.e).2 ⟨x, by rw [show x.e.c.i = i from hi]; exact hx, rfl⟩
  obtain ⟨k, e, h1, h2, h3⟩ := at_some hm hi
  refine ⟨k, h1, ?_⟩
  obtain ⟨z, hz, hze⟩ := (keptE_mem xs e).1 (List.mem_of_getElem? h2)
  rw [h3, hx] at hz
  cases hz
  rw [h2, (lookE_some hx).1, hze]

abbrev zeroEr : Obj := .cells #[.int .i64 0, .int .i64 0, .int .i64 0, .int .i64 0, .int .i64 0, .int .i64 0, .int .i64 0, .int .i64 0, .int .i64 0, .int .i64 0, .int .i64 0, .slice none 0 0, .int .i64 0, .int .i64 0, .slice none 0 0, .bool false, .bool false, .int .i64 0, .slice none 0 0] 74
section
variable {w : World} {p : Nat} {nd c : Int} {v u : Value} {es : List Ev} {ids : List Int}
set_option maxHeartbeats 2000000 in
set_option maxRecDepth 100000 in
theorem rAt (h : Rx w p nd c v u es ids) (hl : es.length ≤ 20000) (i : Int) : Calls Tryz.prog 31 #[ptr p, .int .i64 i] w fun e w' => e = .returned (.int .i64 (atE es i)) ∧ w = w' := by
  obtain ⟨-, -, k2, -⟩ := h.cells
  obtain ⟨b, o, cap, a, rfl, ha, hc, hb⟩ := OwnG.slG kE h.es
  have hp := h.lt
  obtain ⟨m, hm⟩ : ∃ m, m = es.length := ⟨_, rfl⟩
  rw [← hm] at ha hb hl k2
  have HN := hid hm
  have HCC := hid hc
  clear h hm hc
  go_enter Tryz.func31, Tryz.ntmps31
  go_wp2
  go_loopw [5] (fun i' wr => ∃ (k : Nat), k ≤ m ∧ i' = .int .i64 k ∧ Hid (∀ j, j < k → ∀ d, es[j]? = some d → d.c.i ≠ i) ∧ w = wr) (fun i' _ => m - (RowKit.intOf i').toNat)
  case atStart => exact ⟨0, Nat.zero_le _, rfl, hid fun j hj => by omega, rfl⟩
  case round =>
    obtain ⟨k, hk, rfl, HNO, rfl⟩ := hrel
    by_cases hlt : k < m
    · obtain rfl := ha (by omega)
      obtain ⟨y, he⟩ : ∃ y, es[k]? = some y := ⟨es[k]'(by rw [← HN.out]; exact hlt), List.getElem?_eq_getElem (by rw [← HN.out]; exact hlt)⟩
      have ky : w.cell? ⟨b, o + k * 19, none⟩ = some (.int .i64 y.c.i) := HCC.out k y he 0 _ rfl
      have HE := hid he
      clear he
      by_cases hi : y.c.i = i
      · have HI := hid (at_hit HE.out hi HNO.out)
        have q : (y.c.i == i) = true := by simpa using hi
        clear hi
        go_wp2
        go_ret
        exact ⟨ret_int HI.out.symm, rfl⟩
      · have HI := hid hi
        have q : (y.c.i == i) = false := by simpa using hi
        clear hi
        go_wp2
        go_roundw
        case rel => exact ⟨k + 1, by omega, by go_num, hid fun j hj d hd => by
          by_cases hjk : j = k
          · subst hjk; rw [HE.out] at hd; cases hd; exact HI.out
          · exact HNO.out j (by omega) d hd, trivial⟩
        case measure => simp [RowKit.intOf]; omega
    · have HI := hid (at_miss (es := es) (i := i) fun d hd => by
        obtain ⟨j, hj⟩ := List.getElem?_of_mem hd
        have := (List.getElem?_eq_some_iff.1 hj).1
        exact HNO.out j (by have := HN.out; omega) d hj)
      go_wp2
      go_ret
      exact ⟨ret_int HI.out.symm, rfl⟩
set_option maxHeartbeats 1000000 in
set_option maxRecDepth 100000 in
theorem rSee (h : Rx w p nd c v u es ids) (t : Int) : Calls Tryz.prog 33 #[ptr p, .int .i64 t] w fun e w' => e = .returned (.tuple #[]) ∧ Rx w' p nd (seeI c t) v u es ids ∧ Tch (fun k => k = p) w w' := by
  have hC := fun W => (rCount_any t W).mono (fun e w' (h : e = _ ∧ W = w') => And.intro h.1 h.2.symm)
  have HX : Hid (Rx w.drew p nd c v u es ids) := hid (h.on (belowDrew (Below.refl _ w)))
  have HT : Hid (Tch (fun k => k = p) w w.drew) := hid (Tch.ofBelow (belowDrew (Below.refl _ w)))
  obtain ⟨k, hk⟩ : ∃ k, k = countI t := ⟨_, rfl⟩
  have HS := hid (show seeI c t = if c < k then k else c by rw [hk]; rfl)
  rw [← hk] at hC
  clear h hk
  go_enter Tryz.func33, Tryz.ntmps33
  refine wp_region_still_tail 10 (by kernel_rfl) (by kernel_rfl) ?_
  obtain ⟨W1, hW1⟩ : ∃ W1 : World, W1 = { w with drawn := w.drawn + 1 } := ⟨_, rfl⟩
  rw [← hW1]
  replace HX : Hid (Rx W1 p nd c v u es ids) := hid (by rw [hW1]; exact HX.out)
  replace HT : Hid (Tch (fun k => k = p) w W1) := hid (by rw [hW1]; exact HT.out)
  clear hW1
  obtain ⟨k0, k1, k2, k3, f1, f2, f3⟩ := HX.out.cells
  simp only [List.take_succ_cons, List.take_zero, List.drop_succ_cons, List.drop_zero]
  still_step
  still_step
  still_step
  still_step
  still_step
  still_step
  still_call (hC _)
  still_step
  still_step
  still_step
  refine wpStill_nil ?_
  have hmx : max c k = seeI c t := by
    rw [HS.out]
    by_cases h : c < k
    · rw [if_pos h, Int.max_eq_right (by omega)]
    · rw [if_neg h, Int.max_eq_left (by omega)]
  first | rw [hmx] | rw [← HS.out]
  go_wp2_with fail
  go_end0
  obtain ⟨h1, h2⟩ := HX.out.set1 (seeI c t)
  exact ⟨rfl, h1, HT.out.trans h2⟩
set_option maxHeartbeats 1000000 in
set_option maxRecDepth 100000 in
theorem rTick (h : Rx w p nd c v u es ids) (hc : 0 ≤ c ∧ c ≤ 65535) :
    Calls Tryz.prog 35 #[ptr p] w fun e w' => e = .returned (two (mkV (c + 1) nd) (mkE (c + 1) nd)) ∧ Rx w' p nd (if mkE (c + 1) nd = 0 then c + 1 else c) v u es ids ∧ Tch (fun k => k = p) w w' := by
  have hT := fun W => (rMake_any (c + 1) nd W)
  obtain ⟨e, he⟩ : ∃ e, e = mkE (c + 1) nd := ⟨_, rfl⟩
  obtain ⟨r, hr⟩ : ∃ r, r = mkV (c + 1) nd := ⟨_, rfl⟩
  rw [← he, ← hr] at hT
  rw [← he, ← hr]
  have HX : Hid (Rx w p nd c v u es ids) := hid h
  have hw : IntKind.i64.wrap (c + 1) = c + 1 := by rw [IntKind.wrap_i64]; omega
  obtain ⟨k0, k1, k2, k3, f1, f2, f3⟩ := h.cells
  have h0 : e = 0 ∨ e ≠ 0 := by omega
  clear h he hr
  go_enter Tryz.func35, Tryz.ntmps35
  go_wp2_with fail
  go_quiet (with_reducible exact quietS (hT _))
  obtain ⟨W1, hW1⟩ : ∃ W, W = w.drewN nq := ⟨_, rfl⟩
  rw [← hW1]
  replace HX : Hid (Rx W1 p nd c v u es ids ∧ Tch (fun k => k = p) w W1) := hid (by rw [hW1]; exact ⟨HX.out.on (belowDrewN (Below.refl _ w) nq), Tch.ofBelow (belowDrewN (Below.refl _ w) nq)⟩)
  clear hW1 k0 k1 k2 k3 f1 f2 f3
  obtain ⟨k0, k1, k2, k3, f1, f2, f3⟩ := HX.out.1.cells
  rcases h0 with h0 | h0
  · subst h0
    go_wp2_with fail
    go_ret2
    obtain ⟨h1, h2⟩ := HX.out.1.set1 (c + 1)
    exact ⟨rfl, h1, HX.out.2.trans h2⟩
  · have h3 : (e == 0) = false := by simpa using h0
    go_wp2_with fail
    go_ret2
    exact ⟨rfl, HX.out.1, HX.out.2⟩
set_option maxHeartbeats 1000000 in
set_option maxRecDepth 100000 in
theorem rIChanged (h : Rx w p nd c v u es ids) : Calls Tryz.prog 38 #[ptr p] w fun e w' => e = .returned u ∧ Rx w' p nd c v (.slice none 0 0) es [] ∧ OwnI w' 0 u ids ∧ Tch (fun k => k = p) w w' := by
  have HX := hid h
  obtain ⟨k0, k1, k2, k3, f1, f2, f3⟩ := h.cells
  obtain ⟨h1, h2⟩ := h.set3 (OwnI.nil w 0)
  have H := hid (And.intro h1 (And.intro (own_tch h.ids h2 fun k hk e => by subst e; exact own_off h.ids h.ob (fun cur e => absurd (Obj.cells.inj e).2.1 (by decide)) hk) h2))
  obtain ⟨g, cap, n, rfl, -⟩ : ∃ g cap n, u = .slice g n cap ∧ n = ids.length := by
    rcases h.ids.2 with ⟨rfl, h0⟩ | ⟨g, cap, cur, rfl, _⟩
    · exact ⟨none, 0, 0, rfl, h0.symm⟩
    · exact ⟨_, cap, _, rfl, rfl⟩
  clear h h1 h2
  go_enter Tryz.func38, Tryz.ntmps38
  go_wp2_with fail
  go_ret
  exact ⟨rfl, H.out⟩
set_option maxHeartbeats 2000000 in
set_option maxRecDepth 100000 in
theorem rIGet {xs : List En} (h : Rx w p nd c v u (keptE xs) ids) (hl : (keptE xs).length ≤ 20000) (i : Int) : Calls Tryz.prog 51 #[ptr p, .int .i64 i] w fun e w' => e = .returned (.tuple #[.agg (lookE xs i).arr, .bool (hasE xs i)]) ∧ Below w.heap.size w w' := by
  have HZ : Hid (Ob (w.alloc zeroEr) w.heap.size 74 zE) := hid (heap_alloc_new w _)
  have HW : Hid (Below w.heap.size w (w.alloc zeroEr)) := hid ((Below.refl _ w).alloc (Nat.le_refl _) _)
  have HX := hid (h.on HW.out)
  have hA := rAt HX.out hl i
  obtain ⟨-, -, k2, -⟩ := HX.out.cells
  obtain ⟨b, o, cap, a, rfl, ha, hc, hb⟩ := OwnG.slG kE HX.out.es
  obtain ⟨d, hd⟩ : ∃ d, d = hasE xs i := ⟨_, rfl⟩
  rw [← hd]
  have HD := hid hd
  clear h hd
  rcases d with _ | _
  · have HL := hid (show lookE xs i = zE from (lookE_none (has_none HD.out.symm)).1)
    rw [at_kept_no HD.out.symm] at hA
    rw [HL.out]
    clear HL ha hc hb
    go_enter Tryz.func51, Tryz.ntmps51
    go_wp2_with (first
      | (go_at_call 31; refine hA.mono ?_; rintro q w' ⟨rfl, rfl⟩)
      | ((with_reducible refine storeR (x := ?sx3) (y := ?sy3) (b := w.heap.size) (T := 74) zE ?sg3 ?so3 ?sxx3 ?syy3 ?sc3 ?_); (case sg3 => rfl); (case so3 => rfl); (case sxx3 => rfl); (case syy3 => rfl); (case sc3 => exact HZ.out.room); intro W3 hO3 hU3
         have HO3 := hid hO3
         have HW3 := hid (HW.out.trans (hU3.below _ (Nat.le_refl _)))
         clear hO3 hU3)
      | fail)
    refine bodyPost_ret (ret_cell_tmp rfl rfl rfl HO3.out.range Tryz.underlying74 rfl (infoE zE)) rfl ⟨rfl, HW3.out⟩
  · obtain ⟨k, hk1, hk2⟩ := at_kept_yes HD.out.symm
    rw [hk1] at hA
    have hlt := (List.getElem?_eq_some_iff.1 hk2).1
    obtain rfl := ha (by omega)
    have HC : Hid ((w.alloc zeroEr).rangeAt b (o + k * 19) (lookE xs i).list) := hid (hc k _ hk2)
    have hkz : decide ((k : Int) < 0) = false := decide_eq_false (by omega)
    generalize lookE xs i = e at HC ⊢
    generalize (keptE xs).length = m at hlt k2
    clear hk1 hk2 ha hc hb
    have hroom := HZ.out.room
    go_enter Tryz.func51, Tryz.ntmps51
    go_wp2_with (first
      | (go_at_call 31; refine hA.mono ?_; rintro q w' ⟨rfl, rfl⟩)
      | ((with_reducible refine loadEl (T := 74) (x := ?lx1) (b := ?lb1) (o := ?lo1) uR iR e ?lg1 ?lp1 ?lxx1 ?lc1 ?_); (case lg1 => rfl); (case lp1 => rfl); (case lxx1 => rfl); (case lc1 => exact HC.out))
      | ((with_reducible refine uponStore (q := w.heap.size) (T := 74) (e := e) hroom ?_); intro W3 hO3 hU3
         have HO3 := hid hO3
         have HW3 := hid (HW.out.trans (hU3.below _ (Nat.le_refl _)))
         clear hO3 hU3)
      | ((with_reducible refine storeR (x := ?sx3) (y := ?sy3) (b := w.heap.size) (T := 74) e ?sg3 ?so3 ?sxx3 ?syy3 ?sc3 ?_); (case sg3 => rfl); (case so3 => rfl); (case sxx3 => rfl); (case syy3 => rfl); (case sc3 => exact HZ.out.room); intro W3 hO3 hU3
         have HO3 := hid hO3
         have HW3 := hid (HW.out.trans (hU3.below _ (Nat.le_refl _)))
         clear hO3 hU3)
      | fail)
    refine bodyPost_ret (ret_cell_tmp rfl rfl rfl HO3.out.range Tryz.underlying74 rfl (infoE e)) rfl ⟨rfl, HW3.out⟩
end
end Go.Proofs.YtogoibigabpkhaaGreat

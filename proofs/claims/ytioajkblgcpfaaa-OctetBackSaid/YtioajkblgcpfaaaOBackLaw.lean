/- The law OctetBack: for every numbers, every value and every bytes: numbers and a value that were put one behind the other are taken, and nothing is left; and whatever bytes a value is taken from, they are its own; the law returns true. No condition. -/
import Derived.Test.YtioajkblgcpfaaaOBackA
import Derived.Test.YtioajkblgcpfaaaOBackB
import Derived.Test.YtioajkblgcpfaaaOpenV
namespace Go.Proofs.Ytioajkblgcpfaaa
set_option linter.unusedVariables false
open Go.Joins Go.ChangeShapes Go.WideShapes Go.ChangeAt Go.RowKit Go.Deep

theorem alloc_below {w w' : World} {o : Obj} (h : Below (w.alloc o).heap.size (w.alloc o) w') : Below w.heap.size w w' := ((Below.refl _ w).alloc (Nat.le_refl _) o).trans (h.mono (by simp))

set_option maxRecDepth 100000 in
theorem wBack_longA (n cap m c : Nat) (a a' : Option Addr) (hn : 150 < n) (hm : n ≤ 9223372036854775807) (t : Int) (vb : Value) (w : World) : Calls Try.prog 5 #[.slice a n cap, .agg #[.int .i64 t, .slice a' m c], vb] w fun e w' => e = .returned (.bool true) ∧ Below w.heap.size w w' := by
  go_enter Try.func5, Try.ntmps5
  go_wp2_with (go_at_call 6; refine (oAlive _).mono ?_; rintro e w' ⟨rfl, hB⟩)
  go_ret
  exact ⟨rfl, alloc_below hB⟩
set_option maxRecDepth 100000 in
theorem wBack_longB (n cap m c : Nat) (a a' : Option Addr) (hn : n ≤ 150) (hm : 150 < m) (hm2 : m ≤ 9223372036854775807) (t : Int) (vb : Value) (w : World) : Calls Try.prog 5 #[.slice a n cap, .agg #[.int .i64 t, .slice a' m c], vb] w fun e w' => e = .returned (.bool true) ∧ Below w.heap.size w w' := by
  go_enter Try.func5, Try.ntmps5
  go_wp2_with (go_at_call 6; refine (oAlive _).mono ?_; rintro e w' ⟨rfl, hB⟩)
  go_ret
  exact ⟨rfl, alloc_below hB⟩
set_option maxRecDepth 100000 in
theorem wBack_longC (n cap m c k d : Nat) (a a' a'' : Option Addr) (hn : n ≤ 150) (hm : m ≤ 150) (hk : 3000 < k) (hk2 : k ≤ 9223372036854775807) (t : Int) (w : World) : Calls Try.prog 5 #[.slice a n cap, .agg #[.int .i64 t, .slice a' m c], .slice a'' k d] w fun e w' => e = .returned (.bool true) ∧ Below w.heap.size w w' := by
  go_enter Try.func5, Try.ntmps5
  go_wp2_with (go_at_call 6; refine (oAlive _).mono ?_; rintro e w' ⟨rfl, hB⟩)
  go_ret
  exact ⟨rfl, alloc_below hB⟩
theorem putE_all {l : List Int} (h : putE l = 0) : l.all in40 = true := by
  unfold putE at h; split at h
  · assumption
  · cases h
theorem putVE_all {t : Int} {cs : List C7} (h : putVE t cs = 0) : setB cs = true ∧ in40 t = true := by
  unfold putVE at h; split at h
  · assumption
  · cases h
theorem wBack_all {va vp vb : Value} {ns : List Int} {cs : List C7} {bs : List UInt8} {w : World} {t : Int} (ha : SlN w va ns) (hc : Sl w vp cs) (hb : SlB w vb bs) (hl : ns.length ≤ 9223372036854775807) (hl2 : cs.length ≤ 9223372036854775807) (hl3 : bs.length ≤ 9223372036854775807) : Calls Try.prog 5 #[va, .agg #[.int .i64 t, vp], vb] w fun e w' => e = .returned (.bool true) ∧ Below w.heap.size w w' := by
  by_cases h1 : 150 < ns.length
  · obtain ⟨_, _, cap, a, rfl, _⟩ := ha
    obtain ⟨_, _, cap', a', rfl, _⟩ := hc
    exact wBack_longA _ cap _ cap' a a' h1 hl t vb w
  by_cases h2 : 150 < cs.length
  · obtain ⟨_, _, cap, a, rfl, _⟩ := ha
    obtain ⟨_, _, cap', a', rfl, _⟩ := hc
    exact wBack_longB _ cap _ cap' a a' (by omega) h2 hl2 t vb w
  by_cases h3 : 3000 < bs.length
  · obtain ⟨_, _, cap, a, rfl, _⟩ := ha
    obtain ⟨_, _, cap', a', rfl, _⟩ := hc
    obtain ⟨_, _, cap'', a'', rfl, _⟩ := hb
    exact wBack_longC _ cap _ cap' _ cap'' a a' a'' (by omega) (by omega) h3 hl3 t w
  by_cases h0 : putE ns = 0 ∧ putVE t cs = 0
  · exact wBackA ha hc hb (by omega) (by omega) (by omega) (putE_all h0.1) (putVE_all h0.2).1 (putVE_all h0.2).2
  · exact wBackB ha hc hb (by omega) (by omega) (by omega) h0

set_option maxRecDepth 100000 in
theorem lifted (os : Os) (started : os.Started) (H : Type) (enc : TypeId × Value → H) :
    ReturnsInHanded {} Try.checked os 5 .any (Rows.octetBackSpec.pre6 enc Try.prog Try.f5 Rows.octetBackRow.domain false) (Rows.octetBackSpec.post enc Try.prog Try.f5 false true false false) := by
  refine returnsInHanded_of_change (C := Try.checked) own started (by kernel_rfl) Try.func5
    (ChangeSpec.witness6 (enc := enc) (C := Try.checked) false ⟨#[], #[.slice none 0 0, .agg #[.int .i64 0, .slice none 0 0], .slice none 0 0], []⟩ 8 (by kernel_rfl) (by kernel_rfl) (by kernel_rfl) (by kernel_rfl)) ?_
  intro W base args ds gs before hval0 hW hcnd _
  have hval : ∀ (j : Nat) t v, Try.f5.params[j]? = some t → args[j]? = some v → Value.okWide Try.prog W .any base t v := hval0
  have hW' := hW
  obtain ⟨p, q, hA0, hV, rfl, hfz, hnd⟩ := hW
  have hA : DataW.TrodAll enc Try.prog W 0 (fun _ => true) true Try.f5.params.toList args.toList ds p := hA0
  rw [Try.params5] at hA hval
  obtain ⟨v0, v1, v2, d0, d1, d2, p0, p1, p2, rfl, rfl, rfl, h0, h1, h2⟩ := trodAll_three hA
  obtain ⟨rfl, rfl⟩ := trodVars_none hV
  obtain ⟨ns, ha, hl⟩ := open_nums (hval 0 22 v0 rfl rfl) h0
  obtain ⟨t, vp, cs, rfl, hc, hl2⟩ := open_value (hval 1 34 v1 rfl rfl) h1
  obtain ⟨bs, hb, hl3⟩ := open_octs (hval 2 25 v2 rfl rfl) h2
  refine (wBack_all ha hc hb hl hl2 hl3).mono fun e W' ⟨he, hB⟩ => ?_
  subst he
  have hlt0 : ∀ x ∈ p0, x.block < W.heap.size := fun x hx => hW'.lt x (by simp [hx])
  have hlt1 : ∀ x ∈ p1, x.block < W.heap.size := fun x hx => hW'.lt x (by simp [hx])
  have hlt2 : ∀ x ∈ p2, x.block < W.heap.size := fun x hx => hW'.lt x (by simp [hx])
  exact ⟨_, rfl, _, _, _, [], p0 ++ (p1 ++ (p2 ++ [])), [], hW', trodAll_mk1 (shut_bool Try.underlying4 _), trodAll_cons_mk (Below.trod laidOut (by kernel_rfl) (of_decide_eq_true (by kernel_rfl)) h0 hB hlt0) (trodAll_cons_mk (Below.trod laidOut (by kernel_rfl) (of_decide_eq_true (by kernel_rfl)) h1 hB hlt1) (trodAll_cons_mk (Below.trod laidOut (by kernel_rfl) (of_decide_eq_true (by kernel_rfl)) h2 hB hlt2) trodAll_mk0)), rfl, hB.frame _, fun h => by cases h⟩

theorem over : Rows.octetBackRow.holds Try.pinned (OpenSpec.ofChange Rows.octetBackSpec) :=
  OpenClaim.holds_of_wide 5 Try.f5 rfl rfl rfl rfl rfl rfl rfl ⟨rfl, rfl, rfl, rfl, rfl⟩ rfl rfl rfl rfl rfl (by kernel_rfl) Try.func5 (by kernel_rfl)
    (of_decide_eq_true (by kernel_rfl)) (by unfold Func.isWrapper; first | (rw [if_pos (by decide +kernel)]; kernel_rfl) | (rw [if_neg (by decide +kernel)]; exact ⟨rfl, rfl⟩))
    (fun os started H enc _ => lifted os started H enc)

/-- The statement. -/
theorem proved : Rows.OctetBackSaid :=
  over
end Go.Proofs.Ytioajkblgcpfaaa

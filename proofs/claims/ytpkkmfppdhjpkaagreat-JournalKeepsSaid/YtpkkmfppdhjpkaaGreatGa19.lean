import Derived.Test.YtpkkmfppdhjpkaaGreatGa18
import Derived.Test.YtpkkmfppdhjpkaaGreatGa16
import Derived.Test.YtpkkmfppdhjpkaaGreatGa08
import Derived.Lib.AppendZerosOnto
import Derived.Lib.AppendZeros
/- The mathematics of an entry's bytes: what was put is taken; what is taken has its bytes. -/


namespace Go.Proofs.YtpkkmfppdhjpkaaGreat
set_option linter.unusedVariables false

/-- An entry's bytes. -/
def entB (e : Ev) (f a v : List C7) : List UInt8 := cmdsB [e.c] ++ (putAll [e.pr, e.lo, e.hi] ++ (valueBytes e.ft f ++ (putAll [e.ab] ++ (valueBytes e.xt a ++ (putAll [markI e.fr, markI e.dn] ++ valueBytes e.vt v)))))
theorem must_fine {t : Int} {l : List C7} {b : Bool} (h : mustB t l b = true) : setB l = true ∧ 0 ≤ t ∧ t ≤ 1099511627776 := by
  unfold mustB at h
  cases b
  · simp only [Bool.false_and, Bool.false_or, Bool.not_false, Bool.true_and] at h
    unfold noneB at h
    simp at h
    obtain ⟨rfl, rfl⟩ := h
    exact ⟨by decide, by omega, by omega⟩
  · simp only [Bool.true_and, Bool.not_true, Bool.false_and, Bool.or_false] at h
    unfold fullB validB at h
    simp at h
    exact ⟨h.2, by omega, by omega⟩
theorem times_fine {lo hi : Int} (h : timesB lo hi = true) : 0 ≤ lo ∧ lo ≤ 1099511627776 ∧ 0 ≤ hi ∧ hi ≤ 1099511627776 := by
  unfold timesB validB at h
  simp at h
  rcases h with h | h <;> omega
structure FineE (e : Ev) (f a v : List C7) : Prop where
  c : e.c.ok = true
  pr : 0 ≤ e.pr ∧ e.pr ≤ 1099511627776
  lo : 0 ≤ e.lo ∧ e.lo ≤ 1099511627776
  hi : 0 ≤ e.hi ∧ e.hi ≤ 1099511627776
  f : setB f = true ∧ 0 ≤ e.ft ∧ e.ft ≤ 1099511627776
  ab : 0 ≤ e.ab ∧ e.ab ≤ 1099511627776
  a : setB a = true ∧ 0 ≤ e.xt ∧ e.xt ≤ 1099511627776
  v : setB v = true ∧ 0 ≤ e.vt ∧ e.vt ≤ 1099511627776
theorem right_fine {e : Ev} {f a v : List C7} (h : rightE e f a v = true) : FineE e f a v := by
  unfold rightE at h
  simp only [Bool.and_eq_true] at h
  obtain ⟨⟨⟨⟨⟨⟨h0, h1⟩, h2⟩, h3⟩, h4⟩, h5⟩, h6⟩ := h
  have t := times_fine h2
  unfold withinB at h1 h4
  simp at h1 h4
  exact ⟨h0, ⟨h1.1, by omega⟩, ⟨t.1, t.2.1⟩, ⟨t.2.2.1, t.2.2.2⟩, must_fine h3, ⟨h4.1, by omega⟩, must_fine h5, must_fine h6⟩
theorem mark_fine (b : Bool) : 0 ≤ markI b ∧ markI b ≤ 1099511627776 := by cases b <;> decide
theorem put_fine {l : List Int} (h : ∀ x ∈ l, 0 ≤ x ∧ x ≤ 1099511627776) : putE l = 0 ∧ putB l = putAll l := by
  have : l.all in40 = true := List.all_eq_true.2 fun x hx => in40_true.2 (h x hx)
  exact put_ok this
theorem putV_fine {t : Int} {l : List C7} (h : setB l = true ∧ 0 ≤ t ∧ t ≤ 1099511627776) : putVE t l = 0 ∧ putVB t l = valueBytes t l := by
  have h2 : setB l = true ∧ in40 t = true := ⟨h.1, in40_true.2 h.2⟩
  unfold putVE putVB
  rw [if_pos h2, if_pos h2]
  exact ⟨rfl, rfl⟩

/-! What is taken. -/
structure Tk where
  c : C7
  pr : Nat
  lo : Nat
  hi : Nat
  f : Nat × List C7
  ab : Nat
  a : Nat × List C7
  fr : Nat
  dn : Nat
  v : Nat × List C7
  s : St
def st1 (s : St) : St := (cmdS s).2
def st2 (s : St) : St := (numS (st1 s)).2
def st3 (s : St) : St := (numS (st2 s)).2
def st4 (s : St) : St := (numS (st3 s)).2
def st5 (s : St) : St := (valueS (st4 s)).2
def st6 (s : St) : St := (numS (st5 s)).2
def st7 (s : St) : St := (valueS (st6 s)).2
def st8 (s : St) : St := (numS (st7 s)).2
def st9 (s : St) : St := (numS (st8 s)).2
def st10 (s : St) : St := (valueS (st9 s)).2
def takeE (s : St) : Tk := ⟨(cmdS s).1, (numS (st1 s)).1, (numS (st2 s)).1, (numS (st3 s)).1, (valueS (st4 s)).1, (numS (st5 s)).1, (valueS (st6 s)).1, (numS (st7 s)).1, (numS (st8 s)).1, (valueS (st9 s)).1, st10 s⟩
/-- The entry that is taken; its lists lie where they lie. -/
def Tk.ev (t : Tk) (p q r : Sv) : Ev := ⟨t.c, t.pr, t.lo, t.hi, t.f.1, p, t.ab, t.a.1, q, decide (t.fr = 1), decide (t.dn = 1), t.v.1, r⟩
def Tk.right (t : Tk) : Bool := rightE (t.ev ⟨none, 0, 0⟩ ⟨none, 0, 0⟩ ⟨none, 0, 0⟩) t.f.2 t.a.2 t.v.2
theorem Tk.right_eq (t : Tk) (p q r : Sv) : rightE (t.ev p q r) t.f.2 t.a.2 t.v.2 = t.right := rfl
def Tk.good (t : Tk) : Bool := decide (t.s.2 = 0) && (decide (t.s.1.length = 0) && (decide (t.fr ≤ 1) && (decide (t.dn ≤ 1) && t.right)))

theorem nums_put (l : List Int) (rest : List UInt8) (x : Int) : putAll (x :: l) ++ rest = oneN x.toNat ++ (putAll l ++ rest) := by
  unfold putAll; rw [List.flatMap_cons, List.append_assoc]
theorem putAll_nil (rest : List UInt8) : putAll [] ++ rest = rest := rfl
theorem cmdsB_one (c : C7) : cmdsB [c] = c.bytes := by unfold cmdsB; simp
theorem one_back {x : Int} (h : 0 ≤ x ∧ x ≤ 1099511627776) (rest : List UInt8) : numS (oneN x.toNat ++ rest, 0) = (x.toNat, (rest, 0)) := numS_one (by omega) rest
theorem value_end {t : Int} {l : List C7} (h : setB l = true ∧ 0 ≤ t ∧ t ≤ 1099511627776) : valueS (valueBytes t l, 0) = ((t.toNat, l), ([], 0)) := by
  have := valueS_back h.2.1 h.2.2 h.1 []
  rwa [List.append_nil] at this
/-- What was put is taken. -/
theorem take_back {e : Ev} {f a v : List C7} (h : FineE e f a v) : takeE (entB e f a v, 0) = ⟨e.c, e.pr.toNat, e.lo.toNat, e.hi.toNat, (e.ft.toNat, f), e.ab.toNat, (e.xt.toNat, a), (markI e.fr).toNat, (markI e.dn).toNat, (e.vt.toNat, v), ([], 0)⟩ := by
  have k0 : cmdS (entB e f a v, 0) = (e.c, (putAll [e.pr, e.lo, e.hi] ++ (valueBytes e.ft f ++ (putAll [e.ab] ++ (valueBytes e.xt a ++ (putAll [markI e.fr, markI e.dn] ++ valueBytes e.vt v)))), 0)) := by
    unfold entB; rw [cmdsB_one]; exact cmdS_back h.c _
  simp only [nums_put, putAll_nil] at k0
  have k1 := one_back h.pr (oneN e.lo.toNat ++ (oneN e.hi.toNat ++ (valueBytes e.ft f ++ (oneN e.ab.toNat ++ (valueBytes e.xt a ++ (oneN (markI e.fr).toNat ++ (oneN (markI e.dn).toNat ++ valueBytes e.vt v)))))))
  have k2 := one_back h.lo (oneN e.hi.toNat ++ (valueBytes e.ft f ++ (oneN e.ab.toNat ++ (valueBytes e.xt a ++ (oneN (markI e.fr).toNat ++ (oneN (markI e.dn).toNat ++ valueBytes e.vt v))))))
  have k3 := one_back h.hi (valueBytes e.ft f ++ (oneN e.ab.toNat ++ (valueBytes e.xt a ++ (oneN (markI e.fr).toNat ++ (oneN (markI e.dn).toNat ++ valueBytes e.vt v)))))
  have k4 := valueS_back h.f.2.1 h.f.2.2 h.f.1 (oneN e.ab.toNat ++ (valueBytes e.xt a ++ (oneN (markI e.fr).toNat ++ (oneN (markI e.dn).toNat ++ valueBytes e.vt v))))
  have k5 := one_back h.ab (valueBytes e.xt a ++ (oneN (markI e.fr).toNat ++ (oneN (markI e.dn).toNat ++ valueBytes e.vt v)))
  have k6 := valueS_back h.a.2.1 h.a.2.2 h.a.1 (oneN (markI e.fr).toNat ++ (oneN (markI e.dn).toNat ++ valueBytes e.vt v))
  have k7 := one_back (mark_fine e.fr) (oneN (markI e.dn).toNat ++ valueBytes e.vt v)
  have k8 := one_back (mark_fine e.dn) (valueBytes e.vt v)
  have k9 := value_end h.v
  unfold takeE st10 st9 st8 st7 st6 st5 st4 st3 st2 st1
  rw [k0]; dsimp only
  rw [k1]; dsimp only
  rw [k2]; dsimp only
  rw [k3]; dsimp only
  rw [k4]; dsimp only
  rw [k5]; dsimp only
  rw [k6]; dsimp only
  rw [k7]; dsimp only
  rw [k8]; dsimp only
  rw [k9]
theorem mark_eq (b : Bool) : decide ((markI b).toNat = 1) = b := by cases b <;> rfl
theorem nat_eq {x : Int} (h : 0 ≤ x) : ((x.toNat : Nat) : Int) = x := by omega
theorem good_back {e : Ev} {f a v : List C7} (h : rightE e f a v = true) : (takeE (entB e f a v, 0)).good = true := by
  have hf := right_fine h
  rw [take_back hf]
  have hr : Tk.right ⟨e.c, e.pr.toNat, e.lo.toNat, e.hi.toNat, (e.ft.toNat, f), e.ab.toNat, (e.xt.toNat, a), (markI e.fr).toNat, (markI e.dn).toNat, (e.vt.toNat, v), ([], 0)⟩ = true := by
    unfold Tk.right Tk.ev
    dsimp only
    rw [nat_eq hf.pr.1, nat_eq hf.lo.1, nat_eq hf.hi.1, nat_eq hf.f.2.1, nat_eq hf.ab.1, nat_eq hf.a.2.1, nat_eq hf.v.2.1, mark_eq, mark_eq]
    exact h
  unfold Tk.good
  rw [hr]
  dsimp only
  have h1 : (markI e.fr).toNat ≤ 1 := by cases e.fr <;> decide
  have h2 : (markI e.dn).toNat ≤ 1 := by cases e.dn <;> decide
  simp [h1, h2]
/-- What is taken has its bytes. -/
theorem take_bytes {bs : List UInt8} {p q r : Sv} (h : (takeE (bs, 0)).good = true) : entB ((takeE (bs, 0)).ev p q r) (takeE (bs, 0)).f.2 (takeE (bs, 0)).a.2 (takeE (bs, 0)).v.2 = bs := by
  unfold Tk.good at h
  simp only [Bool.and_eq_true, decide_eq_true_eq] at h
  obtain ⟨h0, h1, h2, h3, h4⟩ := h
  have hs : (st10 (bs, 0)).2 = 0 := h0
  have hn : (st10 (bs, 0)).1 = [] := List.length_eq_zero_iff.1 h1
  have k9 := valueS_ok (s := st9 (bs, 0)) hs
  have k8 := numS_ok (s := st8 (bs, 0)) k9.1
  have k7 := numS_ok (s := st7 (bs, 0)) k8.1
  have k6 := valueS_ok (s := st6 (bs, 0)) k7.1
  have k5 := numS_ok (s := st5 (bs, 0)) k6.1
  have k4 := valueS_ok (s := st4 (bs, 0)) k5.1
  have k3 := numS_ok (s := st3 (bs, 0)) k4.1
  have k2 := numS_ok (s := st2 (bs, 0)) k3.1
  have k1 := numS_ok (s := st1 (bs, 0)) k2.1
  have k0 := cmdS_ok (s := (bs, 0)) k1.1
  have mfr : (markI (decide ((takeE (bs, 0)).fr = 1))).toNat = (takeE (bs, 0)).fr := by
    obtain h | h : (takeE (bs, 0)).fr = 0 ∨ (takeE (bs, 0)).fr = 1 := by omega
    all_goals rw [h]; rfl
  have mdn : (markI (decide ((takeE (bs, 0)).dn = 1))).toNat = (takeE (bs, 0)).dn := by
    obtain h | h : (takeE (bs, 0)).dn = 0 ∨ (takeE (bs, 0)).dn = 1 := by omega
    all_goals rw [h]; rfl
  have e : bs = (cmdS (bs, 0)).1.bytes ++ (oneN (numS (st1 (bs, 0))).1 ++ (oneN (numS (st2 (bs, 0))).1 ++ (oneN (numS (st3 (bs, 0))).1 ++ (valueBytes (valueS (st4 (bs, 0))).1.1 (valueS (st4 (bs, 0))).1.2 ++ (oneN (numS (st5 (bs, 0))).1 ++ (valueBytes (valueS (st6 (bs, 0))).1.1 (valueS (st6 (bs, 0))).1.2 ++ (oneN (numS (st7 (bs, 0))).1 ++ (oneN (numS (st8 (bs, 0))).1 ++ valueBytes (valueS (st9 (bs, 0))).1.1 (valueS (st9 (bs, 0))).1.2)))))))) := by
    have e0 := k0.2.2
    have e1 : (cmdS (bs, 0)).2.1 = _ := k1.2.2
    have e2 : (numS (st1 (bs, 0))).2.1 = _ := k2.2.2
    have e3 : (numS (st2 (bs, 0))).2.1 = _ := k3.2.2
    have e4 : (numS (st3 (bs, 0))).2.1 = _ := k4.2.2.2
    have e5 : (valueS (st4 (bs, 0))).2.1 = _ := k5.2.2
    have e6 : (numS (st5 (bs, 0))).2.1 = _ := k6.2.2.2
    have e7 : (valueS (st6 (bs, 0))).2.1 = _ := k7.2.2
    have e8 : (numS (st7 (bs, 0))).2.1 = _ := k8.2.2
    have e9 : (numS (st8 (bs, 0))).2.1 = _ := k9.2.2.2
    have e10 : (valueS (st9 (bs, 0))).2.1 = [] := hn
    dsimp only at e0
    rw [e10, List.append_nil] at e9
    rw [e9] at e8; rw [e8] at e7; rw [e7] at e6; rw [e6] at e5; rw [e5] at e4; rw [e4] at e3; rw [e3] at e2; rw [e2] at e1; rw [e1] at e0
    exact e0
  unfold entB Tk.ev
  simp only [nums_put, putAll_nil, cmdsB_one, mfr, mdn, Int.toNat_natCast]
  exact e.symm
theorem cmdsB_seven' : ∀ l : List C7, 7 * l.length ≤ (cmdsB l).length
  | [] => by simp
  | c :: l => by
    have h := cmdsB_seven' l
    have h7 : 7 ≤ c.bytes.length := by
      unfold C7.bytes
      simp only [List.length_append]
      have p := fun n => List.length_pos_iff.2 (oneN_ne n)
      have := p c.i.toNat; have := p c.k.toNat; have := p c.s.toNat; have := p c.t.toNat; have := p c.d.toNat; have := p c.p.toNat; have := p c.q.toNat
      omega
    unfold cmdsB at *
    rw [List.flatMap_cons, List.length_append, List.length_cons]; omega
theorem value_long (t : Int) (l : List C7) : 7 * l.length ≤ (valueBytes t l).length := by
  have := cmdsB_seven' l
  unfold valueBytes cmdsBytes; simp only [List.length_append]; omega
/-- The lists of what is taken are short. -/
theorem take_short {bs : List UInt8} (h : (takeE (bs, 0)).good = true) : 7 * (takeE (bs, 0)).f.2.length ≤ bs.length ∧ 7 * (takeE (bs, 0)).a.2.length ≤ bs.length ∧ 7 * (takeE (bs, 0)).v.2.length ≤ bs.length := by
  have e := take_bytes (p := ⟨none, 0, 0⟩) (q := ⟨none, 0, 0⟩) (r := ⟨none, 0, 0⟩) h
  have hl := congrArg List.length e
  unfold entB at hl
  simp only [List.length_append] at hl
  have a1 := value_long ((takeE (bs, 0)).ev ⟨none, 0, 0⟩ ⟨none, 0, 0⟩ ⟨none, 0, 0⟩).ft (takeE (bs, 0)).f.2
  have a2 := value_long ((takeE (bs, 0)).ev ⟨none, 0, 0⟩ ⟨none, 0, 0⟩ ⟨none, 0, 0⟩).xt (takeE (bs, 0)).a.2
  have a3 := value_long ((takeE (bs, 0)).ev ⟨none, 0, 0⟩ ⟨none, 0, 0⟩ ⟨none, 0, 0⟩).vt (takeE (bs, 0)).v.2
  omega
end Go.Proofs.YtpkkmfppdhjpkaaGreat
/- Room for bytes: the library's Grow of nothing. -/
namespace Go.Proofs.YtpkkmfppdhjpkaaGreat
set_option linter.unusedVariables false
open Go.RowKit
open Go.Lib (hid)

set_option maxHeartbeats 1600000 in
set_option maxRecDepth 100000 in
theorem cGrow (n : Nat) (hn : 1 ≤ n) (hl : n ≤ 1000000) (w : World) : Calls Tryz.prog 74 #[.slice none 0 0, .int .i64 n] w fun x w' => ∃ g cap, x = .returned (.slice (some ⟨g, 0, none⟩) 0 cap) ∧ OwnB w' w.heap.size (.slice (some ⟨g, 0, none⟩) 0 cap) [] ∧ Below w.heap.size w w' := by
  obtain ⟨i0, hi, hz0, hz1, hz2⟩ := info_parts Tryz.infoB
  have hold : (Builtin.firstCells i0.size 0 (.slice none 0 0)).run Tryz.prog w.drew = .ok (#[] : Array Value) w.drew := run_firstCells_none w.drew i0.size 0 0 0
  have hrz : ∀ ty, (Builtin.append_ #[63, 3] ty #[.slice none 0 0, .int .i64 n]).run Tryz.prog w = .ok (.slice (some ⟨w.heap.size, 0, none⟩) n (grownCap w n 0 5)) (w.drew.alloc (.cells ((#[] : Array Value) ++ Builtin.zeroCells (Value.int .u8 0).cells n ++ Builtin.zeroCells (Value.int .u8 0).cells (grownCap w n 0 5 - n)) 5)) := fun ty => by
    have h := Lib.run_append_grow_zeros w 63 3 ty 5 i0 (.int .u8 0) .i64 .i64 Tryz.underlying63 Tryz.underlying3 hi hz0 none 0 0 [] hold n (by omega) (by omega) (by omega) (by omega) (by rw [hz2]; omega) (by
      rw [hz2]
      have := growslice_fits (need := 0 + n) (old := 0) (bytes := 1) (by omega) (by omega)
      exact this)
    rw [Nat.zero_add] at h
    exact h
  have hGn : n ≤ grownCap w n 0 5 := grownCap_ge w _ _ _
  have hG63 := grownCap_le_maxLen w n 0 5 (by unfold maxLen; omega)
  obtain ⟨G, hG⟩ : ∃ G, G = grownCap w n 0 5 := ⟨_, rfl⟩
  rw [← hG] at hrz hGn hG63
  have h0 : ¬ ((n : Int) < 0) := by omega
  have h1 : (0 : Int) < (n : Int) := by omega
  have hGi : G ≤ 9223372036854775807 := by unfold maxLen at hG63; omega
  clear hG hold hi hz0 hz1 hz2
  go_enter Tryz.func74, Tryz.ntmps74
  go_wp2_with (at_builtin; refine Lib.wpList_append_run _ rfl _ _ _ _ rfl _ _ rfl rfl _ _ (hrz _) ?_)
  all_goals (
    go_ret
    exact ⟨_, _, rfl, ⟨rfl, .inr ⟨w.heap.size, G, _, rfl, Nat.le_refl _, obDrew (heap_alloc_new w _), Nat.zero_le _, hG63, by simp [Builtin.zeroCells]; omega, by simp [octs]⟩⟩, belowDrew ((Below.refl _ w).alloc (Nat.le_refl _) _)⟩)
end Go.Proofs.YtpkkmfppdhjpkaaGreat

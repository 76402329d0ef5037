/- An entry's bytes: the program's Encode, of one that may be. -/
import Derived.Test.YtmndjdaiailgmaaRest4
import Derived.Test.YtmndjdaiailgmaaCPutVL
import Derived.Test.YtmndjdaiailgmaaCRd
import Derived.Test.YtmndjdaiailgmaaCRightE
import Derived.Test.YtmndjdaiailgmaaValS
import Derived.Lib.AppendZerosOnto
import Derived.Lib.AppendZeros
import Derived.Deep.RegionHeld3
/- An entry's bytes: small parts: a mark as a number, a command's bytes. -/
namespace Go.Proofs.Ytmndjdaiailgmaa
set_option linter.unusedVariables false
open Go.RowKit
open Go.Lib (hid)

def markI (b : Bool) : Int := if b = true then 1 else 0
theorem cBit (b : Bool) (w : World) : Calls Try.prog 39 #[.bool b] w fun x w' => x = .returned (.int .i64 (markI b)) ∧ w = w' := by
  cases b
  all_goals (
    go_enter Try.func39, Try.ntmps39
    go_wp2
    go_ret
    exact ⟨rfl, rfl⟩)
theorem rFlag (b : Bool) (w : World) : Calls Try.prog 56 #[.bool b] w fun x w' => x = .returned (.int .i64 (markI b)) ∧ w = w' := by
  cases b
  all_goals (
    go_enter Try.func56, Try.ntmps56
    go_wp2
    go_ret
    exact ⟨rfl, rfl⟩)
theorem cmd_pos (c : C7) : 1 ≤ (cmdsB [c]).length := by
  have h : (cmdsB [c]) = c.bytes := by unfold cmdsB; simp
  have h1 : 0 < (oneN c.i.toNat).length := List.length_pos_iff.2 (oneN_ne _)
  rw [h]; unfold C7.bytes; simp only [List.length_append]; omega
/-- What stands behind the first byte. -/
theorem SlB.tail {w : World} {g cap n : Nat} {x : UInt8} {l : List UInt8} (h : SlB w (.slice (some ⟨g, 0, none⟩) n cap) (x :: l)) (hl : 1 ≤ l.length) : SlB w (.slice (some ⟨g, 1, none⟩) (n - 1) (cap - 1)) l := by
  obtain ⟨b, o, cap2, a2, hv, hn, hc, ha, hcl, hlt⟩ := h
  injection hv with h1 h2 h3
  have h4 := ha (by simp)
  rw [← h1] at h4
  have h5 := Option.some.inj h4
  injection h5 with h6 h7 h8
  subst h6 h7
  simp only [List.length_cons] at h2 hc
  refine ⟨g, 1, cap - 1, _, by rw [h2]; simp, fun e => (by cases e), by omega, fun _ => rfl, fun j y hy => ?_, fun _ => hlt (by simp)⟩
  have := hcl (j + 1) y (by simpa using hy)
  rwa [show 0 + (j + 1) = 1 + j by omega] at this
theorem put_one {c : C7} (hc : c.ok = true) : putCE [c] = 0 ∧ putCB [c] = 1 :: cmdsB [c] := by
  have h : ([c].all C7.ok = true ∧ [c].length ≤ 1024) := by simp [hc]
  refine ⟨if_pos h, (if_pos h).trans ?_⟩
  show oneN 1 ++ cmdsB [c] = _
  rw [oneN_small (by omega)]; rfl

set_option maxHeartbeats 1600000 in
set_option maxRecDepth 100000 in
theorem cCmdBytes {c : C7} {w : World} (hc : c.ok = true) : Calls Try.prog 41 #[.agg #[.int .i64 c.i, .int .i64 c.k, .int .i64 c.s, .int .i64 c.t, .int .i64 c.d, .int .i64 c.p, .int .i64 c.q]] w fun x w' => ∃ r, x = .returned r ∧ SlB w' r (cmdsB [c]) ∧ Below w.heap.size w w' := by
  have hO := fun (W : World) (u : Value) (hu : Sl W u [c]) => cPutCmds hu (by simp)
  rw [(put_one hc).1, (put_one hc).2] at hO
  have HO := hid hO
  clear hO hc
  have HC : Hid ((w.alloc (.cells #[.int .i64 c.i, .int .i64 c.k, .int .i64 c.s, .int .i64 c.t, .int .i64 c.d, .int .i64 c.p, .int .i64 c.q] 25)).heap[w.heap.size]? = some ((.cells #[.int .i64 c.i, .int .i64 c.k, .int .i64 c.s, .int .i64 c.t, .int .i64 c.d, .int .i64 c.p, .int .i64 c.q] 25))) := hid (laid1_0 w (.cells #[.int .i64 c.i, .int .i64 c.k, .int .i64 c.s, .int .i64 c.t, .int .i64 c.d, .int .i64 c.p, .int .i64 c.q] 25))
  have HW : Hid (Below w.heap.size w (w.alloc (.cells #[.int .i64 c.i, .int .i64 c.k, .int .i64 c.s, .int .i64 c.t, .int .i64 c.d, .int .i64 c.p, .int .i64 c.q] 25))) := hid (laid1_b w (.cells #[.int .i64 c.i, .int .i64 c.k, .int .i64 c.s, .int .i64 c.t, .int .i64 c.d, .int .i64 c.p, .int .i64 c.q] 25))
  have tok : Hid (0 = 0) := hid rfl
  go_enter Try.func41, Try.ntmps41
  go_wp2_with (first
    | (clear tok; (with_reducible refine opaqueW (w.alloc (.cells #[.int .i64 c.i, .int .i64 c.k, .int .i64 c.s, .int .i64 c.t, .int .i64 c.d, .int .i64 c.p, .int .i64 c.q] 25)) ?_); intro W0 hW; rw [← hW] at HC HW; clear hW; have kC0 : W0.cell? ⟨w.heap.size, 0, none⟩ = some (.int .i64 c.i) := (cellAt' HC.out 0).trans rfl; have kC1 : W0.cell? ⟨w.heap.size, 1, none⟩ = some (.int .i64 c.k) := (cellAt' HC.out 1).trans rfl; have kC2 : W0.cell? ⟨w.heap.size, 2, none⟩ = some (.int .i64 c.s) := (cellAt' HC.out 2).trans rfl; have kC3 : W0.cell? ⟨w.heap.size, 3, none⟩ = some (.int .i64 c.t) := (cellAt' HC.out 3).trans rfl; have kC4 : W0.cell? ⟨w.heap.size, 4, none⟩ = some (.int .i64 c.d) := (cellAt' HC.out 4).trans rfl; have kC5 : W0.cell? ⟨w.heap.size, 5, none⟩ = some (.int .i64 c.p) := (cellAt' HC.out 5).trans rfl; have kC6 : W0.cell? ⟨w.heap.size, 6, none⟩ = some (.int .i64 c.q) := (cellAt' HC.out 6).trans rfl)
    | fail)
  go_at_call 69
  refine (HO.out _ _ (Sl.madeC (c := c) rfl)).mono ?_
  rintro x w1 ⟨r, rfl, ho, hB⟩
  obtain ⟨g, cap, rfl⟩ := ho.some (by simp)
  have HS := hid ho.slb
  have HW1 := hid ((HW.out.alloc HW.out.size _).trans (hB.mono (by have := HW.out.size; simp; omega)))
  have hcap : (1 :: cmdsB [c]).length ≤ cap := by
    obtain ⟨_, _, cap2, a2, hv, _, h2, _⟩ := ho.slb
    injection hv with _ _ h3
    omega
  clear ho hB HC HW kC0 kC1 kC2 kC3 kC4 kC5 kC6
  obtain ⟨n, hn⟩ : ∃ n, n = (1 :: cmdsB [c]).length := ⟨_, rfl⟩
  rw [← hn] at hcap
  rw [← hn]
  have hn1 : 1 ≤ n := by rw [hn]; simp
  have hn2 : ¬ cap = 1 := by have := cmd_pos c; rw [List.length_cons] at hn; omega
  rw [← hn] at HS
  clear hn
  go_wp2
  go_ret
  exact ⟨_, rfl, HS.out.tail (cmd_pos c), HW1.out⟩
end Go.Proofs.Ytmndjdaiailgmaa
/- The mathematics of an entry's bytes: what was put is taken; what is taken has its bytes. -/
namespace Go.Proofs.Ytmndjdaiailgmaa
set_option linter.unusedVariables false

/-- An entry's bytes. -/
def entB (e : Ev) (f a v : List C7) : List UInt8 := cmdsB [e.c] ++ (putAll [e.pr, e.lo, e.hi] ++ (valueBytes e.ft f ++ (putAll [e.ab] ++ (valueBytes e.xt a ++ (putAll [markI e.fr, markI e.dn] ++ valueBytes e.vt v)))))
theorem must_fine {t : Int} {l : List C7} {b : Bool} (h : mustB t l b = true) : setB l = true ∧ 0 ≤ t ∧ t ≤ 1099511627776 := by
  unfold mustB at h
  cases b
  · simp only [Bool.false_and, Bool.false_or, Bool.not_false, Bool.true_and] at h
    unfold noneB at h
    simp at h
    obtain ⟨rfl, rfl⟩ := h
    exact ⟨by decide, by omega, by omega⟩
  · simp only [Bool.true_and, Bool.not_true, Bool.false_and, Bool.or_false] at h
    unfold fullB validB at h
    simp at h
    exact ⟨h.2, by omega, by omega⟩
theorem times_fine {lo hi : Int} (h : timesB lo hi = true) : 0 ≤ lo ∧ lo ≤ 1099511627776 ∧ 0 ≤ hi ∧ hi ≤ 1099511627776 := by
  unfold timesB validB at h
  simp at h
  rcases h with h | h <;> omega
structure FineE (e : Ev) (f a v : List C7) : Prop where
  c : e.c.ok = true
  pr : 0 ≤ e.pr ∧ e.pr ≤ 1099511627776
  lo : 0 ≤ e.lo ∧ e.lo ≤ 1099511627776
  hi : 0 ≤ e.hi ∧ e.hi ≤ 1099511627776
  f : setB f = true ∧ 0 ≤ e.ft ∧ e.ft ≤ 1099511627776
  ab : 0 ≤ e.ab ∧ e.ab ≤ 1099511627776
  a : setB a = true ∧ 0 ≤ e.xt ∧ e.xt ≤ 1099511627776
  v : setB v = true ∧ 0 ≤ e.vt ∧ e.vt ≤ 1099511627776
theorem right_fine {e : Ev} {f a v : List C7} (h : rightE e f a v = true) : FineE e f a v := by
  unfold rightE at h
  simp only [Bool.and_eq_true] at h
  obtain ⟨⟨⟨⟨⟨⟨h0, h1⟩, h2⟩, h3⟩, h4⟩, h5⟩, h6⟩ := h
  have t := times_fine h2
  unfold withinB at h1 h4
  simp at h1 h4
  exact ⟨h0, ⟨h1.1, by omega⟩, ⟨t.1, t.2.1⟩, ⟨t.2.2.1, t.2.2.2⟩, must_fine h3, ⟨h4.1, by omega⟩, must_fine h5, must_fine h6⟩
theorem mark_fine (b : Bool) : 0 ≤ markI b ∧ markI b ≤ 1099511627776 := by cases b <;> decide
theorem put_fine {l : List Int} (h : ∀ x ∈ l, 0 ≤ x ∧ x ≤ 1099511627776) : putE l = 0 ∧ putB l = putAll l := by
  have : l.all in40 = true := List.all_eq_true.2 fun x hx => in40_true.2 (h x hx)
  exact put_ok this
theorem putV_fine {t : Int} {l : List C7} (h : setB l = true ∧ 0 ≤ t ∧ t ≤ 1099511627776) : putVE t l = 0 ∧ putVB t l = valueBytes t l := by
  have h2 : setB l = true ∧ in40 t = true := ⟨h.1, in40_true.2 h.2⟩
  unfold putVE putVB
  rw [if_pos h2, if_pos h2]
  exact ⟨rfl, rfl⟩

/-! What is taken. -/
structure Tk where
  c : C7
  pr : Nat
  lo : Nat
  hi : Nat
  f : Nat × List C7
  ab : Nat
  a : Nat × List C7
  fr : Nat
  dn : Nat
  v : Nat × List C7
  s : St
def st1 (s : St) : St := (cmdS s).2
def st2 (s : St) : St := (numS (st1 s)).2
def st3 (s : St) : St := (numS (st2 s)).2
def st4 (s : St) : St := (numS (st3 s)).2
def st5 (s : St) : St := (valueS (st4 s)).2
def st6 (s : St) : St := (numS (st5 s)).2
def st7 (s : St) : St := (valueS (st6 s)).2
def st8 (s : St) : St := (numS (st7 s)).2
def st9 (s : St) : St := (numS (st8 s)).2
def st10 (s : St) : St := (valueS (st9 s)).2
def takeE (s : St) : Tk := ⟨(cmdS s).1, (numS (st1 s)).1, (numS (st2 s)).1, (numS (st3 s)).1, (valueS (st4 s)).1, (numS (st5 s)).1, (valueS (st6 s)).1, (numS (st7 s)).1, (numS (st8 s)).1, (valueS (st9 s)).1, st10 s⟩
/-- The entry that is taken; its lists lie where they lie. -/
def Tk.ev (t : Tk) (p q r : Sv) : Ev := ⟨t.c, t.pr, t.lo, t.hi, t.f.1, p, t.ab, t.a.1, q, decide (t.fr = 1), decide (t.dn = 1), t.v.1, r⟩
def Tk.right (t : Tk) : Bool := rightE (t.ev ⟨none, 0, 0⟩ ⟨none, 0, 0⟩ ⟨none, 0, 0⟩) t.f.2 t.a.2 t.v.2
theorem Tk.right_eq (t : Tk) (p q r : Sv) : rightE (t.ev p q r) t.f.2 t.a.2 t.v.2 = t.right := rfl
def Tk.good (t : Tk) : Bool := decide (t.s.2 = 0) && (decide (t.s.1.length = 0) && (decide (t.fr ≤ 1) && (decide (t.dn ≤ 1) && t.right)))

theorem nums_put (l : List Int) (rest : List UInt8) (x : Int) : putAll (x :: l) ++ rest = oneN x.toNat ++ (putAll l ++ rest) := by
  unfold putAll; rw [List.flatMap_cons, List.append_assoc]
theorem putAll_nil (rest : List UInt8) : putAll [] ++ rest = rest := rfl
theorem cmdsB_one (c : C7) : cmdsB [c] = c.bytes := by unfold cmdsB; simp
theorem one_back {x : Int} (h : 0 ≤ x ∧ x ≤ 1099511627776) (rest : List UInt8) : numS (oneN x.toNat ++ rest, 0) = (x.toNat, (rest, 0)) := numS_one (by omega) rest
theorem value_end {t : Int} {l : List C7} (h : setB l = true ∧ 0 ≤ t ∧ t ≤ 1099511627776) : valueS (valueBytes t l, 0) = ((t.toNat, l), ([], 0)) := by
  have := valueS_back h.2.1 h.2.2 h.1 []
  rwa [List.append_nil] at this
/-- What was put is taken. -/
theorem take_back {e : Ev} {f a v : List C7} (h : FineE e f a v) : takeE (entB e f a v, 0) = ⟨e.c, e.pr.toNat, e.lo.toNat, e.hi.toNat, (e.ft.toNat, f), e.ab.toNat, (e.xt.toNat, a), (markI e.fr).toNat, (markI e.dn).toNat, (e.vt.toNat, v), ([], 0)⟩ := by
  have k0 : cmdS (entB e f a v, 0) = (e.c, (putAll [e.pr, e.lo, e.hi] ++ (valueBytes e.ft f ++ (putAll [e.ab] ++ (valueBytes e.xt a ++ (putAll [markI e.fr, markI e.dn] ++ valueBytes e.vt v)))), 0)) := by
    unfold entB; rw [cmdsB_one]; exact cmdS_back h.c _
  simp only [nums_put, putAll_nil] at k0
  have k1 := one_back h.pr (oneN e.lo.toNat ++ (oneN e.hi.toNat ++ (valueBytes e.ft f ++ (oneN e.ab.toNat ++ (valueBytes e.xt a ++ (oneN (markI e.fr).toNat ++ (oneN (markI e.dn).toNat ++ valueBytes e.vt v)))))))
  have k2 := one_back h.lo (oneN e.hi.toNat ++ (valueBytes e.ft f ++ (oneN e.ab.toNat ++ (valueBytes e.xt a ++ (oneN (markI e.fr).toNat ++ (oneN (markI e.dn).toNat ++ valueBytes e.vt v))))))
  have k3 := one_back h.hi (valueBytes e.ft f ++ (oneN e.ab.toNat ++ (valueBytes e.xt a ++ (oneN (markI e.fr).toNat ++ (oneN (markI e.dn).toNat ++ valueBytes e.vt v)))))
  have k4 := valueS_back h.f.2.1 h.f.2.2 h.f.1 (oneN e.ab.toNat ++ (valueBytes e.xt a ++ (oneN (markI e.fr).toNat ++ (oneN (markI e.dn).toNat ++ valueBytes e.vt v))))
  have k5 := one_back h.ab (valueBytes e.xt a ++ (oneN (markI e.fr).toNat ++ (oneN (markI e.dn).toNat ++ valueBytes e.vt v)))
  have k6 := valueS_back h.a.2.1 h.a.2.2 h.a.1 (oneN (markI e.fr).toNat ++ (oneN (markI e.dn).toNat ++ valueBytes e.vt v))
  have k7 := one_back (mark_fine e.fr) (oneN (markI e.dn).toNat ++ valueBytes e.vt v)
  have k8 := one_back (mark_fine e.dn) (valueBytes e.vt v)
  have k9 := value_end h.v
  unfold takeE st10 st9 st8 st7 st6 st5 st4 st3 st2 st1
  rw [k0]; dsimp only
  rw [k1]; dsimp only
  rw [k2]; dsimp only
  rw [k3]; dsimp only
  rw [k4]; dsimp only
  rw [k5]; dsimp only
  rw [k6]; dsimp only
  rw [k7]; dsimp only
  rw [k8]; dsimp only
  rw [k9]
theorem mark_eq (b : Bool) : decide ((markI b).toNat = 1) = b := by cases b <;> rfl
theorem nat_eq {x : Int} (h : 0 ≤ x) : ((x.toNat : Nat) : Int) = x := by omega
theorem good_back {e : Ev} {f a v : List C7} (h : rightE e f a v = true) : (takeE (entB e f a v, 0)).good = true := by
  have hf := right_fine h
  rw [take_back hf]
  have hr : Tk.right ⟨e.c, e.pr.toNat, e.lo.toNat, e.hi.toNat, (e.ft.toNat, f), e.ab.toNat, (e.xt.toNat, a), (markI e.fr).toNat, (markI e.dn).toNat, (e.vt.toNat, v), ([], 0)⟩ = true := by
    unfold Tk.right Tk.ev
    dsimp only
    rw [nat_eq hf.pr.1, nat_eq hf.lo.1, nat_eq hf.hi.1, nat_eq hf.f.2.1, nat_eq hf.ab.1, nat_eq hf.a.2.1, nat_eq hf.v.2.1, mark_eq, mark_eq]
    exact h
  unfold Tk.good
  rw [hr]
  dsimp only
  have h1 : (markI e.fr).toNat ≤ 1 := by cases e.fr <;> decide
  have h2 : (markI e.dn).toNat ≤ 1 := by cases e.dn <;> decide
  simp [h1, h2]
/-- What is taken has its bytes. -/
theorem take_bytes {bs : List UInt8} {p q r : Sv} (h : (takeE (bs, 0)).good = true) : entB ((takeE (bs, 0)).ev p q r) (takeE (bs, 0)).f.2 (takeE (bs, 0)).a.2 (takeE (bs, 0)).v.2 = bs := by
  unfold Tk.good at h
  simp only [Bool.and_eq_true, decide_eq_true_eq] at h
  obtain ⟨h0, h1, h2, h3, h4⟩ := h
  have hs : (st10 (bs, 0)).2 = 0 := h0
  have hn : (st10 (bs, 0)).1 = [] := List.length_eq_zero_iff.1 h1
  have k9 := valueS_ok (s := st9 (bs, 0)) hs
  have k8 := numS_ok (s := st8 (bs, 0)) k9.1
  have k7 := numS_ok (s := st7 (bs, 0)) k8.1
  have k6 := valueS_ok (s := st6 (bs, 0)) k7.1
  have k5 := numS_ok (s := st5 (bs, 0)) k6.1
  have k4 := valueS_ok (s := st4 (bs, 0)) k5.1
  have k3 := numS_ok (s := st3 (bs, 0)) k4.1
  have k2 := numS_ok (s := st2 (bs, 0)) k3.1
  have k1 := numS_ok (s := st1 (bs, 0)) k2.1
  have k0 := cmdS_ok (s := (bs, 0)) k1.1
  have mfr : (markI (decide ((takeE (bs, 0)).fr = 1))).toNat = (takeE (bs, 0)).fr := by
    obtain h | h : (takeE (bs, 0)).fr = 0 ∨ (takeE (bs, 0)).fr = 1 := by omega
    all_goals rw [h]; rfl
  have mdn : (markI (decide ((takeE (bs, 0)).dn = 1))).toNat = (takeE (bs, 0)).dn := by
    obtain h | h : (takeE (bs, 0)).dn = 0 ∨ (takeE (bs, 0)).dn = 1 := by omega
    all_goals rw [h]; rfl
  have e : bs = (cmdS (bs, 0)).1.bytes ++ (oneN (numS (st1 (bs, 0))).1 ++ (oneN (numS (st2 (bs, 0))).1 ++ (oneN (numS (st3 (bs, 0))).1 ++ (valueBytes (valueS (st4 (bs, 0))).1.1 (valueS (st4 (bs, 0))).1.2 ++ (oneN (numS (st5 (bs, 0))).1 ++ (valueBytes (valueS (st6 (bs, 0))).1.1 (valueS (st6 (bs, 0))).1.2 ++ (oneN (numS (st7 (bs, 0))).1 ++ (oneN (numS (st8 (bs, 0))).1 ++ valueBytes (valueS (st9 (bs, 0))).1.1 (valueS (st9 (bs, 0))).1.2)))))))) := by
    have e0 := k0.2.2
    have e1 : (cmdS (bs, 0)).2.1 = _ := k1.2.2
    have e2 : (numS (st1 (bs, 0))).2.1 = _ := k2.2.2
    have e3 : (numS (st2 (bs, 0))).2.1 = _ := k3.2.2
    have e4 : (numS (st3 (bs, 0))).2.1 = _ := k4.2.2.2
    have e5 : (valueS (st4 (bs, 0))).2.1 = _ := k5.2.2
    have e6 : (numS (st5 (bs, 0))).2.1 = _ := k6.2.2.2
    have e7 : (valueS (st6 (bs, 0))).2.1 = _ := k7.2.2
    have e8 : (numS (st7 (bs, 0))).2.1 = _ := k8.2.2
    have e9 : (numS (st8 (bs, 0))).2.1 = _ := k9.2.2.2
    have e10 : (valueS (st9 (bs, 0))).2.1 = [] := hn
    dsimp only at e0
    rw [e10, List.append_nil] at e9
    rw [e9] at e8; rw [e8] at e7; rw [e7] at e6; rw [e6] at e5; rw [e5] at e4; rw [e4] at e3; rw [e3] at e2; rw [e2] at e1; rw [e1] at e0
    exact e0
  unfold entB Tk.ev
  simp only [nums_put, putAll_nil, cmdsB_one, mfr, mdn, Int.toNat_natCast]
  exact e.symm
theorem cmdsB_seven' : ∀ l : List C7, 7 * l.length ≤ (cmdsB l).length
  | [] => by simp
  | c :: l => by
    have h := cmdsB_seven' l
    have h7 : 7 ≤ c.bytes.length := by
      unfold C7.bytes
      simp only [List.length_append]
      have p := fun n => List.length_pos_iff.2 (oneN_ne n)
      have := p c.i.toNat; have := p c.k.toNat; have := p c.s.toNat; have := p c.t.toNat; have := p c.d.toNat; have := p c.p.toNat; have := p c.q.toNat
      omega
    unfold cmdsB at *
    rw [List.flatMap_cons, List.length_append, List.length_cons]; omega
theorem value_long (t : Int) (l : List C7) : 7 * l.length ≤ (valueBytes t l).length := by
  have := cmdsB_seven' l
  unfold valueBytes cmdsBytes; simp only [List.length_append]; omega
/-- The lists of what is taken are short. -/
theorem take_short {bs : List UInt8} (h : (takeE (bs, 0)).good = true) : 7 * (takeE (bs, 0)).f.2.length ≤ bs.length ∧ 7 * (takeE (bs, 0)).a.2.length ≤ bs.length ∧ 7 * (takeE (bs, 0)).v.2.length ≤ bs.length := by
  have e := take_bytes (p := ⟨none, 0, 0⟩) (q := ⟨none, 0, 0⟩) (r := ⟨none, 0, 0⟩) h
  have hl := congrArg List.length e
  unfold entB at hl
  simp only [List.length_append] at hl
  have a1 := value_long ((takeE (bs, 0)).ev ⟨none, 0, 0⟩ ⟨none, 0, 0⟩ ⟨none, 0, 0⟩).ft (takeE (bs, 0)).f.2
  have a2 := value_long ((takeE (bs, 0)).ev ⟨none, 0, 0⟩ ⟨none, 0, 0⟩ ⟨none, 0, 0⟩).xt (takeE (bs, 0)).a.2
  have a3 := value_long ((takeE (bs, 0)).ev ⟨none, 0, 0⟩ ⟨none, 0, 0⟩ ⟨none, 0, 0⟩).vt (takeE (bs, 0)).v.2
  omega
end Go.Proofs.Ytmndjdaiailgmaa
/- Room for bytes: the library's Grow of nothing. -/
namespace Go.Proofs.Ytmndjdaiailgmaa
set_option linter.unusedVariables false
open Go.RowKit
open Go.Lib (hid)

set_option maxHeartbeats 1600000 in
set_option maxRecDepth 100000 in
theorem cGrow (n : Nat) (hn : 1 ≤ n) (hl : n ≤ 1000000) (w : World) : Calls Try.prog 68 #[.slice none 0 0, .int .i64 n] w fun x w' => ∃ g cap, x = .returned (.slice (some ⟨g, 0, none⟩) 0 cap) ∧ OwnB w' w.heap.size (.slice (some ⟨g, 0, none⟩) 0 cap) [] ∧ Below w.heap.size w w' := by
  obtain ⟨i0, hi, hz0, hz1, hz2⟩ := info_parts Try.infoB
  have hold : (Builtin.firstCells i0.size 0 (.slice none 0 0)).run Try.prog w.drew = .ok (#[] : Array Value) w.drew := run_firstCells_none w.drew i0.size 0 0 0
  have hrz : ∀ ty, (Builtin.append_ #[42, 3] ty #[.slice none 0 0, .int .i64 n]).run Try.prog w = .ok (.slice (some ⟨w.heap.size, 0, none⟩) n (grownCap w n 0 5)) (w.drew.alloc (.cells ((#[] : Array Value) ++ Builtin.zeroCells (Value.int .u8 0).cells n ++ Builtin.zeroCells (Value.int .u8 0).cells (grownCap w n 0 5 - n)) 5)) := fun ty => by
    have h := Lib.run_append_grow_zeros w 42 3 ty 5 i0 (.int .u8 0) .i64 .i64 Try.underlying42 Try.underlying3 hi hz0 none 0 0 [] hold n (by omega) (by omega) (by omega) (by omega) (by rw [hz2]; omega) (by
      rw [hz2]
      have := growslice_fits (need := 0 + n) (old := 0) (bytes := 1) (by omega) (by omega)
      exact this)
    rw [Nat.zero_add] at h
    exact h
  have hGn : n ≤ grownCap w n 0 5 := grownCap_ge w _ _ _
  have hG63 := grownCap_le_maxLen w n 0 5 (by unfold maxLen; omega)
  obtain ⟨G, hG⟩ : ∃ G, G = grownCap w n 0 5 := ⟨_, rfl⟩
  rw [← hG] at hrz hGn hG63
  have h0 : ¬ ((n : Int) < 0) := by omega
  have h1 : (0 : Int) < (n : Int) := by omega
  have hGi : G ≤ 9223372036854775807 := by unfold maxLen at hG63; omega
  clear hG hold hi hz0 hz1 hz2
  go_enter Try.func68, Try.ntmps68
  go_wp2_with (at_builtin; refine Lib.wpList_append_run _ rfl _ _ _ _ rfl _ _ rfl rfl _ _ (hrz _) ?_)
  all_goals (
    go_ret
    exact ⟨_, _, rfl, ⟨rfl, .inr ⟨w.heap.size, G, _, rfl, Nat.le_refl _, obDrew (heap_alloc_new w _), Nat.zero_le _, hG63, by simp [Builtin.zeroCells]; omega, by simp [octs]⟩⟩, belowDrew ((Below.refl _ w).alloc (Nat.le_refl _) _)⟩)
end Go.Proofs.Ytmndjdaiailgmaa
/- Bytes behind bytes: the library's Concat. -/
namespace Go.Proofs.Ytmndjdaiailgmaa
set_option linter.unusedVariables false
open Go.RowKit
open Go.Lib (hid)

/-- Slices of bytes, one behind the other in a block, and what they hold. -/
def RowsB (w : World) (b o : Nat) (ps : List (Sv × List UInt8)) : Prop := ∀ j p, ps[j]? = some p → w.cell? ⟨b, o + j, none⟩ = some (.slice p.1.a p.1.n p.1.c) ∧ SlB w p.1.v p.2
def lensB (ps : List (Sv × List UInt8)) : Nat := (ps.map fun p => p.2.length).sum
def catB (ps : List (Sv × List UInt8)) : List UInt8 := ps.flatMap fun p => p.2
theorem lens_next {ps : List (Sv × List UInt8)} {j : Nat} {p : Sv × List UInt8} (h : ps[j]? = some p) : lensB (ps.take (j + 1)) = lensB (ps.take j) + p.2.length := by
  unfold lensB; rw [List.take_add_one, h]; simp
theorem cat_next {ps : List (Sv × List UInt8)} {j : Nat} {p : Sv × List UInt8} (h : ps[j]? = some p) : catB (ps.take (j + 1)) = catB (ps.take j) ++ p.2 := by
  unfold catB; rw [List.take_add_one, h]; simp
theorem lens_le (ps : List (Sv × List UInt8)) (j : Nat) : lensB (ps.take j) ≤ lensB ps := by
  have h : ps = ps.take j ++ ps.drop j := (List.take_append_drop j ps).symm
  have : lensB (ps.take j ++ ps.drop j) = lensB (ps.take j) + lensB (ps.drop j) := by unfold lensB; rw [List.map_append, List.sum_append]
  rw [← h] at this
  omega
theorem cat_len : ∀ ps : List (Sv × List UInt8), (catB ps).length = lensB ps
  | [] => rfl
  | p :: ps => by
    have := cat_len ps
    unfold catB lensB at *
    simp only [List.flatMap_cons, List.length_append, List.map_cons, List.sum_cons]
    omega
theorem SlB.len {w : World} {p : Sv} {l : List UInt8} (h : SlB w p.v l) : p.n = l.length := by
  obtain ⟨_, _, cap, a, hv', _⟩ := id h
  injection hv'

theorem wpList_append_slb {w : World} {ops : Array Oper} {rest : List Oper} {o : Oper} {a : Act} {Q : Exit → Act → World → Prop} (hgd : o.guard = none) (s x : Operand) (ho : o.op = .call { callee := .builtin .append, args := #[s, x], argTypes := #[42, 42] })
    (base : Nat) (v : Value) (l1 : List UInt8) (hs : a.eval s = v) (hown : OwnB w base v l1) (v2 : Value) (l2 : List UInt8) (hx : a.eval x = v2) (h2 : SlB w v2 l2) (hlen : l1.length + l2.length ≤ 1000000) (hbase : base ≤ w.heap.size)
    (h : ∀ v' w', OwnB w' base v' (l1 ++ l2) → w.grownBy w' v.ownBlock → wpList Try.prog ops Q rest (a.put o.dst v') w') : wpList Try.prog ops Q (o :: rest) a w := by
  obtain ⟨i0, hi, hz0, hz1, hz2⟩ := info_parts Try.infoB
  rcases h2.src with ⟨rfl, rfl⟩ | ⟨ad, cap, rfl, hc, _⟩
  · refine wpList_append_own_none hgd s x 42 ho base 5 i0 1 Try.underlying42 hi v l1.length (octs l1) hs hown hx ?_
    exact h v w (by rw [List.append_nil]; exact hown) (grownRefl _ _)
  · refine wpList_append_own _ hgd s x 42 ho base 5 i0 _ 1 1 Try.underlying42 hi hz0 hz1 hz2 rfl (by decide) v l1.length (octs l1) hs hown ad l2.length cap (octs l2) hx (by rw [octs_len, Nat.mul_one]) hc (octs_one _) (by unfold maxLen; omega) (by omega) hbase ?_
    intro v' w' ho' hg _
    exact h v' w' (by unfold OwnB; rw [octs_append, List.length_append]; exact ho') hg


set_option maxHeartbeats 1600000 in
set_option maxRecDepth 100000 in
theorem cConcat {ps : List (Sv × List UInt8)} {b o cap : Nat} {w : World} (h : RowsB w b o ps) (hb : b < w.heap.size) (h1 : 1 ≤ lensB ps) (h2 : lensB ps ≤ 1000000) (hk : ps.length ≤ 100) :
    Calls Try.prog 40 #[.slice (some ⟨b, o, none⟩) ps.length cap] w fun x w' => ∃ r, x = .returned r ∧ OwnB w' w.heap.size r (catB ps) ∧ Below w.heap.size w w' := by
  obtain ⟨n, hn⟩ : ∃ n, n = ps.length := ⟨_, rfl⟩
  rw [← hn] at hk ⊢
  have HN := hid hn
  have HR := hid h
  clear hn h
  go_enter Try.func40, Try.ntmps40
  go_wp2
  go_loopw [3, 11] (fun s i wr => ∃ j : Nat, j ≤ n ∧ i = .int .i64 j ∧ s = .int .i64 (lensB (ps.take j)) ∧ wr = w) (fun _ i _ => n - (intOf i).toNat)
  case atStart => exact ⟨0, Nat.zero_le _, rfl, rfl, rfl⟩
  case round =>
    obtain ⟨j, hj, rfl, rfl, rfl⟩ := hrel
    by_cases hlt : j < n
    · obtain ⟨p, hp⟩ : ∃ p, ps[j]? = some p := ⟨ps[j]'(by rw [← HN.out]; exact hlt), List.getElem?_eq_getElem (by rw [← HN.out]; exact hlt)⟩
      obtain ⟨k0, hs⟩ := HR.out j p hp
      have hl := hs.len
      have hnx := lens_next hp
      have hle := lens_le ps (j + 1)
      have hlt2 : (j : Int) < (n : Int) := by omega
      have hw : wrap64 ((lensB (ps.take j) : Int) + (p.1.n : Int)) = (lensB (ps.take j) : Int) + (p.1.n : Int) := by unfold wrap64; omega
      have hsum : ¬ ((lensB (ps.take j) : Int) + (p.1.n : Int) < 0) := by omega
      have HX := hid (And.intro hl hnx)
      clear hs hl hnx hle hp
      go_wp2
      go_roundw
      case rel => exact ⟨j + 1, by omega, by go_num, congrArg (Value.int .i64) (by have e1 := HX.out.1; have e2 := HX.out.2; omega), trivial⟩
      case measure => simp [RowKit.intOf]; omega
    · obtain ⟨w0, hw0⟩ : ∃ W, W = wr := ⟨_, rfl⟩
      subst hw0
      have hlt2 : ¬ (j : Int) < (n : Int) := by omega
      have hall : ps.take j = ps := by rw [show j = ps.length by have := HN.out; omega]; exact List.take_length
      rw [hall]
      have hG := fun W => cGrow (lensB ps) h1 h2 W
      obtain ⟨N, hNN⟩ : ∃ N, N = lensB ps := ⟨_, rfl⟩
      rw [← hNN] at hG ⊢
      have H2 := hid (hNN ▸ h2)
      have HNN := hid hNN
      clear hall h1 h2 hNN
      go_wp2_with fail
      go_at_call 68
      refine (hG _).mono ?_
      rintro x w1 ⟨g, cg, rfl, ho, hB⟩
      have HO := hid ho
      have HB := hid hB
      clear ho hB
      go_wp2
      go_loopw [6, 27] (fun s i w2 => ∃ (j : Nat) (v : Value), j ≤ n ∧ i = .int .i64 j ∧ s = v ∧ OwnB w2 w0.heap.size v (catB (ps.take j)) ∧ Below w0.heap.size w0 w2) (fun _ i _ => n - (intOf i).toNat)
      case atStart => exact ⟨0, _, Nat.zero_le _, rfl, rfl, HO.out, HB.out⟩
      case round =>
        obtain ⟨j, v, hj, rfl, rfl, ho, hB⟩ := hrel
        by_cases hlt : j < n
        · obtain ⟨p, hp⟩ : ∃ p, ps[j]? = some p := ⟨ps[j]'(by rw [← HN.out]; exact hlt), List.getElem?_eq_getElem (by rw [← HN.out]; exact hlt)⟩
          obtain ⟨k0, hs⟩ := HR.out j p hp
          have k1 := (hB.cell (p := ⟨b, o + j, none⟩) hb).trans k0
          have hs1 := hid (hs.on hB)
          have hnx := cat_next hp
          have hlen : (catB (ps.take j)).length + p.2.length ≤ 1000000 := by
            have e1 := lens_next hp
            have e2 := lens_le ps (j + 1)
            have e3 : (catB (ps.take j)).length = lensB (ps.take j) := cat_len _
            have e4 := HNN.out
            have e5 := H2.out
            omega
          have hlt2 : (j : Int) < (n : Int) := by omega
          have HX := hid (And.intro hnx hlen)
          have HO2 := hid ho
          have HB2 := hid hB
          obtain ⟨ga, ca, na, rfl, hna⟩ := ho.asSlice
          have HNA := hid hna
          clear k0 hs hnx hlen hp ho hB hna
          go_wp2_with (at_builtin; refine wpList_append_slb rfl _ _ rfl w0.heap.size _ (catB (ps.take j)) rfl HO2.out _ p.2 rfl hs1.out HX.out.2 HB2.out.size ?_; intro v' w' ho' hg; have HO3 := hid ho'; have HB3 := hid (HB2.out.grown hg HB2.out.size (fun k hk => (HO2.out.lt k hk).1)); clear ho' hg)
          go_roundw
          case rel => exact ⟨j + 1, _, by omega, by go_num, rfl, by rw [HX.out.1]; exact HO3.out, HB3.out⟩
          case measure => simp [RowKit.intOf]; omega
        · have hlt2 : ¬ (j : Int) < (n : Int) := by omega
          have hall : ps.take j = ps := by rw [show j = ps.length by have := HN.out; omega]; exact List.take_length
          rw [hall] at ho
          have HO2 := hid ho
          have HB2 := hid hB
          clear ho hB
          go_wp2
          go_ret
          exact ⟨_, rfl, HO2.out, HB2.out⟩
end Go.Proofs.Ytmndjdaiailgmaa
/- An entry's bytes: the program's Encode, of one that may not be. -/
namespace Go.Proofs.Ytmndjdaiailgmaa
set_option linter.unusedVariables false
open Go.RowKit
open Go.Lib (hid)

set_option maxHeartbeats 4000000 in
set_option maxRecDepth 100000 in
theorem cEncode_no {e : Ev} {f a v : List C7} {w : World} (hf : Sl w e.fp.v f) (ha : Sl w e.xp.v a) (hv : Sl w e.vp.v v) (lf : f.length ≤ 1024) (la : a.length ≤ 1024) (lv : v.length ≤ 1024) (hr : rightE e f a v = false) :
    Calls Try.prog 11 #[.agg e.arr] w fun x w' => x = .returned (.tuple #[.slice none 0 0, .int .i64 1]) ∧ Below w.heap.size w w' := by
  have hR := fun (W : World) (hB : Below w.heap.size w W) => cRightE (hf.on hB) (ha.on hB) (hv.on hB) lf la lv
  rw [hr] at hR
  clear hf ha hv hr
  have HX : Hid (Ob (w.alloc (.cells e.arr 30)) (w.heap.size) 30 e) := hid (laid1_0 w (.cells e.arr 30))
  have HW : Hid (Below w.heap.size w (w.alloc (.cells e.arr 30))) := hid (laid1_b w (.cells e.arr 30))
  have tok : Hid (0 = 0) := hid rfl
  go_enter Try.func11, Try.ntmps11
  go_wp2_with (first
    | (clear tok; (with_reducible refine opaqueW (w.alloc (.cells e.arr 30)) ?_); intro W0 hW; rw [← hW] at HX HW; clear hW)
    | ((with_reducible refine loadC (x := ?lx1) (b := ?lb1) (T := 30) e ?lg1 ?lo1 ?lxx1 ?lc1 ?lh1); (case lg1 => rfl); (case lo1 => rfl); (case lxx1 => rfl); (case lc1 => exact HX.out))
    | fail)
  go_at_call 6
  refine (hR _ HW.out).mono ?_
  rintro x w1 ⟨rfl, hB⟩
  have GX : Hid (Ob w1 (w.heap.size) 30 e) := hid (heapB (HX.out) hB (Array.getElem?_eq_some_iff.1 (HX.out)).1)
  have GW := hid ((HW.out).trans (hB.mono (HW.out).size))
  clear hB HX HW
  have HX := GX; clear GX
  have HW := GW; clear GW
  go_wp2_with fail
  go_ret2
  exact ⟨rfl, HW.out⟩
end Go.Proofs.Ytmndjdaiailgmaa
namespace Go.Proofs.Ytmndjdaiailgmaa
set_option linter.unusedVariables false
open Go.RowKit
open Go.Lib (hid)

theorem SlN.lit1 {w : World} {T : TypeId} {q : Nat} {x : Int} (hq : q = w.heap.size) : SlN (w.alloc (.cells #[.int .i64 x] T)) (.slice (some ⟨q, 0, none⟩) 1 1) [x] := by
  subst hq
  refine ⟨w.heap.size, 0, 1, _, rfl, fun _ => rfl, fun j y hy => ?_, fun _ => by simp⟩
  rw [World.cell?_alloc_new, Nat.zero_add, List.getElem?_toArray]
  match j, hy with
  | 0, hy => cases hy; rfl
  | _ + 1, hy => cases hy
theorem SlN.lit2 {w : World} {T : TypeId} {q : Nat} {x y : Int} (hq : q = w.heap.size) : SlN (w.alloc (.cells #[.int .i64 x, .int .i64 y] T)) (.slice (some ⟨q, 0, none⟩) 2 2) [x, y] := by
  subst hq
  refine ⟨w.heap.size, 0, 2, _, rfl, fun _ => rfl, fun j z hz => ?_, fun _ => by simp⟩
  rw [World.cell?_alloc_new, Nat.zero_add, List.getElem?_toArray]
  match j, hz with
  | 0, hz => cases hz; rfl
  | 1, hz => cases hz; rfl
  | _ + 2, hz => cases hz
theorem SlN.lit3 {w : World} {T : TypeId} {q : Nat} {x y z : Int} (hq : q = w.heap.size) : SlN (w.alloc (.cells #[.int .i64 x, .int .i64 y, .int .i64 z] T)) (.slice (some ⟨q, 0, none⟩) 3 3) [x, y, z] := by
  subst hq
  refine ⟨w.heap.size, 0, 3, _, rfl, fun _ => rfl, fun j u hu => ?_, fun _ => by simp⟩
  rw [World.cell?_alloc_new, Nat.zero_add, List.getElem?_toArray]
  match j, hu with
  | 0, hu => cases hu; rfl
  | 1, hu => cases hu; rfl
  | 2, hu => cases hu; rfl
  | _ + 3, hu => cases hu
theorem putN0 {v : Value} {l : List Int} {w : World} (h : SlN w v l) (hl : l.length ≤ 3000) (hf : ∀ x ∈ l, 0 ≤ x ∧ x ≤ 1099511627776) : Calls Try.prog 37 #[v] w fun e w' => ∃ r, e = .returned (.tuple #[r, .int .i64 0]) ∧ OwnB w' w.heap.size r (putAll l) ∧ Below w.heap.size w w' := by
  have := cPutN h hl
  rw [(put_fine hf).1, (put_fine hf).2] at this
  exact this
theorem putV0 {v : Value} {cs : List C7} {w : World} {t : Int} (h : Sl w v cs) (hl : cs.length ≤ 428) (hf : setB cs = true ∧ 0 ≤ t ∧ t ≤ 1099511627776) : Calls Try.prog 38 #[.agg #[.int .i64 t, v]] w fun e w' => ∃ r, e = .returned (.tuple #[r, .int .i64 0]) ∧ OwnB w' w.heap.size r (valueBytes t cs) ∧ Below w.heap.size w w' := by
  have := cPutValueL t h hl
  rw [(putV_fine hf).1, (putV_fine hf).2] at this
  exact this
def EncS (w w5 : World) (b c : Bool) (W : World) : Prop := w5.heap.size ≤ W.heap.size ∧ Below w5.heap.size w5 W ∧ W.cell? ⟨w.heap.size, 15, none⟩ = some (.bool b) ∧ W.cell? ⟨w.heap.size, 16, none⟩ = some (.bool c)
theorem EncS.on {w w5 W W' : World} {b c : Bool} (h : EncS w w5 b c W) (hq : w.heap.size < w5.heap.size) (hb : Below w5.heap.size W W') : EncS w w5 b c W' :=
  ⟨Nat.le_trans h.1 hb.size, h.2.1.trans hb, (hb.cell (p := ⟨w.heap.size, 15, none⟩) hq).trans h.2.2.1, (hb.cell (p := ⟨w.heap.size, 16, none⟩) hq).trans h.2.2.2⟩
theorem SlN.drewL {w : World} {v : Value} {l : List Int} (h : SlN w v l) : SlN w.drew v l := h
theorem SlB.sv3 {w : World} {v : Value} {l : List UInt8} (h : SlB w v l) : ∃ g c n, v = .slice g n c := by
  obtain ⟨b, o, cap, a, rfl, _⟩ := h
  exact ⟨_, _, _, rfl⟩
theorem all_ok {l : List C7} (h : setB l = true) : l.all C7.ok = true := (setB_ok h).1
theorem bytes_most {c : C7} (h : c.ok = true) : c.bytes.length ≤ 42 := by
  obtain ⟨h0, h1, h2, h3, h4, h5, h6⟩ := C7.ok_small h
  unfold C7.bytes
  simp only [List.length_append]
  have := oneN_six (n := c.i.toNat) (by omega); have := oneN_six (n := c.k.toNat) (by omega); have := oneN_six (n := c.s.toNat) (by omega); have := oneN_six (n := c.t.toNat) (by omega); have := oneN_six (n := c.d.toNat) (by omega); have := oneN_six (n := c.p.toNat) (by omega); have := oneN_six (n := c.q.toNat) (by omega)
  omega
theorem value_most {t : Int} {l : List C7} (h : setB l = true ∧ 0 ≤ t ∧ t ≤ 1099511627776) (hl : l.length ≤ 428) : (valueBytes t l).length ≤ 18000 := by
  have h1 := cmdsBytes_len l (all_ok h.1) (by omega)
  have h6 := oneN_six (n := t.toNat) (by omega)
  unfold valueBytes
  rw [List.length_append]; omega
theorem FineE.three {e : Ev} {f a v : List C7} (h : FineE e f a v) : ∀ x ∈ [e.pr, e.lo, e.hi], 0 ≤ x ∧ x ≤ 1099511627776 := by
  intro x hx
  simp at hx
  rcases hx with rfl | rfl | rfl
  · exact h.pr
  · exact h.lo
  · exact h.hi
theorem FineE.one {e : Ev} {f a v : List C7} (h : FineE e f a v) : ∀ x ∈ [e.ab], 0 ≤ x ∧ x ≤ 1099511627776 := by
  intro x hx
  simp at hx
  subst hx
  exact h.ab
theorem marks_two (b c : Bool) : ∀ x ∈ [markI b, markI c], 0 ≤ x ∧ x ≤ 1099511627776 := by
  intro x hx
  simp at hx
  rcases hx with rfl | rfl
  · exact mark_fine b
  · exact mark_fine c
theorem ent_len {e : Ev} {f a v : List C7} (h : FineE e f a v) (lf : f.length ≤ 428) (la : a.length ≤ 428) (lv : v.length ≤ 428) : 1 ≤ (entB e f a v).length ∧ (entB e f a v).length ≤ 1000000 := by
  have h0 := bytes_most h.c
  have h1 := cmd_pos e.c
  rw [cmdsB_one] at h1
  have p3 := putAll_len [e.pr, e.lo, e.hi] (List.all_eq_true.2 fun x hx => in40_true.2 (FineE.three h x hx))
  have p1 := putAll_len [e.ab] (List.all_eq_true.2 fun x hx => in40_true.2 (FineE.one h x hx))
  have p2 := putAll_len [markI e.fr, markI e.dn] (List.all_eq_true.2 fun x hx => in40_true.2 (marks_two e.fr e.dn x hx))
  have vf := value_most h.f lf
  have va := value_most h.a la
  have vv := value_most h.v lv
  simp at p1 p2 p3
  unfold entB
  simp only [List.length_append, cmdsB_one]
  omega
theorem rows_seven {w2 : World} {q : Nat} {T : TypeId} {s0 s1 s2 s3 s4 s5 s6 : Sv} {l0 l1 l2 l3 l4 l5 l6 : List UInt8} (h : w2.heap[q]? = some (.cells #[s0.v, s1.v, s2.v, s3.v, s4.v, s5.v, s6.v] T (0, 0))) (h0 : SlB w2 s0.v l0) (h1 : SlB w2 s1.v l1) (h2 : SlB w2 s2.v l2) (h3 : SlB w2 s3.v l3) (h4 : SlB w2 s4.v l4) (h5 : SlB w2 s5.v l5) (h6 : SlB w2 s6.v l6) : RowsB w2 q 0 [(s0, l0), (s1, l1), (s2, l2), (s3, l3), (s4, l4), (s5, l5), (s6, l6)] := by
  intro j p hp
  have hc := cellAt' h
  rw [Nat.zero_add]
  match j, hp with
  | 0, hp => cases hp; exact ⟨hc 0, h0⟩
  | 1, hp => cases hp; exact ⟨hc 1, h1⟩
  | 2, hp => cases hp; exact ⟨hc 2, h2⟩
  | 3, hp => cases hp; exact ⟨hc 3, h3⟩
  | 4, hp => cases hp; exact ⟨hc 4, h4⟩
  | 5, hp => cases hp; exact ⟨hc 5, h5⟩
  | 6, hp => cases hp; exact ⟨hc 6, h6⟩
  | _ + 7, hp => cases hp

set_option maxHeartbeats 4000000 in
set_option maxRecDepth 100000 in
theorem cEncode_yes {e : Ev} {f a v : List C7} {w : World} (hf : Sl w e.fp.v f) (ha : Sl w e.xp.v a) (hv : Sl w e.vp.v v) (lf : f.length ≤ 428) (la : a.length ≤ 428) (lv : v.length ≤ 428) (hr : rightE e f a v = true) :
    Calls Try.prog 11 #[.agg e.arr] w fun x w' => ∃ r, x = .returned (.tuple #[r, .int .i64 0]) ∧ OwnB w' w.heap.size r (entB e f a v) ∧ Below w.heap.size w w' := by
  have HE := hid (right_fine hr)
  have hR := fun (W : World) (hB : Below w.heap.size w W) => cRightE (hf.on hB) (ha.on hB) (hv.on hB) (by omega) (by omega) (by omega)
  rw [hr] at hR
  have HF := hid hf
  have HA := hid ha
  have HV := hid hv
  have HL := hid (And.intro lf (And.intro la lv))
  clear hf ha hv hr lf la lv
  have HX : Hid (Ob (w.alloc (.cells e.arr 30)) (w.heap.size) 30 e) := hid (laid1_0 w (.cells e.arr 30))
  have HW : Hid (Below w.heap.size w (w.alloc (.cells e.arr 30))) := hid (laid1_b w (.cells e.arr 30))
  have tok : Hid (0 = 0) := hid rfl
  go_enter Try.func11, Try.ntmps11
  go_wp2_with (first
    | (clear tok; (with_reducible refine opaqueW (w.alloc (.cells e.arr 30)) ?_); intro W0 hW; rw [← hW] at HX HW; clear hW)
    | ((with_reducible refine loadC (x := ?lx1) (b := ?lb1) (T := 30) e ?lg1 ?lo1 ?lxx1 ?lc1 ?lh1); (case lg1 => rfl); (case lo1 => rfl); (case lxx1 => rfl); (case lc1 => exact HX.out))
    | fail)
  go_at_call 6
  refine (hR _ HW.out).mono ?_
  rintro x w1 ⟨rfl, hB⟩
  have GX : Hid (Ob w1 w.heap.size 30 e) := hid (heapB HX.out hB (Array.getElem?_eq_some_iff.1 HX.out).1)
  have GW := hid (HW.out.trans (hB.mono HW.out.size))
  clear HX HW  
  have HX := GX; clear GX
  have HW := GW; clear GW
  clear hB hR
  have k7 : w1.cell? ⟨w.heap.size, 7, none⟩ = some (.int .i64 e.pr) := HX.out.cell (j := 7) rfl
  have k8 : w1.cell? ⟨w.heap.size, 8, none⟩ = some (.int .i64 e.lo) := HX.out.cell (j := 8) rfl
  have k9 : w1.cell? ⟨w.heap.size, 9, none⟩ = some (.int .i64 e.hi) := HX.out.cell (j := 9) rfl
  go_wp2_with fail
  go_at_call 37
  refine (putN0 (SlN.lit3 rfl) (by simp) HE.out.three).mono ?_
  rintro x w2 ⟨r2, rfl, ho, hB0⟩
  have hB : Below w1.heap.size w1 w2 := ((Below.refl _ w1).alloc (Nat.le_refl _) _).trans (hB0.mono (by simp))
  have GX : Hid (Ob w2 w.heap.size 30 e) := hid (heapB HX.out hB (Array.getElem?_eq_some_iff.1 HX.out).1)
  have GW := hid (HW.out.trans (hB.mono HW.out.size))
  clear HX HW k7 k8 k9 
  have HX := GX; clear GX
  have HW := GW; clear GW
  have S2 := hid ho.slb
  obtain ⟨g2, c2, n2, rfl, hn⟩ := ho.asSlice
  clear ho hn hB hB0
  have k10 : w2.cell? ⟨w.heap.size, 10, none⟩ = some (.int .i64 e.ft) := HX.out.cell (j := 10) rfl
  have k11 : w2.cell? ⟨w.heap.size, 11, none⟩ = some (.slice e.fp.a e.fp.n e.fp.c) := HX.out.cell (j := 11) rfl
  go_wp2_with fail
  go_at_call 38
  refine (putV0 (HF.out.on HW.out) HL.out.1 HE.out.f).mono ?_
  rintro x w3 ⟨r3, rfl, ho, hB0⟩
  have hB := hB0
  have GX : Hid (Ob w3 w.heap.size 30 e) := hid (heapB HX.out hB (Array.getElem?_eq_some_iff.1 HX.out).1)
  have GW := hid (HW.out.trans (hB.mono HW.out.size))
  have G2 := hid (S2.out.on hB)
  clear HX HW k10 k11 S2
  have HX := GX; clear GX
  have HW := GW; clear GW
  have S2 := G2; clear G2
  have S3 := hid ho.slb
  obtain ⟨g3, c3, n3, rfl, hn⟩ := ho.asSlice
  clear ho hn hB hB0
  have k12 : w3.cell? ⟨w.heap.size, 12, none⟩ = some (.int .i64 e.ab) := HX.out.cell (j := 12) rfl
  go_wp2_with fail
  go_at_call 37
  refine (putN0 (SlN.lit1 rfl) (by simp) HE.out.one).mono ?_
  rintro x w4 ⟨r4, rfl, ho, hB0⟩
  have hB : Below w3.heap.size w3 w4 := ((Below.refl _ w3).alloc (Nat.le_refl _) _).trans (hB0.mono (by simp))
  have GX : Hid (Ob w4 w.heap.size 30 e) := hid (heapB HX.out hB (Array.getElem?_eq_some_iff.1 HX.out).1)
  have GW := hid (HW.out.trans (hB.mono HW.out.size))
  have G2 := hid (S2.out.on hB)
  have G3 := hid (S3.out.on hB)
  clear HX HW k12 S2 S3
  have HX := GX; clear GX
  have HW := GW; clear GW
  have S2 := G2; clear G2
  have S3 := G3; clear G3
  have S4 := hid ho.slb
  obtain ⟨g4, c4, n4, rfl, hn⟩ := ho.asSlice
  clear ho hn hB hB0
  have k13 : w4.cell? ⟨w.heap.size, 13, none⟩ = some (.int .i64 e.xt) := HX.out.cell (j := 13) rfl
  have k14 : w4.cell? ⟨w.heap.size, 14, none⟩ = some (.slice e.xp.a e.xp.n e.xp.c) := HX.out.cell (j := 14) rfl
  go_wp2_with fail
  go_at_call 38
  refine (putV0 (HA.out.on HW.out) HL.out.2.1 HE.out.a).mono ?_
  rintro x w5 ⟨r5, rfl, ho, hB0⟩
  have hB := hB0
  have GX : Hid (Ob w5 w.heap.size 30 e) := hid (heapB HX.out hB (Array.getElem?_eq_some_iff.1 HX.out).1)
  have GW := hid (HW.out.trans (hB.mono HW.out.size))
  have G2 := hid (S2.out.on hB)
  have G3 := hid (S3.out.on hB)
  have G4 := hid (S4.out.on hB)
  clear HX HW k13 k14 S2 S3 S4
  have HX := GX; clear GX
  have HW := GW; clear GW
  have S2 := G2; clear G2
  have S3 := G3; clear G3
  have S4 := G4; clear G4
  have S5 := hid ho.slb
  obtain ⟨g5, c5, n5, rfl, hn⟩ := ho.asSlice
  clear ho hn hB hB0
  have k15 : w5.cell? ⟨w.heap.size, 15, none⟩ = some (.bool e.fr) := HX.out.cell (j := 15) rfl
  have k16 : w5.cell? ⟨w.heap.size, 16, none⟩ = some (.bool e.dn) := HX.out.cell (j := 16) rfl
  go_wp2_with fail
  have hqw : w.heap.size < w5.heap.size := (Array.getElem?_eq_some_iff.1 HX.out).1
  have hS0 : EncS w w5 e.fr e.dn w5.drew := ⟨Nat.le_refl _, (Below.refl _ w5).drew, k15, k16⟩
  have HS0 := hid hS0
  have HS1 : Hid (EncS w w5 e.fr e.dn w5) := hid ⟨Nat.le_refl _, Below.refl _ w5, k15, k16⟩
  have HK := hid (fun (W W' : World) (h : EncS w w5 e.fr e.dn W) (hb : Below w5.heap.size W W') => h.on hqw hb)
  clear hS0
  go_region_held3 (fun W => w5.heap.size ≤ W.heap.size ∧ Below w5.heap.size w5 W ∧ W.cell? ⟨w.heap.size, 15, none⟩ = some (.bool e.fr) ∧ W.cell? ⟨w.heap.size, 16, none⟩ = some (.bool e.dn)) (first | exact HS0.out | assumption | exact HK.out _ _ (by assumption) ((Below.refl _ _).alloc (show EncS w w5 e.fr e.dn _ by assumption).1 _)) (first | (go_at_call 39; refine (cBit _ _).mono ?_; rintro x w' ⟨rfl, rfl⟩) | (go_at_call 37; refine (putN0 (w := (w5.alloc (.cells #[.int .i64 (markI e.fr), .int .i64 (markI e.dn)] 3)).drew) (SlN.drewL (SlN.lit2 rfl)) (by simp) (marks_two e.fr e.dn)).mono ?_; rintro x w6 ⟨r6, rfl, ho, hB0⟩; have hB : Below w5.heap.size w5 w6 := (belowDrew ((Below.refl _ w5).alloc (Nat.le_refl _) _)).trans (hB0.mono (by simp)); have hS6 : EncS w w5 e.fr e.dn w6 := HS1.out.on hqw hB))
  clear HK HS0 HS1 hS6 k15 k16
  have GX : Hid (Ob w6 w.heap.size 30 e) := hid (heapB HX.out hB (Array.getElem?_eq_some_iff.1 HX.out).1)
  have GW := hid (HW.out.trans (hB.mono HW.out.size))
  have G2 := hid (S2.out.on hB)
  have G3 := hid (S3.out.on hB)
  have G4 := hid (S4.out.on hB)
  have G5 := hid (S5.out.on hB)
  clear HX HW  S2 S3 S4 S5
  have HX := GX; clear GX
  have HW := GW; clear GW
  have S2 := G2; clear G2
  have S3 := G3; clear G3
  have S4 := G4; clear G4
  have S5 := G5; clear G5
  have S6 := hid ho.slb
  obtain ⟨g6, c6, n6, rfl, hn⟩ := ho.asSlice
  clear ho hn hB hB0
  have k17 : w6.cell? ⟨w.heap.size, 17, none⟩ = some (.int .i64 e.vt) := HX.out.cell (j := 17) rfl
  have k18 : w6.cell? ⟨w.heap.size, 18, none⟩ = some (.slice e.vp.a e.vp.n e.vp.c) := HX.out.cell (j := 18) rfl
  go_wp2_with fail
  go_at_call 38
  refine (putV0 (HV.out.on HW.out) HL.out.2.2 HE.out.v).mono ?_
  rintro x w7 ⟨r7, rfl, ho, hB0⟩
  have hB := hB0
  have GX : Hid (Ob w7 w.heap.size 30 e) := hid (heapB HX.out hB (Array.getElem?_eq_some_iff.1 HX.out).1)
  have GW := hid (HW.out.trans (hB.mono HW.out.size))
  have G2 := hid (S2.out.on hB)
  have G3 := hid (S3.out.on hB)
  have G4 := hid (S4.out.on hB)
  have G5 := hid (S5.out.on hB)
  have G6 := hid (S6.out.on hB)
  clear HX HW k17 k18 S2 S3 S4 S5 S6
  have HX := GX; clear GX
  have HW := GW; clear GW
  have S2 := G2; clear G2
  have S3 := G3; clear G3
  have S4 := G4; clear G4
  have S5 := G5; clear G5
  have S6 := G6; clear G6
  have S7 := hid ho.slb
  obtain ⟨g7, c7, n7, rfl, hn⟩ := ho.asSlice
  clear ho hn hB hB0
  have k0 : w7.cell? ⟨w.heap.size, 0, none⟩ = some (.int .i64 e.c.i) := HX.out.cell (j := 0) rfl
  have k1 : w7.cell? ⟨w.heap.size, 1, none⟩ = some (.int .i64 e.c.k) := HX.out.cell (j := 1) rfl
  have k2 : w7.cell? ⟨w.heap.size, 2, none⟩ = some (.int .i64 e.c.s) := HX.out.cell (j := 2) rfl
  have k3 : w7.cell? ⟨w.heap.size, 3, none⟩ = some (.int .i64 e.c.t) := HX.out.cell (j := 3) rfl
  have k4 : w7.cell? ⟨w.heap.size, 4, none⟩ = some (.int .i64 e.c.d) := HX.out.cell (j := 4) rfl
  have k5 : w7.cell? ⟨w.heap.size, 5, none⟩ = some (.int .i64 e.c.p) := HX.out.cell (j := 5) rfl
  have k6 : w7.cell? ⟨w.heap.size, 6, none⟩ = some (.int .i64 e.c.q) := HX.out.cell (j := 6) rfl
  go_wp2_with fail
  go_at_call 41
  refine (cCmdBytes HE.out.c).mono ?_
  rintro x w8 ⟨r8, rfl, hs8, hB⟩
  have GX : Hid (Ob w8 w.heap.size 30 e) := hid (heapB HX.out hB (Array.getElem?_eq_some_iff.1 HX.out).1)
  have GW := hid (HW.out.trans (hB.mono HW.out.size))
  have G2 := hid (S2.out.on hB)
  have G3 := hid (S3.out.on hB)
  have G4 := hid (S4.out.on hB)
  have G5 := hid (S5.out.on hB)
  have G6 := hid (S6.out.on hB)
  have G7 := hid (S7.out.on hB)
  clear HX HW k0 k1 k2 k3 k4 k5 k6 S2 S3 S4 S5 S6 S7
  have HX := GX; clear GX
  have HW := GW; clear GW
  have S2 := G2; clear G2
  have S3 := G3; clear G3
  have S4 := G4; clear G4
  have S5 := G5; clear G5
  have S6 := G6; clear G6
  have S7 := G7; clear G7
  have S8 := hid hs8
  obtain ⟨g8, c8, n8, rfl⟩ := hs8.sv3
  clear hs8 hB
  go_wp2_with fail
  go_at_call 40
  have hal := (Below.refl w8.heap.size w8).alloc (Nat.le_refl _) (.cells #[.slice g8 n8 c8, .slice g2 n2 c2, .slice g3 n3 c3, .slice g4 n4 c4, .slice g5 n5 c5, .slice g6 n6 c6, .slice g7 n7 c7] 42)
  have hRow : RowsB (w8.alloc (.cells #[.slice g8 n8 c8, .slice g2 n2 c2, .slice g3 n3 c3, .slice g4 n4 c4, .slice g5 n5 c5, .slice g6 n6 c6, .slice g7 n7 c7] 42)) w8.heap.size 0 [(⟨g8, n8, c8⟩, cmdsB [e.c]), (⟨g2, n2, c2⟩, putAll [e.pr, e.lo, e.hi]), (⟨g3, n3, c3⟩, valueBytes e.ft f), (⟨g4, n4, c4⟩, putAll [e.ab]), (⟨g5, n5, c5⟩, valueBytes e.xt a), (⟨g6, n6, c6⟩, putAll [markI e.fr, markI e.dn]), (⟨g7, n7, c7⟩, valueBytes e.vt v)] := rows_seven (heap_alloc_new w8 _) (S8.out.on hal) (S2.out.on hal) (S3.out.on hal) (S4.out.on hal) (S5.out.on hal) (S6.out.on hal) (S7.out.on hal)
  have hcat : catB ([(⟨g8, n8, c8⟩, cmdsB [e.c]), (⟨g2, n2, c2⟩, putAll [e.pr, e.lo, e.hi]), (⟨g3, n3, c3⟩, valueBytes e.ft f), (⟨g4, n4, c4⟩, putAll [e.ab]), (⟨g5, n5, c5⟩, valueBytes e.xt a), (⟨g6, n6, c6⟩, putAll [markI e.fr, markI e.dn]), (⟨g7, n7, c7⟩, valueBytes e.vt v)] : List (Sv × List UInt8)) = entB e f a v := by unfold catB entB; simp
  have hlen := ent_len HE.out HL.out.1 HL.out.2.1 HL.out.2.2
  have hlens : lensB ([(⟨g8, n8, c8⟩, cmdsB [e.c]), (⟨g2, n2, c2⟩, putAll [e.pr, e.lo, e.hi]), (⟨g3, n3, c3⟩, valueBytes e.ft f), (⟨g4, n4, c4⟩, putAll [e.ab]), (⟨g5, n5, c5⟩, valueBytes e.xt a), (⟨g6, n6, c6⟩, putAll [markI e.fr, markI e.dn]), (⟨g7, n7, c7⟩, valueBytes e.vt v)] : List (Sv × List UInt8)) = (entB e f a v).length := by rw [← cat_len, hcat]
  refine (cConcat (cap := 7) hRow (by simp) (by rw [hlens]; exact hlen.1) (by rw [hlens]; exact hlen.2) (by simp)).mono ?_
  rintro x w9 ⟨r9, rfl, ho, hB9⟩
  rw [hcat] at ho
  have hBx := HW.out.trans (hal.mono HW.out.size)
  have HO := hid (own_monoB ho hBx.size)
  have HB := hid (hBx.trans (hB9.mono hBx.size))
  obtain ⟨g9, c9, n9, rfl, hn9⟩ := ho.asSlice
  clear ho hn9 hB9 hRow hal hBx hlens hlen hcat
  go_wp2_with fail
  go_ret2
  exact ⟨_, rfl, HO.out, HB.out⟩
end Go.Proofs.Ytmndjdaiailgmaa

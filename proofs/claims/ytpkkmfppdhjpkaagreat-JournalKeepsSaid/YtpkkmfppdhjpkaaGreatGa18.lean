import Derived.Test.YtpkkmfppdhjpkaaGreatGa07
import Derived.WalkMore
import Derived.Lib.SliceRun
import Derived.ScopeJumps
import Derived.Test.YtpkkmfppdhjpkaaGreatGa12
import Derived.Test.YtpkkmfppdhjpkaaGreatGa17
/- The program's reader: Read, Rest, Err, fine, fail; the library's Clone of bytes. -/
namespace Go.Proofs.YtpkkmfppdhjpkaaGreat
set_option linter.unusedVariables false
open Go.RowKit
open Go.Lib (hid)

theorem SlB.src {w : World} {v : Value} {l : List UInt8} (h : SlB w v l) :
    (v = .slice none 0 0 ∧ l = []) ∨ ∃ ad cap, v = .slice (Option.some ad) l.length cap ∧ (∀ (j : Nat) u, (octs l)[j]? = Option.some u → w.cell? (ad.add j) = Option.some u) ∧ (0 < l.length → ad.block < w.heap.size) := by
  obtain ⟨b, o, cap, a, rfl, hn, hcap, ha, hc, hl⟩ := h
  rcases a with _ | ad
  · have h0 : l.length = 0 := by have := hn rfl; omega
    exact .inl ⟨by rw [hn rfl, h0], List.length_eq_zero_iff.1 h0⟩
  · refine .inr ⟨ad, cap, rfl, fun j u hu => ?_, fun h0 => by obtain rfl := Option.some.inj (ha h0); exact hl h0⟩
    simp only [octs, List.getElem?_map, Option.map_eq_some_iff] at hu
    obtain ⟨x, hx, rfl⟩ := hu
    have h0 : 0 < l.length := by have := (List.getElem?_eq_some_iff.1 hx).1; omega
    obtain rfl := Option.some.inj (ha h0)
    rw [show (⟨b, o, none⟩ : Addr).add j = ⟨b, o + j, none⟩ from by unfold Addr.add; split <;> simp_all]
    exact hc j x hx
theorem OwnB.slb {w : World} {B : Nat} {v : Value} {l : List UInt8} (h : OwnB w B v l) : SlB w v l := by
  have hl := h.lt
  rcases h.2 with ⟨rfl, h0⟩ | ⟨g, cap, cur, rfl, hb, hg, hn, hm, hs, ht⟩
  · obtain rfl := List.length_eq_zero_iff.1 h0
    exact SlB.nil w
  · refine ⟨g, 0, cap, _, rfl, fun h => by simp at h, hn, fun _ => rfl, fun j x hx => ?_, fun _ => (hl g rfl).2⟩
    have hj := (List.getElem?_eq_some_iff.1 hx).1
    rw [Nat.zero_add, h.cellAt j (by omega)]
    simp [octs, hx]
theorem OwnB.made (w : World) : OwnB (w.alloc (.cells #[] 5)) w.heap.size (.slice (Option.some ⟨w.heap.size, 0, none⟩) 0 0) [] :=
  World.ownsRow_made w #[] 0 (Nat.le_refl _) (by unfold maxLen; omega) rfl

set_option maxHeartbeats 600000 in
set_option maxRecDepth 100000 in
theorem cClone {v : Value} {l : List UInt8} {w : World} (h : SlB w v l) (hl : l.length ≤ 1000000) : Calls Tryz.prog 43 #[v] w fun e w' => ∃ r, e = .returned r ∧ OwnB w' w.heap.size r l ∧ Below w.heap.size w w' := by
  obtain ⟨i0, hi, hz0, hz1, hz2⟩ := info_parts Tryz.infoB
  have hq : ∀ (w : World) (a : Option Addr) (n c n' c' : Nat), (binOp .eql 63 (.slice a n c) (.slice none n' c')).run Tryz.prog w = .ok (.bool a.isNone) w := fun w a n c n' c' => Lib.run_eql_slice_nil w _ _ a n c n' c' Tryz.underlying63
  rcases h.src with ⟨rfl, rfl⟩ | ⟨ad, cap, rfl, hc, hb⟩
  · go_enter Tryz.func43, Tryz.ntmps43
    go_wp2
    go_ret
    exact ⟨_, rfl, OwnB.nil _ _, Below.refl _ _⟩
  · have hown := OwnB.made w
    have hnew : ∀ (j : Nat) u, (octs l)[j]? = Option.some u → (w.alloc (.cells #[] 5)).cell? (ad.add j) = Option.some u := fun j u hu => by
      have h1 := hc j u hu
      have h2 := World.block_lt_of_cell? w _ h1
      exact Lib.cell?_alloc_some _ h1
    have HN := hid hnew
    clear hnew hc
    go_enter Tryz.func43, Tryz.ntmps43
    go_wp2_with (at_builtin; refine wpList_append_own _ rfl _ _ 63 rfl w.heap.size 5 i0 _ 1 1 Tryz.underlying63 hi hz0 hz1 hz2 rfl (by decide) _ _ _ rfl hown ad l.length cap (octs l) rfl ?c0 ?c1 ?c2 ?c3 ?c4 ?c5 ?_)
    case c0 => rw [octs_len, Nat.mul_one]
    case c1 => exact HN.out
    case c2 => exact octs_one _
    case c3 => unfold maxLen; simp only [List.length_nil]; omega
    case c4 => simp only [List.length_nil]; omega
    case c5 => simp
    intro v' w1 hown' hgrow _
    have R := OwnB.grows (a := []) ((Below.refl _ w).alloc (Nat.le_refl _) _) (by simp) (fun k hk => by cases hk; exact Nat.le_refl _) hown' (by simp) hgrow
    rw [List.nil_append] at R
    have HR := hid R
    clear hown' hgrow hown R
    go_wp2
    go_ret
    exact ⟨_, rfl, HR.out.1, HR.out.2⟩

abbrev ptr (p : Nat) : Value := .pointer (some ⟨p, 0, none⟩)

set_option maxHeartbeats 600000 in
set_option maxRecDepth 100000 in
theorem cRead {v : Value} {l : List UInt8} {w : World} (h : SlB w v l) (hl : l.length ≤ 1000000) : Calls Tryz.prog 44 #[v] w fun e w' => ∃ p, e = .returned (ptr p) ∧ w.heap.size ≤ p ∧ p < w'.heap.size ∧ Rd 115 (fun k => w.heap.size ≤ k ∧ k < p) w' p (l, 0) ∧ Below w.heap.size w w' := by
  have hC := cClone h hl
  clear h
  go_enter Tryz.func44, Tryz.ntmps44
  go_wp2_with (go_at_call 43; refine hC.mono ?_; rintro e w1 ⟨r, rfl, hown, hB⟩; obtain ⟨g, cap, _, rfl, rfl⟩ := hown.asSlice; have HO := hid (And.intro hown hB); clear hown hB)
  go_ret
  have hs := HO.out.2.size
  refine ⟨w1.heap.size, rfl, hs, by simp, ⟨_, ?_, ?_, fun k hk => HO.out.1.lt k hk, fun hh => absurd hh.2 (by omega)⟩, HO.out.2.alloc hs _⟩
  · exact heap_alloc_new w1 _
  · exact HO.out.1.slb.on ((Below.refl _ w1).alloc (Nat.le_refl _) _)

set_option maxHeartbeats 600000 in
set_option maxRecDepth 100000 in
theorem cRest {F : Nat → Prop} {p : Nat} {s : St} {w : World} (h : Rd 115 F w p s) (hl : s.1.length ≤ 1000000) : Calls Tryz.prog 48 #[ptr p] w fun e w' => ∃ r, e = .returned r ∧ OwnB w' w.heap.size r s.1 ∧ Below w.heap.size w w' := by
  obtain ⟨v, _, hlt, c0, c1, f0, f1, hs, _⟩ := h.cells
  have hC := cClone hs hl
  clear hs h
  go_enter Tryz.func48, Tryz.ntmps48
  go_wp2_with (go_at_call 43; refine hC.mono ?_; rintro e w1 ⟨r, rfl, hown, hB⟩; have HO := hid (And.intro hown hB); clear hown hB)
  go_ret
  exact ⟨r, rfl, HO.out.1, HO.out.2⟩
set_option maxRecDepth 100000 in
theorem cRest0 (w : World) : Calls Tryz.prog 48 #[.pointer none] w fun e w' => e = .returned (.slice none 0 0) ∧ w = w' := by
  go_enter Tryz.func48, Tryz.ntmps48
  go_wp2
  go_ret
  exact ⟨rfl, rfl⟩

set_option maxRecDepth 100000 in
theorem cErr {F : Nat → Prop} {p : Nat} {s : St} {w : World} (h : Rd 115 F w p s) : Calls Tryz.prog 46 #[ptr p] w fun e w' => e = .returned (.int .i64 s.2) ∧ w = w' := by
  obtain ⟨v, _, hlt, c0, c1, f0, f1, hs, _⟩ := h.cells
  clear hs h
  go_enter Tryz.func46, Tryz.ntmps46
  go_wp2
  go_ret
  exact ⟨rfl, rfl⟩
set_option maxRecDepth 100000 in
theorem cErr0 (w : World) : Calls Tryz.prog 46 #[.pointer none] w fun e w' => e = .returned (.int .i64 1) ∧ w = w' := by
  go_enter Tryz.func46, Tryz.ntmps46
  go_wp2
  go_ret
  exact ⟨rfl, rfl⟩

set_option maxHeartbeats 600000 in
set_option maxRecDepth 100000 in
theorem cFail {F : Nat → Prop} {p : Nat} {s : St} {w : World} (h : Rd 115 F w p s) (e : Int) : Calls Tryz.prog 66 #[ptr p, .int .i64 e] w fun x w' => x = .returned (.tuple #[]) ∧ Rd 115 F w' p ([], e) ∧ w.grownBy w' (some p) := by
  have hf := h.out
  obtain ⟨v, hp, hlt, c0, c1, f0, f1, hs, _⟩ := h.cells
  have HP := hid hp
  clear hp hs h
  go_enter Tryz.func66, Tryz.ntmps66
  go_wp2
  go_end0
  exact ⟨rfl, ⟨_, set0 (set1 HP.out), SlB.nil _, (fun k hk => by simp [Value.ownBlock] at hk), hf⟩, grownSet2' _ _ _ _⟩

set_option maxHeartbeats 600000 in
set_option maxRecDepth 100000 in
theorem cFine_bad {F : Nat → Prop} {p : Nat} {s : St} {w : World} (h : Rd 115 F w p s) (he : s.2 ≠ 0) (r : Bool) : Calls Tryz.prog 86 #[ptr p, .bool r] w fun x w' => x = .returned (.bool false) ∧ w = w' := by
  have hE := cErr h
  clear h
  go_enter Tryz.func86, Tryz.ntmps86
  go_wp2_with (go_at_call 46; refine hE.mono ?_; rintro e w' ⟨rfl, rfl⟩)
  go_ret
  exact ⟨rfl, rfl⟩
set_option maxHeartbeats 600000 in
set_option maxRecDepth 100000 in
theorem cFine_ok {F : Nat → Prop} {p : Nat} {s : St} {w : World} (h : Rd 115 F w p s) (he : s.2 = 0) : Calls Tryz.prog 86 #[ptr p, .bool true] w fun x w' => x = .returned (.bool true) ∧ w = w' := by
  have hE := cErr h
  rw [he] at hE
  clear h
  go_enter Tryz.func86, Tryz.ntmps86
  go_wp2_with (go_at_call 46; refine hE.mono ?_; rintro e w' ⟨rfl, rfl⟩)
  go_ret
  exact ⟨rfl, rfl⟩
set_option maxHeartbeats 600000 in
set_option maxRecDepth 100000 in
theorem cFine_no {F : Nat → Prop} {p : Nat} {s : St} {w : World} (h : Rd 115 F w p s) (he : s.2 = 0) : Calls Tryz.prog 86 #[ptr p, .bool false] w fun x w' => x = .returned (.bool false) ∧ Rd 115 F w' p ([], 2) ∧ w.grownBy w' (some p) := by
  have hE := cErr h
  rw [he] at hE
  have hF := cFail h 2
  clear h
  go_enter Tryz.func86, Tryz.ntmps86
  go_wp2_with (first | (go_at_call 46; refine hE.mono ?_; rintro e w' ⟨rfl, rfl⟩) | (go_at_call 66; refine hF.mono ?_; rintro e w' ⟨rfl, hR, hg⟩))
  go_ret
  exact ⟨rfl, hR, hg⟩
set_option maxRecDepth 100000 in
theorem cFine0 (r : Bool) (w : World) : Calls Tryz.prog 86 #[.pointer none, .bool r] w fun x w' => x = .returned (.bool false) ∧ w = w' := by
  go_enter Tryz.func86, Tryz.ntmps86
  go_wp2_with (go_at_call 46; refine (cErr0 _).mono ?_; rintro e w' ⟨rfl, rfl⟩)
  go_ret
  exact ⟨rfl, rfl⟩
set_option maxRecDepth 100000 in
theorem cNum0 (w : World) : Calls Tryz.prog 45 #[.pointer none] w fun x w' => x = .returned (.int .i64 0) ∧ w = w' := by
  go_enter Tryz.func45, Tryz.ntmps45
  go_wp2
  go_step3
  go_wp2_with (go_at_call 46; refine (cErr0 _).mono ?_; rintro e w' ⟨rfl, rfl⟩)
  rw [Exit.noGoto_ret]
  go_ret
  exact ⟨rfl, rfl⟩
end Go.Proofs.YtpkkmfppdhjpkaaGreat
/- An entry's bytes: small parts: a mark as a number, a command's bytes. -/


namespace Go.Proofs.YtpkkmfppdhjpkaaGreat
set_option linter.unusedVariables false
open Go.RowKit
open Go.Lib (hid)

def markI (b : Bool) : Int := if b = true then 1 else 0
theorem cBit (b : Bool) (w : World) : Calls Tryz.prog 72 #[.bool b] w fun x w' => x = .returned (.int .i64 (markI b)) ∧ w = w' := by
  cases b
  all_goals (
    go_enter Tryz.func72, Tryz.ntmps72
    go_wp2
    go_ret
    exact ⟨rfl, rfl⟩)
theorem cmd_pos (c : C7) : 1 ≤ (cmdsB [c]).length := by
  have h : (cmdsB [c]) = c.bytes := by unfold cmdsB; simp
  have h1 : 0 < (oneN c.i.toNat).length := List.length_pos_iff.2 (oneN_ne _)
  rw [h]; unfold C7.bytes; simp only [List.length_append]; omega
/-- What stands behind the first byte. -/
theorem SlB.tail {w : World} {g cap n : Nat} {x : UInt8} {l : List UInt8} (h : SlB w (.slice (some ⟨g, 0, none⟩) n cap) (x :: l)) (hl : 1 ≤ l.length) : SlB w (.slice (some ⟨g, 1, none⟩) (n - 1) (cap - 1)) l := by
  obtain ⟨b, o, cap2, a2, hv, hn, hc, ha, hcl, hlt⟩ := h
  injection hv with h1 h2 h3
  have h4 := ha (by simp)
  rw [← h1] at h4
  have h5 := Option.some.inj h4
  injection h5 with h6 h7 h8
  subst h6 h7
  simp only [List.length_cons] at h2 hc
  refine ⟨g, 1, cap - 1, _, by rw [h2]; simp, fun e => (by cases e), by omega, fun _ => rfl, fun j y hy => ?_, fun _ => hlt (by simp)⟩
  have := hcl (j + 1) y (by simpa using hy)
  rwa [show 0 + (j + 1) = 1 + j by omega] at this
theorem put_one {c : C7} (hc : c.ok = true) : putCE [c] = 0 ∧ putCB [c] = 1 :: cmdsB [c] := by
  have h : ([c].all C7.ok = true ∧ [c].length ≤ 1024) := by simp [hc]
  refine ⟨if_pos h, (if_pos h).trans ?_⟩
  show oneN 1 ++ cmdsB [c] = _
  rw [oneN_small (by omega)]; rfl

set_option maxHeartbeats 1600000 in
set_option maxRecDepth 100000 in
theorem cCmdBytes {c : C7} {w : World} (hc : c.ok = true) : Calls Tryz.prog 73 #[.agg #[.int .i64 c.i, .int .i64 c.k, .int .i64 c.s, .int .i64 c.t, .int .i64 c.d, .int .i64 c.p, .int .i64 c.q]] w fun x w' => ∃ r, x = .returned r ∧ SlB w' r (cmdsB [c]) ∧ Below w.heap.size w w' := by
  have hO := fun (W : World) (u : Value) (hu : Sl W u [c]) => cPutCmds hu (by simp)
  rw [(put_one hc).1, (put_one hc).2] at hO
  have HO := hid hO
  clear hO hc
  have HC : Hid ((w.alloc (.cells #[.int .i64 c.i, .int .i64 c.k, .int .i64 c.s, .int .i64 c.t, .int .i64 c.d, .int .i64 c.p, .int .i64 c.q] 39)).heap[w.heap.size]? = some ((.cells #[.int .i64 c.i, .int .i64 c.k, .int .i64 c.s, .int .i64 c.t, .int .i64 c.d, .int .i64 c.p, .int .i64 c.q] 39))) := hid (laid1_0 w (.cells #[.int .i64 c.i, .int .i64 c.k, .int .i64 c.s, .int .i64 c.t, .int .i64 c.d, .int .i64 c.p, .int .i64 c.q] 39))
  have HW : Hid (Below w.heap.size w (w.alloc (.cells #[.int .i64 c.i, .int .i64 c.k, .int .i64 c.s, .int .i64 c.t, .int .i64 c.d, .int .i64 c.p, .int .i64 c.q] 39))) := hid (laid1_b w (.cells #[.int .i64 c.i, .int .i64 c.k, .int .i64 c.s, .int .i64 c.t, .int .i64 c.d, .int .i64 c.p, .int .i64 c.q] 39))
  have tok : Hid (0 = 0) := hid rfl
  go_enter Tryz.func73, Tryz.ntmps73
  go_wp2_with (first
    | (clear tok; (with_reducible refine opaqueW (w.alloc (.cells #[.int .i64 c.i, .int .i64 c.k, .int .i64 c.s, .int .i64 c.t, .int .i64 c.d, .int .i64 c.p, .int .i64 c.q] 39)) ?_); intro W0 hW; rw [← hW] at HC HW; clear hW; have kC0 : W0.cell? ⟨w.heap.size, 0, none⟩ = some (.int .i64 c.i) := (cellAt' HC.out 0).trans rfl; have kC1 : W0.cell? ⟨w.heap.size, 1, none⟩ = some (.int .i64 c.k) := (cellAt' HC.out 1).trans rfl; have kC2 : W0.cell? ⟨w.heap.size, 2, none⟩ = some (.int .i64 c.s) := (cellAt' HC.out 2).trans rfl; have kC3 : W0.cell? ⟨w.heap.size, 3, none⟩ = some (.int .i64 c.t) := (cellAt' HC.out 3).trans rfl; have kC4 : W0.cell? ⟨w.heap.size, 4, none⟩ = some (.int .i64 c.d) := (cellAt' HC.out 4).trans rfl; have kC5 : W0.cell? ⟨w.heap.size, 5, none⟩ = some (.int .i64 c.p) := (cellAt' HC.out 5).trans rfl; have kC6 : W0.cell? ⟨w.heap.size, 6, none⟩ = some (.int .i64 c.q) := (cellAt' HC.out 6).trans rfl)
    | fail)
  go_at_call 94
  refine (HO.out _ _ (Sl.madeC (c := c) rfl)).mono ?_
  rintro x w1 ⟨r, rfl, ho, hB⟩
  obtain ⟨g, cap, rfl⟩ := ho.some (by simp)
  have HS := hid ho.slb
  have HW1 := hid ((HW.out.alloc HW.out.size _).trans (hB.mono (by have := HW.out.size; simp; omega)))
  have hcap : (1 :: cmdsB [c]).length ≤ cap := by
    obtain ⟨_, _, cap2, a2, hv, _, h2, _⟩ := ho.slb
    injection hv with _ _ h3
    omega
  clear ho hB HC HW kC0 kC1 kC2 kC3 kC4 kC5 kC6
  obtain ⟨n, hn⟩ : ∃ n, n = (1 :: cmdsB [c]).length := ⟨_, rfl⟩
  rw [← hn] at hcap
  rw [← hn]
  have hn1 : 1 ≤ n := by rw [hn]; simp
  have hn2 : ¬ cap = 1 := by have := cmd_pos c; rw [List.length_cons] at hn; omega
  rw [← hn] at HS
  clear hn
  go_wp2
  go_ret
  exact ⟨_, rfl, HS.out.tail (cmd_pos c), HW1.out⟩
end Go.Proofs.YtpkkmfppdhjpkaaGreat

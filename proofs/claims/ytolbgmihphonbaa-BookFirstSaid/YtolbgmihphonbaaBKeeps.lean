/- The walk of the law BookKeeps. -/
import Derived.Test.YtolbgmihphonbaaBAlive
namespace Go.Proofs.Ytolbgmihphonbaa
set_option linter.unusedVariables false
open Go.RowKit
open Go.Lib (hid)

/-- Acts that came in. -/
def SlA (w : World) (v : Value) (xs : List Ak) : Prop :=
  ∃ (b o cap : Nat) (a : Option Addr), v = .slice a xs.length cap ∧ xs.length ≤ cap ∧ (0 < xs.length → a = some ⟨b, o, none⟩) ∧
    (∀ (j : Nat) x, xs[j]? = some x → w.cell? ⟨b, o + j * 5, none⟩ = some (.int .u8 x.k) ∧ w.cell? ⟨b, o + j * 5 + 1, none⟩ = some (.int .i64 x.i) ∧ w.cell? ⟨b, o + j * 5 + 2, none⟩ = some (.int .i64 x.s) ∧ w.cell? ⟨b, o + j * 5 + 3, none⟩ = some (.int .i64 x.p) ∧ w.cell? ⟨b, o + j * 5 + 4, none⟩ = some (.int .i64 x.q) ∧ x.k < 256) ∧
    (0 < xs.length → b < w.heap.size)
theorem SlA.shape {w : World} {v : Value} {xs : List Ak} (h : SlA w v xs) : ∃ a n cap, v = .slice a n cap ∧ n = xs.length ∧ ∀ (j : Nat) x, xs[j]? = some x → ∃ b o, a = some ⟨b, o, none⟩ ∧ b < w.heap.size ∧ w.cell? ⟨b, o + j * 5, none⟩ = some (.int .u8 x.k) ∧ w.cell? ⟨b, o + j * 5 + 1, none⟩ = some (.int .i64 x.i) ∧ w.cell? ⟨b, o + j * 5 + 2, none⟩ = some (.int .i64 x.s) ∧ w.cell? ⟨b, o + j * 5 + 3, none⟩ = some (.int .i64 x.p) ∧ w.cell? ⟨b, o + j * 5 + 4, none⟩ = some (.int .i64 x.q) ∧ x.k < 256 := by
  obtain ⟨b, o, cap, a, rfl, _, ha, hc, hb⟩ := h
  refine ⟨a, _, cap, rfl, rfl, fun j x hx => ?_⟩
  have h0 : 0 < xs.length := by have := (List.getElem?_eq_some_iff.1 hx).1; omega
  exact ⟨b, o, ha h0, hb h0, hc j x hx⟩
/-- A book that may be, made since. -/
def Fb (w : World) (B p : Nat) (bs ss : List Od) : Prop := FineB bs ss ∧ ∃ va vb, BkA w B p va vb bs ss
theorem Fb.on {w w' : World} {B p : Nat} {bs ss : List Od} (h : Fb w B p bs ss) (hb : Below w.heap.size w w') : Fb w' B p bs ss := by
  obtain ⟨h1, va, vb, h2⟩ := h
  exact ⟨h1, va, vb, h2.on hb⟩
theorem sums {bs ss : List Od} (h : FineB bs ss) : 0 ≤ sumO bs + sumO ss ∧ sumO bs + sumO ss ≤ 8388608 := by
  have h1 := sum_bound h.fb; have h2 := sum_bound h.fs; have h3 := h.len; omega

theorem take_sumF {fs : List Fl} (h : ∀ f ∈ fs, 1 ≤ f.q) (k : Nat) : 0 ≤ sumF (fs.take k) ∧ sumF (fs.take k) ≤ sumF fs := by
  have h1 : ∀ l : List Fl, (∀ f ∈ l, 1 ≤ f.q) → 0 ≤ sumF l := fun l => by
    induction l with
    | nil => intro _; simp [sumF]
    | cons f l ih => intro h; rw [sumF_cons]; have := ih fun g hg => h g (by simp [hg]); have := h f (by simp); omega
  have h2 : sumF fs = sumF (fs.take k) + sumF (fs.drop k) := by rw [← sumF_append, List.take_append_drop]
  have h3 := h1 (fs.take k) fun f hf => h f (List.mem_of_mem_take hf)
  have h4 := h1 (fs.drop k) fun f hf => h f (List.mem_of_mem_drop hf)
  omega
theorem fills_pos {bs ss : List Od} (hF : FineB bs ss) {o : Od} {fs : List Fl} {left : Int} (hn : 0 ≤ o.n) (h : (o.s = 0 ∧ (fs, left) = fillG 0 o.p o.n ss) ∨ (o.s = 1 ∧ (fs, left) = fillG 1 o.p o.n bs)) : ∀ f ∈ fs, 1 ≤ f.q := by
  rcases h with ⟨_, h⟩ | ⟨_, h⟩
  · have := (fillG_left (s := 0) (p := o.p) ss o.n hn fun x hx => by have := hF.fs x hx; unfold okO at this; omega).2.2.2
    rw [← h] at this; exact this
  · have := (fillG_left (s := 1) (p := o.p) bs o.n hn fun x hx => by have := hF.fb x hx; unfold okO at this; omega).2.2.2
    rw [← h] at this; exact this
theorem step_ways {bs ss : List Od} (hF : FineB bs ss) {a : Ak} {err : Int} {fs : List Fl} {left : Int} {bs' ss' : List Od} (h : StepR bs ss a err fs left bs' ss') :
    NoR bs ss err fs left bs' ss' ∨
    (a.k % 6 < 4 ∧ err = 0 ∧ sumO bs' + sumO ss' = sumO bs + sumO ss + a.q - 2 * sumF fs ∧ 0 ≤ sumF fs ∧ sumF fs ≤ 1048576 ∧ 1 ≤ a.q ∧ a.q ≤ 1048576 ∧ fs.length ≤ 8 ∧ ∀ k, 0 ≤ sumF (fs.take k) ∧ sumF (fs.take k) ≤ 8388608) ∨
    (a.k % 6 = 4 ∧ err = 0 ∧ fs = [] ∧ wOk bs ss a.i = true ∧ sumO bs' + sumO ss' = sumO bs + sumO ss - left ∧ 0 ≤ left ∧ left ≤ 1048576) ∨
    (a.k % 6 = 5 ∧ err = 0 ∧ fs = [] ∧ wOk bs ss a.i = true ∧ left = a.q ∧ sumO bs' + sumO ss' = sumO bs + sumO ss + a.q - (fO bs ss a.i).n ∧ 1 ≤ a.q ∧ a.q ≤ 1048576 ∧ 1 ≤ (fO bs ss a.i).n ∧ (fO bs ss a.i).n ≤ 1048576) := by
  rcases h with ⟨hk, _, h | ⟨h1, h2, h3, h4, h5, h6, h7, h8⟩⟩ | ⟨hk, _, h | ⟨h1, h2, h3, h4, h5, h6⟩⟩ | ⟨hk, _, h | ⟨h1, h2, h3, h4, h5, h6, h7, h8, h9⟩⟩
  · exact .inl h
  · have hm := (may_iff.1 h7)
    simp only at hm h2 h3
    have hp := fills_pos (o := ⟨a.i, a.s, a.p, a.q⟩) hF (show (0 : Int) ≤ a.q by omega) h8
    refine .inr (.inl ⟨hk, h1, h2, h5, by omega, by omega, by omega, h6, fun k => ?_⟩)
    have := take_sumF hp k
    omega
  · exact .inl h
  · exact .inr (.inr (.inl ⟨hk, h1, h2, h3, h4, h5, h6⟩))
  · exact .inl h
  · exact .inr (.inr (.inr ⟨hk, h1, h2, h3, h4, h5, h6, h7, h8, h9⟩))

set_option maxHeartbeats 6400000 in
set_option maxRecDepth 100000 in
theorem wKeeps {w : World} {v : Value} {xs : List Ak} (h : SlA w v xs) : Calls Try.prog 3 #[v] w fun e w' => e = .returned (.bool true) ∧ Below w.heap.size w w' := by
  obtain ⟨a, n, cap, rfl, hn, hx⟩ := h.shape
  have HN := hid hn
  have HX := hid hx
  clear h hn hx
  by_cases h80 : 80 < n
  · go_enter Try.func3, Try.ntmps3
    go_wp2_with fail
    go_at_call 5
    refine (cAlive _).mono ?_
    rintro e w1 ⟨rfl, hB1⟩
    go_wp2_with fail
    go_ret
    exact ⟨rfl, hB1⟩
  · go_enter Try.func3, Try.ntmps3
    go_wp2_with fail
    go_at_call 6
    refine (cNew w).mono ?_
    rintro e w1 ⟨rfl, hK1, hB1⟩
    obtain ⟨B, hBe⟩ : ∃ B, B = w.heap.size := ⟨_, rfl⟩
    rw [← hBe] at hK1 hB1 ⊢
    have HI1 := hid (show Fb w1 B B [] [] ∧ Below B w w1 from ⟨⟨FineB.nil, _, _, hK1⟩, hB1⟩)
    have HE := hid hBe
    clear hK1 hB1 hBe
    go_wp2_with fail
    go_loopg [4, 5, 6, 7, 8, 9, 10, 11] n (fun gg s4 s5 s6 s7 s8 s9 s10 s11 wr => ∃ (j : Nat) (bs ss : List Od), j ≤ n ∧ n - j ≤ gg ∧ s4 = .int .i64 j ∧ Hid (Fb wr B B bs ss ∧ Below B w wr))
    case atStart => exact ⟨0, [], [], Nat.zero_le _, by omega, rfl, HI1⟩
    case round =>
      obtain ⟨j, bs, ss, hj, hgg, rfl, HI⟩ := hrel
      clear HI1
      by_cases hlt : j < n
      · have hltz : (j : Int) < (n : Int) := by omega
        obtain ⟨x, hx⟩ : ∃ x, xs[j]? = some x := ⟨xs[j]'(by rw [← HN.out]; exact hlt), List.getElem?_eq_getElem (by rw [← HN.out]; exact hlt)⟩
        obtain ⟨b, o, rfl, hb, k0, k1, k2, k3, k4, hk8⟩ := HX.out j x hx
        have hFb := HI.out.1
        obtain ⟨hF, va, vb, hK⟩ := hFb
        have HF := hid hF
        have HK := hid hK
        have HC := hid (And.intro k0 (And.intro k1 (And.intro k2 (And.intro k3 (And.intro k4 hk8)))))
        have HBb : Hid (b < B) := hid (by rw [HE.out]; exact hb)
        have hbw := HI.out.2
        have d0 := (hbw.cell (p := ⟨b, o + j * 5, none⟩) HBb.out).trans k0
        have d1 := (hbw.cell (p := ⟨b, o + j * 5 + 1, none⟩) HBb.out).trans k1
        have HS := hid (sums hF)
        obtain ⟨S, hS⟩ : ∃ S, S = sumO bs + sumO ss := ⟨_, rfl⟩
        have HSe := hid hS
        clear hx k0 k1 k2 k3 k4 hF hK hbw hS hb
        -- what rests
        go_wp2_with fail
        go_at_call 7
        refine (cLeft HK.out HF.out).mono ?_
        rintro e w1' ⟨rfl, hB1⟩
        rw [← HSe.out]
        have HB1 := hid hB1
        have HW1 : Hid (Below B w w1') := hid (HI.out.2.trans (hB1.mono (by have := HI.out.2.size; have := HE.out; omega)))
        have d1' := (HW1.out.cell (p := ⟨b, o + j * 5 + 1, none⟩) HBb.out).trans HC.out.2.1
        clear hB1 d0 d1
        go_wp2_with fail
        go_at_call 8
        refine (cFind (HK.out.on HB1.out) HF.out.lens x.i).mono ?_
        rintro e w2 ⟨rfl, hB2⟩
        have HB2 := hid (HB1.out.trans (hB2.mono HB1.out.size))
        have HW2 : Hid (Below B w w2) := hid (HW1.out.trans (hB2.mono (by have := HW1.out.size; have := HE.out; omega)))
        obtain ⟨old, hold⟩ : ∃ old, old = fO bs ss x.i := ⟨_, rfl⟩
        obtain ⟨found, hfd⟩ : ∃ found, found = wOk bs ss x.i := ⟨_, rfl⟩
        rw [← hold, ← hfd]
        have HO := hid (And.intro hold hfd)
        have g0 := (HW2.out.cell (p := ⟨b, o + j * 5, none⟩) HBb.out).trans HC.out.1
        have g1 := (HW2.out.cell (p := ⟨b, o + j * 5 + 1, none⟩) HBb.out).trans HC.out.2.1
        have g2 := (HW2.out.cell (p := ⟨b, o + j * 5 + 2, none⟩) HBb.out).trans HC.out.2.2.1
        have g3 := (HW2.out.cell (p := ⟨b, o + j * 5 + 3, none⟩) HBb.out).trans HC.out.2.2.2.1
        have g4 := (HW2.out.cell (p := ⟨b, o + j * 5 + 4, none⟩) HBb.out).trans HC.out.2.2.2.2.1
        have hb2 : b < w2.heap.size := by have := HW2.out.size; have := HBb.out; have := HE.out; omega
        clear hB2 hold hfd d1'
        go_wp2_with fail
        have hal : Below w2.heap.size w2 (w2.alloc (.cells #[.int .i64 old.i, .int .i64 old.s, .int .i64 old.p, .int .i64 old.n] 29)) := (Below.refl _ w2).alloc (Nat.le_refl _) _
        have HK3 := hid ((HK.out.on HB2.out).on hal)
        have hBs : B ≤ (w2.alloc (.cells #[.int .i64 old.i, .int .i64 old.s, .int .i64 old.p, .int .i64 old.n] 29)).heap.size := by have := HW2.out.size; have := HE.out; simp; omega
        go_at_call 9
        refine (cStep HK3.out HF.out hBs x HC.out.2.2.2.2.2).mono ?_
        rintro e w4 ⟨err, fs, left, bs', ss', ⟨f, rfl, hOF, hT⟩, hR⟩
        obtain ⟨af, capf, nf, rfl, hnf⟩ := hOF.asSlice
        have HBS := hid hBs
        have HF' := hid hR.fine
        have HW4 : Hid (Below B w w4) := hid (((HW2.out.trans (hal.mono (by have := HW2.out.size; have := HE.out; omega)))).trans (hT.below HK3.out hBs))
        have hq4 : w4.heap[w2.heap.size]? = some (.cells #[.int .i64 old.i, .int .i64 old.s, .int .i64 old.p, .int .i64 old.n] 29 (0, 0)) := (hT.box (HK.out.on HB2.out) (Nat.le_refl _) (by simp)).trans (heap_alloc_new w2 _)
        obtain ⟨va', vb', hK'⟩ := hT.ex
        have HK' := hid hK'
        have hal4 : Below w4.heap.size w4 (w4.alloc (.cells #[.int .i64 err, .slice af nf capf, .int .i64 left] 37)) := (Below.refl _ w4).alloc (Nat.le_refl _) _
        have HAL4 := hid hal4
        have HOF := hid hOF
        have HR := hid hR
        have HQ4 := hid hq4
        have HNF := hid hnf
        obtain ⟨S', hS'⟩ : ∃ S', S' = sumO bs' + sumO ss' := ⟨_, rfl⟩
        have HSe' := hid hS'
        have HS' := hid (sums HF'.out)
        clear hal hBs hOF hT hR hK' hal4 hq4 hnf hS' g0 g1 g2 g3 g4 hb2
        go_wp2_with fail
        go_at_call 7
        refine (cLeft (HK'.out.on HAL4.out) HF'.out).mono ?_
        rintro e w6 ⟨rfl, hB6⟩
        rw [← HSe'.out]
        have hb46 : Below w4.heap.size w4 w6 := HAL4.out.trans (hB6.mono (by simp))
        have HB46 := hid hb46
        have HW6 : Hid (Below B w w6) := hid (HW4.out.trans (hb46.mono (by have := HW4.out.size; have := HE.out; omega)))
        have hq8 := obOn (heap_alloc_new w4 (.cells #[.int .i64 err, .slice af nf capf, .int .i64 left] 37)) (hB6.mono (B' := w4.heap.size + 1) (by simp)) (by omega)
        have y0 := cellAt' hq8 0; have y1 := cellAt' hq8 1; have y2 := cellAt' hq8 2
        have hq6 := obOn HQ4.out hb46 (Array.getElem?_eq_some_iff.1 HQ4.out).1
        have u3 := cellAt' hq6 3
        simp at y0 y1 y2 u3
        have zy := (Array.getElem?_eq_some_iff.1 hq8).1
        have zu := (Array.getElem?_eq_some_iff.1 hq6).1
        have g0 := (HW6.out.cell (p := ⟨b, o + j * 5, none⟩) HBb.out).trans HC.out.1
        have g4 := (HW6.out.cell (p := ⟨b, o + j * 5 + 4, none⟩) HBb.out).trans HC.out.2.2.2.2.1
        have hb6 : b < w6.heap.size := by have := HW6.out.size; have := HBb.out; have := HE.out; omega
        have hS1 := HS.out
        have hS2 := HS'.out
        rw [← HSe.out] at hS1
        rw [← HSe'.out] at hS2
        have HK6 := hid (HK'.out.on hb46)
        have HOF6 := hid (HOF.out.on hb46)
        have hk8 := HC.out.2.2.2.2.2
        clear hB6 hb46 hq8 hq6
        -- the ways
        have HCR : Hid (∀ W, Below w6.heap.size w6 W → Calls Try.prog 11 #[ptr B] W fun e w' => e = .returned (.bool false) ∧ Below W.heap.size W w') := hid fun W hW => cCrossed (HK6.out.on hW) HF'.out
        have HO0 : Hid (∀ W, Below w6.heap.size w6 W → Calls Try.prog 12 #[ptr B, .int .i64 0] W fun e w' => ∃ r, e = .returned r ∧ OwnO w' W.heap.size r bs' ∧ Below W.heap.size W w') := hid fun W hW => cOrders0 (HK6.out.on hW) HF'.out.lens
        have HO1 : Hid (∀ W, Below w6.heap.size w6 W → Calls Try.prog 12 #[ptr B, .int .i64 1] W fun e w' => ∃ r, e = .returned r ∧ OwnO w' W.heap.size r ss' ∧ Below W.heap.size W w') := hid fun W hW => cOrders1 (HK6.out.on hW) HF'.out.lens
        have h6 := Nat.mod_lt x.k (show 0 < 6 by decide)
        obtain ⟨m, hm⟩ : ∃ m, m = (x.k : Int).tmod 6 := ⟨_, rfl⟩
        have hm2 : m = ((x.k % 6 : Nat) : Int) := by rw [hm, Int.tmod_eq_emod_of_nonneg (by omega)]; omega
        have hm1 : (x.k : Int).tmod 6 = m := hm.symm
        clear hm
        rcases step_ways HF.out HR.out with ⟨q1, q2, q3, q4, q5⟩ | ⟨q1, q2, q3, q4, q5, q6, q7, q8, q9⟩ | ⟨q1, q2, q3, q4, q5, q6, q7⟩ | ⟨q1, q2, q3, q4, q5, q6, q7, q8, q9, q10⟩
        · -- an error
          have hSS : S' = S := by rw [HSe'.out, HSe.out, q4, q5]
          have hnf0 : nf = 0 := by have := HNF.out; rw [q2] at this; simpa using this
          subst q3 hSS hnf0
          have hm4 : m < 6 := by omega
          have hm0 : 0 ≤ m := by omega
          have Q := hid (And.intro q2 (And.intro q4 q5))
          clear q2 q4 q5 hm2 h6 hk8
          go_wp2_with fail
          all_goals (
            go_at_call 11
            refine (HCR.out _ (Below.refl w6.heap.size w6)).mono ?_
            rintro e w8 ⟨rfl, hB8⟩
            have HB8 := hid (((Below.refl w6.heap.size w6)).trans (hB8.mono ((Below.refl w6.heap.size w6)).size))
            clear hB8
            go_wp2_with fail
            go_at_call 12
            refine (HO0.out _ HB8.out).mono ?_
            rintro e w9 ⟨v9, rfl, hO9, hB9⟩
            obtain ⟨a9, c9, n9, rfl, hn9⟩ := hO9.asSlice
            have HB9 := hid (HB8.out.trans (hB9.mono HB8.out.size))
            have hl9 : n9 ≤ 8 := by have := HF'.out.len; omega
            have HN9 := hid hn9
            clear hO9 hB9 hn9
            go_wp2_with fail
            go_at_call 12
            refine (HO1.out _ HB9.out).mono ?_
            rintro e w10 ⟨v10, rfl, hO10, hB10⟩
            obtain ⟨a10, c10, n10, rfl, hn10⟩ := hO10.asSlice
            have HB10 := hid (HB9.out.trans (hB10.mono HB9.out.size))
            have hl10 : n9 + n10 ≤ 8 := by have := HF'.out.len; have := HN9.out; omega
            clear hO10 hB10 hn10
            have hl11 : ¬ (8 : Int) < (n9 : Int) + (n10 : Int) := by omega
            go_wp2_with fail
            go_roundg (n - (j + 1))
            case measure => omega
            case rel => exact ⟨j + 1, bs', ss', by omega, by omega, by go_num, hid ⟨(show Fb w6 B B bs' ss' from ⟨HF'.out, _, _, HK6.out⟩).on HB10.out, HW6.out.trans (HB10.out.mono (by have := HW6.out.size; have := HE.out; omega))⟩⟩)
        · -- one was placed
          subst q2
          obtain ⟨F, hF⟩ : ∃ F, F = sumF fs := ⟨_, rfl⟩
          rw [← hF] at q3 q4 q5
          rw [← HSe.out, ← HSe'.out] at q3
          have HFl := hid (fun (W : World) (hW : Below w6.heap.size w6 W) => cFilled (HOF6.out.on hW) q8 q9 0 left)
          rw [← hF] at HFl
          have hm4 : m < 4 := by omega
          have hm0 : 0 ≤ m := by omega
          have hd : S' - S = x.q - 2 * F := by omega
          have HD := hid hd
          have Q := hid (And.intro q8 q9)
          clear q3 q8 q9 hF hm2 h6 hk8 hd q1
          go_wp2_with fail
          have hwm : IntKind.i64.wrap (2 * F) = 2 * F := by rw [IntKind.wrap_i64]; omega
          have hws : IntKind.i64.wrap (x.q - 2 * F) = x.q - 2 * F := by rw [IntKind.wrap_i64]; omega
          go_region_law (first
            | (go_simp; go_at_call 10; (
                refine (HFl.out _ (Below.refl _ w6).drew).mono ?_
                rintro e w7 ⟨rfl, hB7⟩
                have hb7 : Below w6.heap.size w6 w7 := (Below.refl _ w6).drew.trans hB7
                have v0 := (hb7.cell (p := ⟨w4.heap.size, 0, none⟩) zy).trans y0
                have v1 := (hb7.cell (p := ⟨w4.heap.size, 1, none⟩) zy).trans y1
                have v2 := (hb7.cell (p := ⟨w4.heap.size, 2, none⟩) zy).trans y2
                have r0 := (hb7.cell (p := ⟨b, o + j * 5, none⟩) hb6).trans g0
                have r4 := (hb7.cell (p := ⟨b, o + j * 5 + 4, none⟩) hb6).trans g4
                have HB7 := hid hb7
                clear hB7 hb7)))
          all_goals (
            have hd := HD.out
            go_wp2_with fail)
          all_goals (
            go_at_call 11
            refine (HCR.out _ HB7.out).mono ?_
            rintro e w8 ⟨rfl, hB8⟩
            have HB8 := hid ((HB7.out).trans (hB8.mono (HB7.out).size))
            clear hB8
            go_wp2_with fail
            go_at_call 12
            refine (HO0.out _ HB8.out).mono ?_
            rintro e w9 ⟨v9, rfl, hO9, hB9⟩
            obtain ⟨a9, c9, n9, rfl, hn9⟩ := hO9.asSlice
            have HB9 := hid (HB8.out.trans (hB9.mono HB8.out.size))
            have hl9 : n9 ≤ 8 := by have := HF'.out.len; omega
            have HN9 := hid hn9
            clear hO9 hB9 hn9
            go_wp2_with fail
            go_at_call 12
            refine (HO1.out _ HB9.out).mono ?_
            rintro e w10 ⟨v10, rfl, hO10, hB10⟩
            obtain ⟨a10, c10, n10, rfl, hn10⟩ := hO10.asSlice
            have HB10 := hid (HB9.out.trans (hB10.mono HB9.out.size))
            have hl10 : n9 + n10 ≤ 8 := by have := HF'.out.len; have := HN9.out; omega
            clear hO10 hB10 hn10
            have hl11 : ¬ (8 : Int) < (n9 : Int) + (n10 : Int) := by omega
            go_wp2_with fail
            go_roundg (n - (j + 1))
            case measure => omega
            case rel => exact ⟨j + 1, bs', ss', by omega, by omega, by go_num, hid ⟨(show Fb w6 B B bs' ss' from ⟨HF'.out, _, _, HK6.out⟩).on HB10.out, HW6.out.trans (HB10.out.mono (by have := HW6.out.size; have := HE.out; omega))⟩⟩)
        · -- one was taken away
          subst q2 q3
          have hnf0 : nf = 0 := by have := HNF.out; simpa using this
          subst hnf0
          rw [← HSe.out, ← HSe'.out] at q5
          have hfd : found = true := by rw [HO.out.2]; exact q4
          subst hfd
          obtain rfl : m = 4 := by omega
          have hd : S' - S = -left := by omega
          clear q1 q4 q5 hm2 h6 hk8
          go_wp2_with fail
          all_goals (
            go_at_call 11
            refine (HCR.out _ (Below.refl w6.heap.size w6)).mono ?_
            rintro e w8 ⟨rfl, hB8⟩
            have HB8 := hid (((Below.refl w6.heap.size w6)).trans (hB8.mono ((Below.refl w6.heap.size w6)).size))
            clear hB8
            go_wp2_with fail
            go_at_call 12
            refine (HO0.out _ HB8.out).mono ?_
            rintro e w9 ⟨v9, rfl, hO9, hB9⟩
            obtain ⟨a9, c9, n9, rfl, hn9⟩ := hO9.asSlice
            have HB9 := hid (HB8.out.trans (hB9.mono HB8.out.size))
            have hl9 : n9 ≤ 8 := by have := HF'.out.len; omega
            have HN9 := hid hn9
            clear hO9 hB9 hn9
            go_wp2_with fail
            go_at_call 12
            refine (HO1.out _ HB9.out).mono ?_
            rintro e w10 ⟨v10, rfl, hO10, hB10⟩
            obtain ⟨a10, c10, n10, rfl, hn10⟩ := hO10.asSlice
            have HB10 := hid (HB9.out.trans (hB10.mono HB9.out.size))
            have hl10 : n9 + n10 ≤ 8 := by have := HF'.out.len; have := HN9.out; omega
            clear hO10 hB10 hn10
            have hl11 : ¬ (8 : Int) < (n9 : Int) + (n10 : Int) := by omega
            go_wp2_with fail
            go_roundg (n - (j + 1))
            case measure => omega
            case rel => exact ⟨j + 1, bs', ss', by omega, by omega, by go_num, hid ⟨(show Fb w6 B B bs' ss' from ⟨HF'.out, _, _, HK6.out⟩).on HB10.out, HW6.out.trans (HB10.out.mono (by have := HW6.out.size; have := HE.out; omega))⟩⟩)
        · -- one was amended
          subst q2 q3
          have hnf0 : nf = 0 := by have := HNF.out; simpa using this
          subst hnf0
          rw [← HSe.out, ← HSe'.out] at q6
          have hfd : found = true := by rw [HO.out.2]; exact q4
          subst hfd
          rw [← HO.out.1] at q6 q9 q10
          obtain rfl : m = 5 := by omega
          have hd : S' - S = x.q - old.n := by omega
          have HD := hid hd
          have hws : IntKind.i64.wrap (x.q - old.n) = x.q - old.n := by rw [IntKind.wrap_i64]; omega
          clear q1 q4 q6 hm2 h6 hk8 hd
          go_wp2_with fail
          go_quiet (fail)
          have hd := HD.out
          go_wp2_with fail
          all_goals (
            go_at_call 11
            refine (HCR.out _ (belowDrewN (Below.refl w6.heap.size w6) _)).mono ?_
            rintro e w8 ⟨rfl, hB8⟩
            have HB8 := hid (((belowDrewN (Below.refl w6.heap.size w6) _)).trans (hB8.mono ((belowDrewN (Below.refl w6.heap.size w6) _)).size))
            clear hB8
            go_wp2_with fail
            go_at_call 12
            refine (HO0.out _ HB8.out).mono ?_
            rintro e w9 ⟨v9, rfl, hO9, hB9⟩
            obtain ⟨a9, c9, n9, rfl, hn9⟩ := hO9.asSlice
            have HB9 := hid (HB8.out.trans (hB9.mono HB8.out.size))
            have hl9 : n9 ≤ 8 := by have := HF'.out.len; omega
            have HN9 := hid hn9
            clear hO9 hB9 hn9
            go_wp2_with fail
            go_at_call 12
            refine (HO1.out _ HB9.out).mono ?_
            rintro e w10 ⟨v10, rfl, hO10, hB10⟩
            obtain ⟨a10, c10, n10, rfl, hn10⟩ := hO10.asSlice
            have HB10 := hid (HB9.out.trans (hB10.mono HB9.out.size))
            have hl10 : n9 + n10 ≤ 8 := by have := HF'.out.len; have := HN9.out; omega
            clear hO10 hB10 hn10
            have hl11 : ¬ (8 : Int) < (n9 : Int) + (n10 : Int) := by omega
            go_wp2_with fail
            go_roundg (n - (j + 1))
            case measure => omega
            case rel => exact ⟨j + 1, bs', ss', by omega, by omega, by go_num, hid ⟨(show Fb w6 B B bs' ss' from ⟨HF'.out, _, _, HK6.out⟩).on HB10.out, HW6.out.trans (HB10.out.mono (by have := HW6.out.size; have := HE.out; omega))⟩⟩)
      · have hltz : ¬ (j : Int) < (n : Int) := by omega
        go_wp2_with fail
        go_at_call 5
        refine (cAlive _).mono ?_
        rintro e w2 ⟨rfl, hB2⟩
        have HB2 := hid hB2
        clear hB2
        go_wp2_with fail
        go_ret
        exact ⟨rfl, by have h := HI.out.2.trans (HB2.out.mono (by have := HI.out.2.size; have := HE.out; omega)); rw [HE.out] at h; exact h⟩
end Go.Proofs.Ytolbgmihphonbaa

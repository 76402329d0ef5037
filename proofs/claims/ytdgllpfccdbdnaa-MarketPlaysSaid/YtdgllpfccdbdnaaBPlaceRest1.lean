/- The program's book: Place, one of its ways. -/
import Derived.Test.YtdgllpfccdbdnaaBPlace
namespace Go.Proofs.Ytdgllpfccdbdnaa
set_option linter.unusedVariables false
open Go.RowKit
open Go.Lib (hid)

set_option maxHeartbeats 6400000 in
set_option maxRecDepth 100000 in
theorem cPlace_rest1 {w : World} {B p : Nat} {va vb : Value} {bs ss : List Od} (h : BkA w B p va vb bs ss) (hl : bs.length ≤ 1000 ∧ ss.length ≤ 1000) (hB : B ≤ w.heap.size) (i pr m : Int) (he : refE bs ss ⟨i, 1, pr, m⟩ = 0) (hm0 : 0 ≤ m) (hm1 : m ≤ 1048576) (hx : ∀ x ∈ bs, 1 ≤ x.n ∧ x.n ≤ 1048576) (fr : List Fl × Int) (hfr : fr = fillG 1 pr m bs) (hleft : 0 < fr.2) (hroom : (bs.length : Int) + (ss.length : Int) - (fr.1.length : Int) < 8) :
    Calls Try.prog 33 #[ptr p, .agg #[.int .i64 i, .int .i64 1, .int .i64 pr, .int .i64 m]] w fun e w' => Told w w' B p va vb e 0 fr.1 fr.2 (withoutG bs fr.1) (insG ss (ss.findIdx (isW ⟨i, 1, pr, fr.2⟩)) ⟨i, 1, pr, fr.2⟩) := by
  have hf := fillG_left (s := 1) (p := pr) bs m hm0 fun x hxm => (hx x hxm).1
  rw [← hfr] at hf
  have hfq := fitsQ_fill (s := 1) (p := pr) bs m hm0 hx
  rw [← hfr] at hfq
  have HR := hid (fun (W : World) (hW : Below w.heap.size w W) => cRefuses (h.on hW) hl ⟨i, 1, pr, m⟩)
  rw [he] at HR
  have HH := hid h
  have HFi : Hid (∀ W, Below w.heap.size w W → Calls Try.prog 52 #[.agg #[.int .i64 i, .int .i64 1, .int .i64 pr, .int .i64 m], va] W fun e w' => FillTo W w' e fr.1 fr.2) := hid fun W hW => by
    have := cFill (h.ra.on hW) (by omega) ⟨i, 1, pr, m⟩ hm0 hm1 hx
    rw [← hfr] at this
    exact this
  have HMa := hid (fun (W : World) (hW : Below w.heap.size w W) => cMany (h.on hW) hl)
  have HWo : Hid (∀ W vf, Below w.heap.size w W → (∃ C, OwnF W C vf fr.1) → Calls Try.prog 54 #[va, vf] W fun e w' => ∃ v', e = .returned v' ∧ RowTo W w' B va v' (withoutG bs fr.1)) := hid fun W vf hW hf2 =>
    (cWithout (h.ra.on hW) (Nat.le_trans hB hW.size) (by omega) hf2 (by omega) hfq).mono fun e w' ⟨v', e1, e2, e3, e4⟩ => ⟨v', e1, e2, e3, fun j hj => .inl (e4 ▸ hj)⟩
  have hw0 : Below w.heap.size w ((w.alloc (.cells #[.int .i64 i, .int .i64 1, .int .i64 pr, .int .i64 m] 52 (0, 0))).alloc box3) := ((Below.refl _ w).alloc (Nat.le_refl _) _).alloc (by simp) _
  have HW0 := hid hw0
  obtain ⟨hpl, c0, c1, _, _⟩ := h.bk.cells
  obtain ⟨at_, capt, nt, et, hnt⟩ := h.ra.asSlice
  rw [et] at HFi HWo c0
  have HET := hid et
  obtain ⟨bl, hbl⟩ : ∃ bl, bl = bs.length := ⟨_, rfl⟩
  obtain ⟨sl, hsl⟩ : ∃ sl, sl = ss.length := ⟨_, rfl⟩
  rw [← hbl, ← hsl] at hl HMa
  obtain ⟨fl, hfl⟩ : ∃ fl, fl = fr.1.length := ⟨_, rfl⟩
  have hfl1 : fl ≤ 1000 := by omega
  obtain ⟨left, hlf⟩ : ∃ left, left = fr.2 := ⟨_, rfl⟩
  have HLF := hid hlf
  rw [← hbl, ← hsl, ← hfl] at hroom
  rw [← hlf] at HFi hleft
  have hwl := without_len bs fr.1
  have HRe : Hid (∀ W n, BkN w n W B p va vb (withoutG bs fr.1) ss → w.heap.size ≤ n → n ≤ W.heap.size → Calls Try.prog 55 #[ptr p, .agg #[.int .i64 i, .int .i64 1, .int .i64 pr, .int .i64 left]] W fun e w' => e = .returned (.tuple #[]) ∧ BkN w n w' B p va vb (withoutG bs fr.1) (insG ss (ss.findIdx (isW ⟨i, 1, pr, fr.2⟩)) ⟨i, 1, pr, fr.2⟩) ∧ (∀ k, w.heap.size ≤ k → k < n → w'.heap[k]? = W.heap[k]?) ∧ W.heap.size ≤ w'.heap.size) := hid fun W n hN hn hnW =>
    hN.then h hn hnW fun va' vb' h1 => by
      rw [← hlf]
      exact cRestS1 h1 ⟨by omega, by omega⟩ (by omega) i pr left
  have HFL := hid hfl
  have HPL := hid hpl
  clear h he hw0 hfr hfq hf hnt hbl hsl hfl hlf hx hB c1 hwl
  go_enter Try.func33, Try.ntmps33
  go_wp2_with (first
    | (go_at_call 50; refine (HR.out _ HW0.out).mono ?_; rintro e w1 ⟨rfl, hB1⟩; have hx := two_boxes (hB1.mono (by simp)); have HX1 := hid hx; have hk := box4_at hx.1; obtain ⟨⟨k0, k1, k2, k3⟩, fz, hz⟩ := hk; have d0 := (hx.2.2.1.cell (p := ⟨p, 0, none⟩) hpl).trans c0; clear hB1 hx)
    | (go_at_call 51; refine (cOther 1 (.inr rfl) _).mono ?_; rintro e w1' ⟨rfl, rfl⟩; rw [show (1 : Int) - 1 = 0 from rfl]))
  go_region_law (first
    | (go_simp; go_at_call 52; (
        refine (HFi.out _ HX1.out.2.2.1.drew).mono ?_
        rintro e w2 ⟨vf, rfl, hOF, hB2⟩
        obtain ⟨af, capf, nf, rfl, hnf⟩ := hOF.asSlice
        have hb2 : Below w1.heap.size w1 w2 := (Below.refl _ w1).drew.trans hB2
        have HB2 := hid hb2
        have HOF : Hid (OwnF w2 w1.heap.size (.slice af nf capf) fr.1) := hid hOF
        have HBW := hid (HX1.out.2.2.1.trans (hb2.mono HX1.out.2.2.1.size))
        have hnfl : nf = fl := by rw [hnf, ← HFL.out]
        subst hnfl
        have b4 := hb2.block (w.heap.size) (by omega) |>.trans HX1.out.1
        have b3 := hb2.block (w.heap.size + 1) (by have := HX1.out.2.2.2; omega) |>.trans HX1.out.2.1
        have HB4 := hid b4
        have HB3 := hid b3
        have j4 := box4_at b4
        obtain ⟨⟨q0, q1, q2, q3⟩, fz4, hz4⟩ := j4
        have d0 := (HBW.out.cell (p := ⟨p, 0, none⟩) HPL.out).trans c0
        clear hOF hB2 hb2 hnf b4 b3)))
  all_goals (
    go_wp2_with (go_at_call 53; refine (HMa.out _ HBW.out).mono ?_; rintro e w2' ⟨rfl, rfl⟩)
    go_region_law (first
      | (go_simp; go_at_call 54; (
          refine (HWo.out _ _ HBW.out.drew ⟨_, HOF.out⟩).mono ?_
          rintro e w4 ⟨v', rfl, hR⟩
          obtain ⟨a2, c2, n2, rfl, hn2⟩ := hR.1.asSlice
          have h2 : BkA w2.drew B p va vb bs ss := HH.out.on HBW.out.drew
          have hR2 : RowTo w2.drew w4 B va (.slice a2 n2 c2) (withoutG bs fr.1) := by rw [HET.out]; exact hR
          have hx := bk_put0 h2 (Below.refl _ _) hR2
          have hN := BkTo.n HBW.out.drew hx.2
          have HN : Hid (BkN w w2.heap.size (w4.setCell ⟨p, 0, none⟩ (.slice a2 n2 c2)) B p va vb (withoutG bs fr.1) ss) := hid hN
          have hkeep : ∀ k, w.heap.size ≤ k → k < w2.heap.size → (w4.setCell ⟨p, 0, none⟩ (.slice a2 n2 c2)).heap[k]? = w2.heap[k]? := fun k hk hk2 => hx.2.box HH.out hk hk2
          have HK := hid hkeep
          have hsz : w2.heap.size ≤ (w4.setCell ⟨p, 0, none⟩ (.slice a2 n2 c2)).heap.size := by have := hR.2.1.size; simpa using this
          obtain ⟨hpl2, e0, e1, f0, f1⟩ := hx.1.cells
          clear hx hR hR2 hN hn2 h2 hkeep)))
    all_goals (
      generalize hW5 : w4.setCell ⟨p, 0, none⟩ (.slice a2 n2 c2) = w5 at HN HK hsz ⊢
      clear hW5
      have g3 := (HK.out (w.heap.size + 1) (Nat.le_succ _) (by have := HX1.out.2.2.2; have := HB2.out.size; omega)).trans HB3.out
      have g4 := (HK.out w.heap.size (Nat.le_refl _) (by have := HX1.out.2.2.2; have := HB2.out.size; omega)).trans HB4.out
      have HOF5 : Hid (OwnF w5 w1.heap.size (.slice af nf capf) fr.1) := hid (own_kept HOF.out fun k hk => HK.out k (by have := (HOF.out.lt k hk).1; have := HX1.out.2.2.1.size; omega) (HOF.out.lt k hk).2)
      have HG3 := hid g3
      have j3 := box3_at' g3
      have j4' := box4_at g4
      obtain ⟨⟨r0, r1, r2⟩, fz3, hz3⟩ := j3
      obtain ⟨⟨q0', q1', q2', q3'⟩, fz4', hz4'⟩ := j4'
      have hw1s := HX1.out.2.2.2
      have hw2s := HB2.out.size
      clear g3 g4
      go_wp2_with (go_at_call 55; (
          have hN6 := HN.out.set HH.out (Nat.le_refl _) (by omega) 3 (.int .i64 left)
          have HOF6 : Hid (OwnF (w5.setCell ⟨w.heap.size, 3, none⟩ (.int .i64 left)) w1.heap.size (.slice af nf capf) fr.1) := hid (HOF5.out.tch (S := fun k => k = w.heap.size) (Tch.set _ _ _ rfl) fun k hk e => by have := (HOF5.out.lt k hk).1; omega)
          have g6 : (w5.setCell ⟨w.heap.size, 3, none⟩ (.int .i64 left)).heap[w.heap.size + 1]? = some box3 := (Tch.set (S := fun k => k = w.heap.size) w5 ⟨w.heap.size, 3, none⟩ (.int .i64 left) rfl).ob HG3.out (by omega)
          refine (HRe.out _ _ hN6 (by omega) (by simpa using hsz)).mono ?_
          rintro e w7 ⟨rfl, hN7, hk7, hs7⟩
          have HOF7 : Hid (OwnF w7 w1.heap.size (.slice af nf capf) fr.1) := hid (own_kept HOF6.out fun k hk => hk7 k (by have := (HOF6.out.lt k hk).1; omega) (HOF.out.lt k hk).2)
          have j7 := box3_at' ((hk7 _ (Nat.le_succ _) (by omega)).trans g6)
          obtain ⟨⟨y0, y1, y2⟩, fz7, hz7⟩ := j7
          have HN7 := hid hN7
          clear hN6 g6 hN7 hk7 hs7))
      refine bodyPost_ret (v := rpV 0 (.slice af nf capf) left) (by simp [results, Try.results33, go_sem, y0, y1, y2]) rfl ⟨.slice af nf capf, by rw [HLF.out], ?_, ?_⟩
      · have hb : ∀ k, (Value.slice af nf capf).ownBlock = some k → k ≠ w.heap.size + 1 := fun k hk e => by have := (HOF7.out.lt k hk).1; omega
        exact OwnG.mono (((HOF7.out.tch (S := fun k => k = w.heap.size + 1) (Tch.set _ _ _ rfl) hb).tch (S := fun k => k = w.heap.size + 1) (Tch.set _ _ _ rfl) hb).tch (S := fun k => k = w.heap.size + 1) (Tch.set _ _ _ rfl) hb) (by omega)
      · exact BkN.to (((HN7.out.set HH.out (Nat.le_succ _) (by omega) _ _).set HH.out (Nat.le_succ _) (by omega) _ _).set HH.out (Nat.le_succ _) (by omega) _ _) (by omega)))
end Go.Proofs.Ytdgllpfccdbdnaa

/- The program's book: Place, one of its ways. -/
import Derived.Test.YtdgllpfccdbdnaaBPlace
namespace Go.Proofs.Ytdgllpfccdbdnaa
set_option linter.unusedVariables false
open Go.RowKit
open Go.Lib (hid)

set_option maxHeartbeats 6400000 in
set_option maxRecDepth 100000 in
theorem cPlace_full1 {w : World} {B p : Nat} {va vb : Value} {bs ss : List Od} (h : BkA w B p va vb bs ss) (hl : bs.length ≤ 1000 ∧ ss.length ≤ 1000) (hB : B ≤ w.heap.size) (i pr m : Int) (he : refE bs ss ⟨i, 1, pr, m⟩ = 0) (hm0 : 0 ≤ m) (hm1 : m ≤ 1048576) (hx : ∀ x ∈ bs, 1 ≤ x.n ∧ x.n ≤ 1048576) (fr : List Fl × Int) (hfr : fr = fillG 1 pr m bs) (hleft : 0 < fr.2) (hroom : 8 ≤ (bs.length : Int) + (ss.length : Int) - (fr.1.length : Int)) :
    Calls Try.prog 33 #[ptr p, .agg #[.int .i64 i, .int .i64 1, .int .i64 pr, .int .i64 m]] w fun e w' => Told w w' B p va vb e 4 [] 0 bs ss := by
  have hf := fillG_left (s := 1) (p := pr) bs m hm0 fun x hxm => (hx x hxm).1
  rw [← hfr] at hf
  have hfq := fitsQ_fill (s := 1) (p := pr) bs m hm0 hx
  rw [← hfr] at hfq
  have HR := hid (fun (W : World) (hW : Below w.heap.size w W) => cRefuses (h.on hW) hl ⟨i, 1, pr, m⟩)
  rw [he] at HR
  have HH := hid h
  have HFi : Hid (∀ W, Below w.heap.size w W → Calls Try.prog 52 #[.agg #[.int .i64 i, .int .i64 1, .int .i64 pr, .int .i64 m], va] W fun e w' => FillTo W w' e fr.1 fr.2) := hid fun W hW => by
    have := cFill (h.ra.on hW) (by omega) ⟨i, 1, pr, m⟩ hm0 hm1 hx
    rw [← hfr] at this
    exact this
  have HMa := hid (fun (W : World) (hW : Below w.heap.size w W) => cMany (h.on hW) hl)
  have HWo : Hid (∀ W vf, Below w.heap.size w W → (∃ C, OwnF W C vf fr.1) → Calls Try.prog 54 #[va, vf] W fun e w' => ∃ v', e = .returned v' ∧ RowTo W w' B va v' (withoutG bs fr.1)) := hid fun W vf hW hf2 =>
    (cWithout (h.ra.on hW) (Nat.le_trans hB hW.size) (by omega) hf2 (by omega) hfq).mono fun e w' ⟨v', e1, e2, e3, e4⟩ => ⟨v', e1, e2, e3, fun j hj => .inl (e4 ▸ hj)⟩
  have hw0 : Below w.heap.size w ((w.alloc (.cells #[.int .i64 i, .int .i64 1, .int .i64 pr, .int .i64 m] 52 (0, 0))).alloc box3) := ((Below.refl _ w).alloc (Nat.le_refl _) _).alloc (by simp) _
  have HW0 := hid hw0
  obtain ⟨hpl, c0, c1, _, _⟩ := h.bk.cells
  obtain ⟨at_, capt, nt, et, hnt⟩ := h.ra.asSlice
  rw [et] at HFi HWo c0
  have HET := hid et
  obtain ⟨bl, hbl⟩ : ∃ bl, bl = bs.length := ⟨_, rfl⟩
  obtain ⟨sl, hsl⟩ : ∃ sl, sl = ss.length := ⟨_, rfl⟩
  rw [← hbl, ← hsl] at hl HMa
  obtain ⟨fl, hfl⟩ : ∃ fl, fl = fr.1.length := ⟨_, rfl⟩
  have hfl1 : fl ≤ 1000 := by omega
  obtain ⟨left, hlf⟩ : ∃ left, left = fr.2 := ⟨_, rfl⟩
  have HLF := hid hlf
  rw [← hbl, ← hsl, ← hfl] at hroom
  rw [← hlf] at HFi hleft
  have HFL := hid hfl
  have HPL := hid hpl
  clear h he hw0 hfr hfq hf hnt hbl hsl hfl hlf hx hB c1 
  go_enter Try.func33, Try.ntmps33
  go_wp2_with (first
    | (go_at_call 50; refine (HR.out _ HW0.out).mono ?_; rintro e w1 ⟨rfl, hB1⟩; have hx := two_boxes (hB1.mono (by simp)); have HX1 := hid hx; have hk := box4_at hx.1; obtain ⟨⟨k0, k1, k2, k3⟩, fz, hz⟩ := hk; have d0 := (hx.2.2.1.cell (p := ⟨p, 0, none⟩) hpl).trans c0; clear hB1 hx)
    | (go_at_call 51; refine (cOther 1 (.inr rfl) _).mono ?_; rintro e w1' ⟨rfl, rfl⟩; rw [show (1 : Int) - 1 = 0 from rfl]))
  go_region_law (first
    | (go_simp; go_at_call 52; (
        refine (HFi.out _ HX1.out.2.2.1.drew).mono ?_
        rintro e w2 ⟨vf, rfl, hOF, hB2⟩
        obtain ⟨af, capf, nf, rfl, hnf⟩ := hOF.asSlice
        have hb2 : Below w1.heap.size w1 w2 := (Below.refl _ w1).drew.trans hB2
        have HB2 := hid hb2
        have HOF : Hid (OwnF w2 w1.heap.size (.slice af nf capf) fr.1) := hid hOF
        have HBW := hid (HX1.out.2.2.1.trans (hb2.mono HX1.out.2.2.1.size))
        have hnfl : nf = fl := by rw [hnf, ← HFL.out]
        subst hnfl
        have b4 := hb2.block (w.heap.size) (by omega) |>.trans HX1.out.1
        have b3 := hb2.block (w.heap.size + 1) (by have := HX1.out.2.2.2; omega) |>.trans HX1.out.2.1
        have HB4 := hid b4
        have HB3 := hid b3
        have j4 := box4_at b4
        obtain ⟨⟨q0, q1, q2, q3⟩, fz4, hz4⟩ := j4
        have d0 := (HBW.out.cell (p := ⟨p, 0, none⟩) HPL.out).trans c0
        clear hOF hB2 hb2 hnf b4 b3)))
  all_goals (
    go_wp2_with (first
      | (go_at_call 53; refine (HMa.out _ HBW.out).mono ?_; rintro e w2' ⟨rfl, rfl⟩)
      | (go_at_call 49; refine (cFailed _ _).mono ?_; rintro e w3 ⟨rfl, hB3⟩; have hk := box3_at' ((hB3.block _ (by have := HX1.out.2.2.2; have := HB2.out.size; omega)).trans HB3.out); obtain ⟨⟨k0, k1, k2⟩, fz, hz⟩ := hk; have HB := hid (HBW.out.trans (hB3.mono HBW.out.size)); clear hB3))
    refine bodyPost_ret (v := rpV 4 (.slice none 0 0) 0) (by simp [results, Try.results33, go_sem, k0, k1, k2]) rfl ⟨_, rfl, World.ownsRow_nil _ _ _ _, ?_⟩
    exact (BkTo.refl HH.out).on (((HB.out.setCell (Nat.le_succ _) _).setCell (Nat.le_succ _) _).setCell (Nat.le_succ _) _))
end Go.Proofs.Ytdgllpfccdbdnaa

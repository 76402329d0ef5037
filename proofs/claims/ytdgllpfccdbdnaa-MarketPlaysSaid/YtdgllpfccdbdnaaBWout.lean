/- The program's book: what is left of orders that gave fills. -/
import Derived.Test.YtdgllpfccdbdnaaBFill
namespace Go.Proofs.Ytdgllpfccdbdnaa
set_option linter.unusedVariables false
open Go.RowKit
open Go.Lib (hid)

/-- There is always a first one to take from, of which so much is left. -/
def fitsQ : List Od → List Fl → Prop
  | _, [] => True
  | [], _ :: _ => False
  | x :: xs, f :: fs => (1 ≤ f.q ∧ f.q ≤ x.n ∧ x.n ≤ 1048576) ∧ if x.n - f.q = 0 then fitsQ xs fs else fitsQ ({ x with n := x.n - f.q } :: xs) fs
termination_by l fs => fs.length
theorem fitsQ_fill {s p : Int} : ∀ (l : List Od) (left : Int), 0 ≤ left → (∀ x ∈ l, 1 ≤ x.n ∧ x.n ≤ 1048576) → fitsQ l (fillG s p left l).1
  | [], left, h, _ => by simp [fillG, fitsQ]
  | x :: xs, left, h, hx => by
    have h1 := hx x (by simp)
    unfold fillG
    split
    · simp [fitsQ]
    · rename_i hc
      have hl : left ≠ 0 := fun e => hc (.inl e)
      simp only [fitsQ]
      refine ⟨⟨by omega, by omega, h1.2⟩, ?_⟩
      split
      · exact fitsQ_fill xs _ (by omega) fun y hy => hx y (by simp [hy])
      · have : left - min left x.n = 0 := by omega
        rw [this, fillG_zero]; simp [fitsQ]
theorem cDel0 {W : World} {B : Nat} {v : Value} {x : Od} {xs : List Od} (h : OwnO W B v (x :: xs)) (hl : xs.length ≤ 1000) :
    Calls Try.prog 61 #[v, .int .i64 0, .int .i64 1] W fun e w' => ∃ v', e = .returned v' ∧ OwnO w' B v' xs ∧ Tch (fun k => v.ownBlock = some k) W w' ∧ v'.ownBlock = v.ownBlock := by
  have h1 := cDelete h (by simp; omega) 0 (by simp)
  simpa using h1
theorem row_set0 {w : World} {B g n cap : Nat} {x : Od} {xs : List Od} (h : OwnO w B (.slice (some ⟨g, 0, none⟩) n cap) (x :: xs)) (hn : n = xs.length + 1) (q : Int) :
    OwnO (w.setCell ⟨g, 3, none⟩ (.int .i64 q)) B (.slice (some ⟨g, 0, none⟩) n cap) ({ x with n := q } :: xs) := by
  subst hn
  exact (row_set (n := 0) (k := 0) (l := x :: xs) h rfl q).1

set_option maxHeartbeats 6400000 in
set_option maxRecDepth 100000 in
theorem cWithout {w : World} {B : Nat} {va vf : Value} {l : List Od} {fs : List Fl} (h : OwnO w B va l) (hB : B ≤ w.heap.size) (hl : l.length ≤ 1000) (hf : ∃ C, OwnF w C vf fs) (hm : fs.length ≤ 1000) (hfit : fitsQ l fs) :
    Calls Try.prog 54 #[va, vf] w fun e w' => ∃ v', e = .returned v' ∧ OwnO w' B v' (withoutG l fs) ∧ Tch (fun k => va.ownBlock = some k) w w' ∧ v'.ownBlock = va.ownBlock := by
  obtain ⟨C, hf⟩ := hf
  have HO := hid h
  have HF := hid hf
  -- the row's block is no fills' block
  have hap : ∀ k, va.ownBlock = some k → vf.ownBlock ≠ some k := fun k h1 h2 => by
    rcases h.2 with ⟨rfl, _⟩ | ⟨g, cap, cur, rfl, _, hg, _⟩
    · cases h1
    · rcases hf.2 with ⟨rfl, _⟩ | ⟨g', cap', cur', rfl, _, hg', _⟩
      · cases h2
      · simp [Value.ownBlock] at h1 h2
        subst h1 h2
        rw [hg] at hg'
        injection hg' with h3
        injection h3 with h4 h5
        exact absurd h5 (by decide)
  have HAP := hid hap
  obtain ⟨a, cap, n, e1, hn⟩ := h.asSlice
  obtain ⟨af, capf, m, e2, hmf⟩ := hf.asSlice
  have hsh : ∀ k f, fs[k]? = some f → ∃ g, af = some ⟨g, 0, none⟩ ∧ g < w.heap.size ∧ w.cell? ⟨g, k * 3, none⟩ = some (.int .i64 f.i) ∧ w.cell? ⟨g, k * 3 + 1, none⟩ = some (.int .i64 f.p) ∧ w.cell? ⟨g, k * 3 + 2, none⟩ = some (.int .i64 f.q) := fun k x hk => by
    rcases hf.shape with ⟨_, rfl⟩ | ⟨g, cap', e, _, _, _, hg, hc, _⟩
    · simp at hk
    · rw [e2] at e
      injection e with e2 e3 e4
      exact ⟨g, e2, hg, hc k x hk⟩
  have HS := hid hsh
  have HMF := hid hmf
  have hm1 : m ≤ 1000 := by omega
  subst e1 e2
  obtain ⟨ob, hob⟩ : ∃ ob, ob = (Value.slice a n cap).ownBlock := ⟨_, rfl⟩
  have HOB := hid hob
  rw [← hob]
  obtain ⟨lr, hlr⟩ : ∃ lr, lr = withoutG l fs := ⟨_, rfl⟩
  rw [← hlr]
  have HLR := hid hlr
  have HFT := hid hfit
  have HL := hid hl
  have HBB := hid hB
  clear h hf hap hsh hmf hm hob hlr hfit hn hl hB
  go_enter Try.func54, Try.ntmps54
  go_wp2_with fail
  go_loopg [0, 6, 9] m (fun gg s0 s6 s9 wr => ∃ (k : Nat) (lk : List Od), k ≤ m ∧ m - k ≤ gg ∧ s9 = .int .i64 k ∧ Hid (OwnO wr B s0 lk ∧ Tch (fun j => ob = some j) w wr ∧ s0.ownBlock = ob ∧ fitsQ lk (fs.drop k) ∧ withoutG lk (fs.drop k) = lr ∧ lk.length ≤ 1000))
  case atStart => exact ⟨0, l, Nat.zero_le _, by omega, rfl, hid ⟨HO.out, Tch.refl _ _, HOB.out.symm, by rw [List.drop_zero]; exact HFT.out, by rw [List.drop_zero]; exact HLR.out.symm, HL.out⟩⟩
  case round =>
    obtain ⟨k, lk, hk, hgg, rfl, HI⟩ := hrel
    by_cases hlt : k < m
    · have hltz : (k : Int) < (m : Int) := by omega
      obtain ⟨f, hfk⟩ : ∃ f, fs[k]? = some f := ⟨fs[k]'(by rw [← HMF.out]; exact hlt), List.getElem?_eq_getElem (by rw [← HMF.out]; exact hlt)⟩
      obtain ⟨gf, ef, hgf, k0, k1, k2⟩ := HS.out k f hfk
      subst ef
      have hnb : ob ≠ some gf := fun e => HAP.out gf (by rw [← HOB.out]; exact e) rfl
      have d0 := (HI.out.2.1.cell (i := k * 3) hgf hnb).trans k0
      have d1 := (HI.out.2.1.cell (i := k * 3 + 1) hgf hnb).trans k1
      have d2 := (HI.out.2.1.cell (i := k * 3 + 2) hgf hnb).trans k2
      have hdr : fs.drop k = f :: fs.drop (k + 1) := by
        obtain ⟨h1, rfl⟩ := List.getElem?_eq_some_iff.1 hfk
        exact List.drop_eq_getElem_cons h1
      obtain ⟨x, xs, rfl⟩ : ∃ x xs, lk = x :: xs := by
        rcases lk with _ | ⟨x, xs⟩
        · have := HI.out.2.2.2.1
          rw [hdr] at this
          simp [fitsQ] at this
        · exact ⟨x, xs, rfl⟩
      have hft := HI.out.2.2.2.1
      rw [hdr] at hft
      simp only [fitsQ] at hft
      obtain ⟨⟨hq1, hq2, hq3⟩, hft⟩ := hft
      have hwo := HI.out.2.2.2.2.1
      rw [hdr] at hwo
      simp only [withoutG] at hwo
      rcases HI.out.1.shape with ⟨_, e⟩ | ⟨g, cap0, rfl, hn0, hm0, hB0, hg, hc, hfz⟩
      · cases e
      obtain ⟨o0, o1, o2, o3⟩ := hc 0 x rfl
      simp at o0 o1 o2 o3
      have f3 := hfz 3
      have hal : ∀ u : Value, Below (wr.setCell ⟨g, 3, none⟩ u).heap.size (wr.setCell ⟨g, 3, none⟩ u) ((wr.setCell ⟨g, 3, none⟩ u).alloc (.cells #[.int .i64 f.i, .int .i64 f.p, .int .i64 f.q] 55)).drew := fun u => ((Below.refl _ _).alloc (Nat.le_refl _) _).drew
      have HRS : Hid (OwnO ((wr.setCell ⟨g, 3, none⟩ (.int .i64 (x.n - f.q))).alloc (.cells #[.int .i64 f.i, .int .i64 f.p, .int .i64 f.q] 55)).drew B (.slice (some ⟨g, 0, none⟩) (xs.length + 1) cap0) ({ x with n := x.n - f.q } :: xs)) := hid ((row_set0 HI.out.1 rfl _).on (hal _))
      have HT : Hid (Tch (fun j => ob = some j) w ((wr.setCell ⟨g, 3, none⟩ (.int .i64 (x.n - f.q))).alloc (.cells #[.int .i64 f.i, .int .i64 f.p, .int .i64 f.q] 55)).drew) := hid ((HI.out.2.1.trans (Tch.set _ _ _ (by rw [← HI.out.2.2.1]; rfl))).trans (Tch.ofBelow (hal _)))
      have hxl : xs.length ≤ 1000 := by have := HI.out.2.2.2.2.2; simp at this; omega
      have HXL := hid hxl
      have HLN : Hid (({ x with n := x.n - f.q } :: xs).length ≤ 1000) := hid (by have := HI.out.2.2.2.2.2; simpa using this)
      obtain ⟨n0, hn00⟩ : ∃ n0, n0 = xs.length + 1 := ⟨_, rfl⟩
      have hgb : g < wr.heap.size := hg
      have hn01 : 0 < n0 := by omega
      have HOB2 := hid HI.out.2.2.1
      have hlen : (x :: xs).length = n0 := by simp [hn00]
      rw [hlen] at HI HOB2 ⊢
      rw [← hn00] at HRS
      clear hfk k0 k1 k2 hdr hc hfz hB0 hm0 hal hn00 hlen hn0 hnb hxl
      by_cases hz : x.n - f.q = 0
      · rw [if_pos hz] at hft hwo
        have HX := hid (And.intro hft hwo)
        rw [hz] at HRS HT
        clear hft hwo
        have hz2 : IntKind.i64.wrap (x.n - f.q) = 0 := by rw [IntKind.wrap_i64]; omega
        go_wp2_with fail
        go_region_law fail
        all_goals (
          go_wp2_with (go_at_call 61; refine (cDel0 HRS.out HXL.out).mono ?_; rintro e w4 ⟨v', rfl, hO4, hT4, hb4⟩; have HR4 := hid (And.intro hO4 (And.intro hT4 hb4)); clear hO4 hT4 hb4)
          go_roundg (m - (k + 1))
          case measure => omega
          case rel => exact ⟨k + 1, xs, by omega, by omega, by go_num, hid ⟨HR4.out.1, HT.out.trans (HR4.out.2.1.mono fun j hj => by rw [← HOB2.out]; exact hj), by rw [HR4.out.2.2]; exact HOB2.out, HX.out.1, HX.out.2, HXL.out⟩⟩)
      · rw [if_neg hz] at hft hwo
        have HX := hid (And.intro hft hwo)
        clear hft hwo
        go_wp2_with fail
        go_region_law fail
        all_goals (
          go_wp2_with fail
          go_roundg (m - (k + 1))
          case measure => omega
          case rel => exact ⟨k + 1, _, by omega, by omega, by go_num, hid ⟨HRS.out, HT.out, HOB2.out, HX.out.1, HX.out.2, HLN.out⟩⟩)
    · have hltz : ¬ (k : Int) < (m : Int) := by omega
      have hE : withoutG lk (fs.drop k) = lk := by rw [List.drop_eq_nil_of_le (by have := HMF.out; omega)]; simp [withoutG]
      have HE := hid hE
      clear hE
      go_wp2_with fail
      go_ret
      refine ⟨_, rfl, ?_, HI.out.2.1, HI.out.2.2.1⟩
      rw [← HI.out.2.2.2.2.1, HE.out]; exact HI.out.1
end Go.Proofs.Ytdgllpfccdbdnaa

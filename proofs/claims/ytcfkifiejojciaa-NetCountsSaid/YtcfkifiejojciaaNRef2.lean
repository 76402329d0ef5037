/- The document's net: a frame taken out; frames sent. -/
import Derived.Test.YtcfkifiejojciaaNRef
namespace Go.Proofs.Ytcfkifiejojciaa
set_option linter.unusedVariables false
open Go.RowKit
open Go.Lib (hid)

set_option maxHeartbeats 1600000 in
set_option maxRecDepth 100000 in
theorem rTake_no {w : World} {q B : Nat} {room s : Int} {u : Value} {ps : Ps} (h : NetR w B q room u s ps) (i : Int) (hi : i < 0 ∨ (ps.length : Int) ≤ i) : Calls Try.prog 20 #[ptr q, .int .i64 i] w fun e w' => e = .returned (.tuple #[.slice none 0 0, .bool false]) ∧ w = w' := by
  obtain ⟨hlt, c0, c1, c2, f0, f1, f2⟩ := h.1.cells
  obtain ⟨a, cap, rfl, hcap, _⟩ := h.2.1.any
  clear h hcap f0 f1 f2 c2
  by_cases h0 : i < 0
  · clear hi
    go_enter Try.func20, Try.ntmps20
    go_wp2
    go_ret2
    exact ⟨rfl, rfl⟩
  · have h1 : (ps.length : Int) ≤ i := by omega
    clear hi
    go_enter Try.func20, Try.ntmps20
    go_wp2
    go_ret2
    exact ⟨rfl, rfl⟩

theorem left_row {w w' : World} {B q : Nat} {room s : Int} {u u3 : Value} {ps qs : Ps} (h : NetR w B q room u s ps) (hb : Below w.heap.size w w') (h2 : Rw w' B u3 qs) (hf : ∀ k, u3.ownBlock = some k → w.heap.size ≤ k) :
    LeftA 33 w (w'.setCell ⟨q, 1, none⟩ u3) B q room u s (bs qs) := by
  have hq := (Array.getElem?_eq_some_iff.1 h.1).1
  have hR : Tri 33 w' q room u s := obOn h.1 hb hq
  have hne := Tri.off hR (by decide) h2
  exact ⟨u3, _, ⟨Tri.set1 hR, h2.tch (S := fun k => k = q) (Tch.set _ _ _ rfl) (fun k hk => by cases hk; exact ⟨h.2.2, not8 hR (by decide)⟩) (fun k hk e => hne (by rw [hk, e])), h.2.2⟩, rfl, (Tch.ofBelow hb).trans (Tch.set _ _ _ (.inl rfl)), fun k hk => .inr (hf k hk)⟩

set_option maxHeartbeats 3200000 in
set_option maxRecDepth 100000 in
theorem rTake_yes {w : World} {q B : Nat} {room s : Int} {u : Value} {ps : Ps} (h : NetR w B q room u s ps) (hB : B ≤ w.heap.size) (i : Nat) {x : Sv × List UInt8} (hi : ps[i]? = some x) (hm : ps.length ≤ 4096) :
    Calls Try.prog 20 #[ptr q, .int .i64 i] w fun e w' => e = .returned (.tuple #[x.1.v, .bool true]) ∧ LeftA 33 w w' B q room u s (bs (less ps i)) := by
  obtain ⟨hlt, c0, c1, c2, f0, f1, f2⟩ := h.1.cells
  have HN := hid h
  have HH := hid hB
  have hil := (List.getElem?_eq_some_iff.1 hi).1
  have HI := hid hi
  obtain ⟨⟨sa, sn, sc⟩, l⟩ := x
  rcases h.2.1.shape with ⟨rfl, rfl⟩ | ⟨g, cap, rfl, hn, hmx, hBg, hg, hc, hf⟩
  · simp at hil
  · have k0 := hc i _ hi
    have HC := hid hc
    dsimp only at k0 ⊢
    obtain ⟨n, hn2⟩ : ∃ n, n = ps.length := ⟨_, rfl⟩
    rw [← hn2] at c1 hil hm hn HN
    have HLN := hid hn2
    have d1 : ¬ (n : Int) ≤ (i : Int) := by omega
    have hs1 : decide ((i : Int) < 0) = false := decide_eq_false (by omega)
    have HG := hid (And.intro hg hlt)
    clear h hc hf hmx hBg hn2 hi hB
    go_enter Try.func20, Try.ntmps20
    go_wp2
    have HI0 : Hid (Rw w B (.slice none 0 0) (less (ps.take 0) i) ∧ Below w.heap.size w w ∧ ∀ k, (Value.slice none 0 0).ownBlock = some k → w.heap.size ≤ k) := hid ⟨by simpa [less] using Rw.nil w B, Below.refl _ w, fun k hk => by cases hk⟩
    clear c0 c1 c2 f0 f1 f2 k0
    go_loopw [7, 8] (fun vo j wr => ∃ (k : Nat) (va : Option Addr) (vn vc : Nat), k ≤ n ∧ j = .int .i64 k ∧ vo = .slice va vn vc ∧ Hid (Rw wr B (.slice va vn vc) (less (ps.take k) i) ∧ Below w.heap.size w wr ∧ ∀ k, (Value.slice va vn vc).ownBlock = some k → w.heap.size ≤ k)) (fun _ j _ => n - (intOf j).toNat)
    case atStart => exact ⟨0, none, 0, 0, Nat.zero_le _, rfl, rfl, HI0⟩
    case round =>
      obtain ⟨k, va, vn, vc, hk, rfl, rfl, HV⟩ := hrel
      have hNr := HN.out.on (HV.out.2.1)
      obtain ⟨hltr, c0, c1, c2, f0, f1, f2⟩ := hNr.1.cells
      have HNr := hid hNr
      clear hNr
      by_cases hkn : k < n
      · have hkn2 : (k : Int) < (n : Int) := by omega
        obtain ⟨y, hy⟩ : ∃ y, ps[k]? = some y := ⟨ps[k]'(by have := HLN.out; omega), List.getElem?_eq_getElem (by have := HLN.out; omega)⟩
        have k0 := (HV.out.2.1.cell (p := ⟨g, k, none⟩) HG.out.1).trans (HC.out k _ hy)
        have HY := hid hy
        by_cases hki : k = i
        · subst hki
          have HV2 : Hid (Rw wr B (.slice va vn vc) (less (ps.take (k + 1)) k) ∧ Below w.heap.size w wr ∧ ∀ k, (Value.slice va vn vc).ownBlock = some k → w.heap.size ≤ k) := hid ⟨by rw [less_skip HY.out]; exact HV.out.1, HV.out.2⟩
          clear hy k0
          go_wp2
          go_roundw
          case rel => exact ⟨k + 1, va, vn, vc, by omega, by go_num, rfl, HV2⟩
          case measure => simp [RowKit.intOf]; omega
        · have hki2 : ¬ (k : Int) = (i : Int) := by omega
          obtain ⟨⟨ya, yn, yc⟩, yl⟩ := y
          dsimp only at k0
          have HBt : Hid (Bt wr B ⟨ya, yn, yc⟩ yl) := hid (HNr.out.2.1.2 _ (List.mem_of_getElem? hy))
          have hb2 : Below wr.heap.size wr (wr.alloc (.cells #[.slice ya yn yc] 40)) := (Below.refl _ wr).alloc (Nat.le_refl _) _
          have HB2 := hid hb2
          have HS2 : Hid (Sr (wr.alloc (.cells #[.slice ya yn yc] 40)) B (.slice (some ⟨wr.heap.size, 0, none⟩) 1 1) [(⟨ya, yn, yc⟩, yl)]) := hid (Sr.one HBt.out)
          have HZ : Hid (B ≤ wr.heap.size ∧ w.heap.size ≤ wr.heap.size) := hid (by have h1 := HH.out; have h3 := HV.out.2.1.size; omega)
          have HLl : Hid ((less (ps.take k) i).length ≤ 4096) := hid (by unfold less; rw [List.length_append, List.length_take, List.length_drop, List.length_take]; have := HLN.out; omega)
          clear hy hb2
          go_wp2_with (at_builtin; refine wpList_append_rw rfl _ _ rfl B _ (less (ps.take k) i) rfl (HV.out.1.on HB2.out) _ _ rfl HS2.out (by have := HLl.out; simp; omega) (by have := HZ.out.1; simp; omega) ?_; (
            intro v2 w2 hR2 hg2 hf2
            have hb3 : Below w.heap.size w w2 := (HV.out.2.1.trans (HB2.out.mono HZ.out.2)).grown hg2 (by have := HZ.out.2; simp; omega) HV.out.2.2
            have HV2 : Hid (Rw w2 B v2 (less (ps.take (k + 1)) i) ∧ Below w.heap.size w w2 ∧ ∀ k, v2.ownBlock = some k → w.heap.size ≤ k) := hid ⟨by rw [less_step HY.out hki]; exact hR2, hb3, fun z hz => by
              rcases hf2 z hz with h1 | h1
              · exact HV.out.2.2 z h1
              · have := HZ.out.2; simp at h1; omega⟩
            obtain ⟨a2, n2, cap2, rfl, hn2⟩ := hR2.asSlice
            clear hR2 hg2 hf2 hb3 hn2))
          go_roundw
          case rel => exact ⟨k + 1, a2, n2, cap2, by omega, by go_num, rfl, HV2⟩
          case measure => simp [RowKit.intOf]; omega
      · have hkn2 : ¬ (k : Int) < (n : Int) := by omega
        have HL := hid (left_row HN.out HV.out.2.1 (by have h1 := HV.out.1; rw [List.take_of_length_le (by have := HLN.out; omega)] at h1; exact h1) HV.out.2.2)
        go_wp2
        go_ret2
        exact ⟨rfl, HL.out⟩
end Go.Proofs.Ytcfkifiejojciaa

/- The live question of layer 7. -/
import Derived.Test.YtpjcjnifklgojaaFSame
import Derived.Lib.SlBytesConst
namespace Go.Proofs.Ytpjcjnifklgojaa
set_option linter.unusedVariables false
open Go.RowKit
open Go.Lib (hid)

def nine : List UInt8 := [49, 50, 51, 52, 53, 54, 55, 56, 57]
abbrev nineC : Obj := .cells #[.int .u8 49, .int .u8 50, .int .u8 51, .int .u8 52, .int .u8 53, .int .u8 54, .int .u8 55, .int .u8 56, .int .u8 57] 5 (9, 10)
theorem lit_nine (w : World) : SlB (w.alloc nineC) (.slice (some ⟨w.heap.size, 0, none⟩) 9 9) nine := by
  have hg : (w.alloc nineC).heap[w.heap.size]? = some nineC := heap_alloc_new w _
  refine ⟨w.heap.size, 0, 9, _, rfl, (fun e => by cases e), by decide, fun _ => rfl, fun j x hx => ?_, fun _ => by simp⟩
  rw [Nat.zero_add]
  have hj : j < 9 := (List.getElem?_eq_some_iff.1 hx).1
  simp only [World.cell?, hg]
  match j, hx with
  | 0, hx => cases hx; rfl
  | 1, hx => cases hx; rfl
  | 2, hx => cases hx; rfl
  | 3, hx => cases hx; rfl
  | 4, hx => cases hx; rfl
  | 5, hx => cases hx; rfl
  | 6, hx => cases hx; rfl
  | 7, hx => cases hx; rfl
  | 8, hx => cases hx; rfl
  | _ + 9, hx => cases hx
theorem one_scan {l : List UInt8} (h : 1 ≤ l.length) (h2 : l.length ≤ 65535) : scanN (frameB l) = ([l], l.length + 6) := by
  have := frame_scan h h2 []
  rw [List.append_nil, scan_nil] at this
  exact this
theorem sum_nine : sumN nine = 3421780262 := sum_live
theorem OwnL.one {w : World} {B : Nat} {v : Value} {ps : List (Sv × List UInt8)} {l : List UInt8} (h : OwnL w B v ps) (hm : ps.map (fun p => p.2) = [l]) : ∃ (g cap : Nat) (s : Sv), v = .slice (some ⟨g, 0, none⟩) 1 cap ∧ g < w.heap.size ∧ w.cell? ⟨g, 0, none⟩ = some s.v ∧ SlB w s.v l := by
  match ps, hm, h with
  | [(s, x)], hm, h =>
    simp at hm
    subst hm
    have hlt := h.1.lt
    rcases h.1.2 with ⟨_, e⟩ | ⟨g, cap, cur, rfl, hb, hg, _⟩
    · simp at e
    · refine ⟨g, cap, s, rfl, (hlt g rfl).2, ?_, (h.2 (s, x) (List.mem_singleton.2 rfl)).slb⟩
      rw [h.1.cellAt 0 (by simp)]; rfl

set_option maxHeartbeats 1600000 in
set_option maxRecDepth 100000 in
theorem oAlive (w : World) : Calls Try.prog 6 #[] w fun e w' => e = .returned (.bool true) ∧ Below w.heap.size w w' := by
  have h1 := hid (lit_nine w)
  have kc := fun (w : World) (C : Array Value) (n c : Nat) => Lib.run_convert_bytes_const (P := Try.prog) w 22 5 C n c Try.underlying22 Try.underlying5
  go_enter Try.func6, Try.ntmps6
  go_wp2_with fail
  go_at_call 7
  refine (cWrap_yes h1.out (by decide) (by decide)).mono ?_
  rintro e w1 ⟨r, rfl, ho, hB⟩
  have hB1 := ((Below.refl _ w).alloc (Nat.le_refl _) nineC).trans (hB.mono (by simp))
  have hsl := hid ho.slb
  obtain ⟨g, c, rfl⟩ := ho.some (fun e => by have := congrArg List.length e; rw [frame_len] at this; simp at this)
  rw [show (frameB nine).length = 15 from frame_len nine] at hsl ⊢
  have HB1 := hid hB1
  clear ho hB hB1
  go_wp2_with fail
  go_at_call 9
  refine (cScan hsl.out (by rw [frame_len]; decide)).mono ?_
  rintro e w2 ⟨r2, ps, rfl, ho, hm, hB⟩
  rw [one_scan (l := nine) (by decide) (by decide)] at hm ⊢
  obtain ⟨g2, c2, ⟨sa, sn, sc⟩, rfl, hg2, d0, hs2⟩ := ho.one hm
  have HB2 := hid (HB1.out.trans (hB.mono HB1.out.size))
  have HS2 := hid hs2
  have hlen : (nine.length + 6) = 15 := rfl
  clear ho hm hB hs2
  rw [hlen]
  have h3 := hid (lit_nine w2)
  have hb3 := (Below.refl w2.heap.size w2).alloc (Nat.le_refl _) nineC
  have d1 := (hb3.cell (p := ⟨g2, 0, none⟩) hg2).trans d0
  have hv := convB (HS2.out.on hb3)
  have HB3 := hid (HB2.out.trans (hb3.mono HB2.out.size))
  clear hb3 d0
  go_wp2_with fail
  go_at_call 12
  refine (cSum h3.out (by decide)).mono ?_
  rintro e w3 ⟨rfl, rfl⟩
  rw [sum_nine]
  go_wp2_with fail
  go_ret
  exact ⟨rfl, HB3.out⟩
end Go.Proofs.Ytpjcjnifklgojaa

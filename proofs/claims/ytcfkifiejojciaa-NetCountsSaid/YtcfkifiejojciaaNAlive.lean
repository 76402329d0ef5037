/- The live question of layer 10. -/
import Derived.Test.YtcfkifiejojciaaNStep
import Derived.Lib.SlBytesConst
namespace Go.Proofs.Ytcfkifiejojciaa
set_option linter.unusedVariables false
open Go.RowKit
open Go.Lib (hid)

/-- One net, made since w. -/
def One (w W : World) (p : Nat) (room lost : Int) (ls : List (List UInt8)) : Prop := ∃ v ps, NetP W w.heap.size p room v lost ps ∧ bs ps = ls ∧ Below w.heap.size w W
theorem One.on {w W W' : World} {p : Nat} {room lost : Int} {ls : List (List UInt8)} (h : One w W p room lost ls) (hb : Below W.heap.size W W') : One w W' p room lost ls := by
  obtain ⟨v, ps, h1, h2, h3⟩ := h
  exact ⟨v, ps, h1.on hb, h2, h3.trans (hb.mono h3.size)⟩
theorem one_new {w W : World} {room : Int} (hb : Below w.heap.size w W) (h : roomB room = true) : Calls Try.prog 7 #[.int .i64 room] W fun e w' => e = .returned (.tuple #[ptr W.heap.size, .int .i64 0]) ∧ One w w' W.heap.size room 0 [] := by
  refine (cNew_yes room h W).mono ?_
  rintro e w' ⟨rfl, hD, hB⟩
  exact ⟨rfl, ⟨_, [], ⟨hD, Rw.nil _ _, hb.size⟩, rfl, hb.trans (hB.mono hb.size)⟩⟩
theorem One.left {w W w' : World} {p : Nat} {room lost lost' : Int} {v : Value} {ps : Ps} {ls' : List (List UInt8)} (h1 : NetP W w.heap.size p room v lost ps) (h3 : Below w.heap.size w W) (h : LeftA 47 W w' w.heap.size p room v lost' ls') : One w w' p room lost' ls' := by
  obtain ⟨v', ps', a, b, c, d⟩ := h
  exact ⟨v', ps', a, b, h3.trans (c.below (fun k hk => (h1.nb (by decide) k hk).1) h3.size)⟩
theorem lit_of (w : World) (l : List UInt8) (fz : Nat × Nat) (n : Nat) (hn : l.length = n) : SlB (w.alloc (.cells (octs l).toArray 5 fz)) (.slice (some ⟨w.heap.size, 0, none⟩) n n) l := by
  subst hn
  have hg : (w.alloc (.cells (octs l).toArray 5 fz)).heap[w.heap.size]? = some (.cells (octs l).toArray 5 fz) := heap_alloc_new w _
  refine ⟨w.heap.size, 0, l.length, _, rfl, (fun e => by cases e), Nat.le_refl _, fun _ => rfl, fun j x hx => ?_, fun _ => by simp⟩
  rw [Nat.zero_add, cell_of_row _ _ j _ _ fz hg]
  simp [octs, hx]
abbrev oneC (b : UInt8) : Obj := .cells #[.int .u8 b.toNat] 5 (1, 2)
theorem lit_one (w : World) (b : UInt8) (B : Nat) : Bt (w.alloc (oneC b)) B ⟨some ⟨w.heap.size, 0, none⟩, 1, 1⟩ [b] :=
  ⟨lit_of w [b] (1, 2) 1 rfl, fun k hk _ => .inr (by cases hk; exact ⟨_, _, heap_alloc_new w _⟩)⟩

/-- Bytes stay what they are. -/
def Stay (B : Nat) (w w' : World) : Prop := ∀ s l, Bt w B s l → Bt w' B s l
theorem one_take {w W : World} {p : Nat} {room lost : Int} {ls : List (List UInt8)} (h : One w W p room lost ls) (i : Nat) {b : List UInt8} (hi : ls[i]? = some b) (hb : b.length ≤ 1000000) (hl : ls.length ≤ 1000000) :
    Calls Try.prog 15 #[ptr p, .int .i64 i] W fun e w' => ∃ s : Sv, e = .returned (.tuple #[s.v, .bool true]) ∧ Bt w' w.heap.size s b ∧ One w w' p room lost (less ls i) ∧ Stay w.heap.size W w' := by
  obtain ⟨v, ps, h1, rfl, h3⟩ := h
  have hil := (List.getElem?_eq_some_iff.1 hi).1
  rw [bs_len] at hil hl
  obtain ⟨q, hq⟩ : ∃ q, ps[i]? = some q := ⟨_, List.getElem?_eq_getElem hil⟩
  obtain rfl : q.2 = b := by have := bs_at hq; rw [hi] at this; exact (Option.some.inj this).symm
  refine (cTake_yes h1 h3.size i hq hb hl).mono ?_
  rintro e w' ⟨r, v', rfl, hO, hN, hT, hF⟩
  obtain ⟨s, rfl, hO2⟩ := OwnB.sv hO
  exact ⟨s, rfl, OwnB.bt hO2, by rw [← bs_less]; exact One.left h1 h3 ⟨v', _, hN, rfl, hT, hF⟩, fun s l hs => hs.tch hT (h1.nb (by decide))⟩
theorem one_double {w W : World} {p : Nat} {room lost : Int} {ls : List (List UInt8)} (h : One w W p room lost ls) (i : Nat) {b : List UInt8} (hi : ls[i]? = some b) (hr : roomB room = true) (hl : (ls.length : Int) < room) :
    Calls Try.prog 16 #[ptr p, .int .i64 i] W fun e w' => e = .returned (.bool true) ∧ One w w' p room lost (ls ++ [b]) ∧ Stay w.heap.size W w' := by
  obtain ⟨v, ps, h1, rfl, h3⟩ := h
  have hil := (List.getElem?_eq_some_iff.1 hi).1
  rw [bs_len] at hil hl
  obtain ⟨q, hq⟩ : ∃ q, ps[i]? = some q := ⟨_, List.getElem?_eq_getElem hil⟩
  obtain rfl : q.2 = b := by have := bs_at hq; rw [hi] at this; exact (Option.some.inj this).symm
  refine (cDouble_yes h1 h3.size hr hl i hq).mono ?_
  rintro e w' ⟨v', rfl, hN, hT, hF⟩
  exact ⟨rfl, by rw [show bs ps ++ [q.2] = bs (ps ++ [q]) by rw [bs_append]; rfl]; exact One.left h1 h3 ⟨v', _, hN, rfl, hT, hF⟩, fun s l hs => hs.tch hT (h1.nb (by decide))⟩
theorem one_full {w W : World} {p : Nat} {room lost : Int} {ls : List (List UInt8)} (h : One w W p room lost ls) (i : Nat) (hi : i < ls.length) (hr : roomB room = true) (hl : (ls.length : Int) = room) :
    Calls Try.prog 16 #[ptr p, .int .i64 i] W fun e w' => e = .returned (.bool false) ∧ Below W.heap.size W w' := by
  obtain ⟨v, ps, h1, rfl, h3⟩ := h
  rw [bs_len] at hi hl
  exact cDouble_full h1 hr hl i hi
theorem one_at {w W : World} {p : Nat} {room lost : Int} {ls : List (List UInt8)} (h : One w W p room lost ls) (i : Nat) {b : List UInt8} (hi : ls[i]? = some b) :
    Calls Try.prog 14 #[ptr p, .int .i64 i] W fun e w' => ∃ s : Sv, e = .returned (.tuple #[s.v, .bool true]) ∧ Bt W w.heap.size s b ∧ W = w' := by
  obtain ⟨v, ps, h1, rfl, h3⟩ := h
  have hil := (List.getElem?_eq_some_iff.1 hi).1
  rw [bs_len] at hil
  obtain ⟨q, hq⟩ : ∃ q, ps[i]? = some q := ⟨_, List.getElem?_eq_getElem hil⟩
  obtain rfl : q.2 = b := by have := bs_at hq; rw [hi] at this; exact (Option.some.inj this).symm
  refine (cAt_yes h1.1 h1.2.1 i hq).mono ?_
  rintro e w' ⟨rfl, rfl⟩
  exact ⟨q.1, rfl, h1.2.1.2 q (List.mem_of_getElem? hq), rfl⟩
theorem one_len {w W : World} {p : Nat} {room lost : Int} {ls : List (List UInt8)} (h : One w W p room lost ls) : Calls Try.prog 13 #[ptr p] W fun e w' => e = .returned (.int .i64 ls.length) ∧ W = w' := by
  obtain ⟨v, ps, h1, rfl, h3⟩ := h
  rw [bs_len]
  exact cLen h1.1 h1.2.1
theorem one_lost {w W : World} {p : Nat} {room lost : Int} {ls : List (List UInt8)} (h : One w W p room lost ls) : Calls Try.prog 12 #[ptr p] W fun e w' => e = .returned (.int .i64 lost) ∧ W = w' := by
  obtain ⟨v, ps, h1, rfl, h3⟩ := h
  exact cLost h1.1
/-- The four frames of the live question. -/
abbrev fourW (w : World) : World := ((((w.alloc (oneC 97)).alloc (oneC 98)).alloc (oneC 99)).alloc (oneC 100)).alloc (.cells #[.slice (some ⟨w.heap.size, 0, none⟩) 1 1, .slice (some ⟨w.heap.size + 1, 0, none⟩) 1 1, .slice (some ⟨w.heap.size + 1 + 1, 0, none⟩) 1 1, .slice (some ⟨w.heap.size + 1 + 1 + 1, 0, none⟩) 1 1] 40)
def fourP (n : Nat) : Ps := [(⟨some ⟨n, 0, none⟩, 1, 1⟩, [97]), (⟨some ⟨n + 1, 0, none⟩, 1, 1⟩, [98]), (⟨some ⟨n + 1 + 1, 0, none⟩, 1, 1⟩, [99]), (⟨some ⟨n + 1 + 1 + 1, 0, none⟩, 1, 1⟩, [100])]
theorem bt_alloc {w : World} {B : Nat} {s : Sv} {l : List UInt8} (h : Bt w B s l) (o : Obj) : Bt (w.alloc o) B s l := h.on ((Below.refl _ w).alloc (Nat.le_refl _) o)
theorem four_sr (w : World) (B : Nat) : Sr (fourW w) B (.slice (some ⟨w.heap.size + 1 + 1 + 1 + 1, 0, none⟩) 4 4) (fourP w.heap.size) := by
  have h1 := lit_one w 97 B
  have h2 := lit_one (w.alloc (oneC 97)) 98 B
  have h3 := lit_one ((w.alloc (oneC 97)).alloc (oneC 98)) 99 B
  have h4 := lit_one (((w.alloc (oneC 97)).alloc (oneC 98)).alloc (oneC 99)) 100 B
  simp only [World.size_alloc] at h2 h3 h4
  have hg := heap_alloc_new ((((w.alloc (oneC 97)).alloc (oneC 98)).alloc (oneC 99)).alloc (oneC 100)) (.cells #[.slice (some ⟨w.heap.size, 0, none⟩) 1 1, .slice (some ⟨w.heap.size + 1, 0, none⟩) 1 1, .slice (some ⟨w.heap.size + 1 + 1, 0, none⟩) 1 1, .slice (some ⟨w.heap.size + 1 + 1 + 1, 0, none⟩) 1 1] 40)
  simp only [World.size_alloc] at hg
  refine ⟨w.heap.size + 1 + 1 + 1 + 1, 0, 4, _, rfl, Nat.le_refl 4, (fun e => by cases e), fun _ => rfl, fun j q hj => ?_, fun _ => by simp [fourW], fun q hq => ?_⟩
  · have hj4 : j < 4 := (List.getElem?_eq_some_iff.1 hj).1
    rw [Nat.zero_add, cell_of_row _ _ j _ _ (0, 0) hg]
    match j, hj with
    | 0, hj => cases hj; rfl
    | 1, hj => cases hj; rfl
    | 2, hj => cases hj; rfl
    | 3, hj => cases hj; rfl
    | _ + 4, hj => omega
  · simp only [fourP, List.mem_cons, List.not_mem_nil, or_false] at hq
    rcases hq with rfl | rfl | rfl | rfl
    · exact bt_alloc (bt_alloc (bt_alloc (bt_alloc h1 _) _) _) _
    · exact bt_alloc (bt_alloc (bt_alloc h2 _) _) _
    · exact bt_alloc (bt_alloc h3 _) _
    · exact bt_alloc h4 _
theorem one_four {w W : World} {p : Nat} (h : One w W p 3 0 []) : Calls Try.prog 17 #[ptr p, .slice (some ⟨W.heap.size + 1 + 1 + 1 + 1, 0, none⟩) 4 4] (fourW W) fun e w' => e = .returned (.int .i64 3) ∧ One w w' p 3 1 [[97], [98], [99]] := by
  have hW : Below W.heap.size W (fourW W) := by
    refine ((((Below.refl _ W).alloc ?_ _).alloc ?_ _).alloc ?_ _).alloc ?_ _ |>.alloc ?_ _ <;> simp <;> omega
  obtain ⟨v, ps, g1, h2, g3⟩ := h
  obtain rfl : ps = [] := by cases ps with | nil => rfl | cons a r => simp [bs] at h2
  have h1 := g1.on hW
  have h3 := g3.trans (hW.mono g3.size)
  have hlt := g1.nlt
  refine (cSend h1 h3.size (by decide) (by decide) (four_sr W w.heap.size) (by simp [fourP]) (fun q hq => by simp only [fourP, List.mem_cons, List.not_mem_nil, or_false] at hq; rcases hq with rfl | rfl | rfl | rfl <;> simp) (by decide) (by decide) ?_).mono ?_
  · intro _ k hk h
    have e2 : W.heap.size + 1 + 1 + 1 + 1 = k := Option.some.inj hk
    have := hlt k h
    omega
  · rintro e w' ⟨rfl, hL⟩
    exact ⟨rfl, One.left h1 h3 hL⟩

set_option maxHeartbeats 1600000 in
set_option maxRecDepth 100000 in
theorem cAlive (w : World) : Calls Try.prog 6 #[] w fun e w' => e = .returned (.bool true) ∧ Below w.heap.size w w' := by
  have kc := fun (w : World) (C : Array Value) (n c : Nat) => Lib.run_convert_bytes_const (P := Try.prog) w 40 5 C n c Try.underlying40 Try.underlying5
  have kc1 := fun (w : World) (A : Obj) (C : Array Value) (n c : Nat) => kc (w.alloc A) C n c
  have kc2 := fun (w : World) (A A2 : Obj) (C : Array Value) (n c : Nat) => kc ((w.alloc A).alloc A2) C n c
  have kc3 := fun (w : World) (A A2 A3 : Obj) (C : Array Value) (n c : Nat) => kc (((w.alloc A).alloc A2).alloc A3) C n c
  simp only [World.size_alloc] at kc1 kc2 kc3
  go_enter Try.func6, Try.ntmps6
  go_wp2_with fail
  go_at_call 7
  refine (one_new (Below.refl _ w) (by decide)).mono ?_
  rintro e w1 ⟨rfl, h1⟩
  obtain ⟨p, hp⟩ : ∃ p, p = w.heap.size := ⟨_, rfl⟩
  rw [← hp] at h1 ⊢
  clear hp
  go_wp2_with fail
  go_at_call 17
  refine (one_four h1).mono ?_
  rintro e w2 ⟨rfl, h2⟩
  have H2 := hid h2
  clear h1 h2
  go_wp2_with fail
  go_at_call 15
  refine (one_take H2.out 1 rfl (by decide) (by decide)).mono ?_
  rintro e w3 ⟨⟨ra, rn, rc⟩, rfl, hb, h3, _⟩
  have H3 : Hid (One w w3 p 3 1 [[97], [99]] ∧ Bt w3 w.heap.size ⟨ra, rn, rc⟩ [98]) := hid ⟨h3, hb⟩
  clear hb h3 H2
  go_wp2_with fail
  go_at_call 16
  refine (one_double H3.out.1 0 rfl (by decide) (by decide)).mono ?_
  rintro e w4 ⟨rfl, h4, hs⟩
  have H4 : Hid (One w w4 p 3 1 [[97], [99], [97]] ∧ Bt w4 w.heap.size ⟨ra, rn, rc⟩ [98]) := hid ⟨h4, hs _ _ H3.out.2⟩
  clear h4 hs H3
  go_wp2_with fail
  go_at_call 14
  refine (one_at H4.out.1 2 rfl).mono ?_
  rintro e w5 ⟨⟨qa, qn, qc⟩, rfl, hq, rfl⟩
  have k1 := convB H4.out.2.1
  have k2 := convB hq.1
  have HL := hid (one_len H4.out.1)
  have HO := hid (one_lost H4.out.1)
  have HD := hid (one_full H4.out.1 0 (by decide) (by decide) (by decide))
  clear hq
  go_wp2_with (first
    | (go_at_call 12; refine HO.out.mono ?_; rintro e w6 ⟨rfl, rfl⟩)
    | (go_at_call 13; refine HL.out.mono ?_; rintro e w6 ⟨rfl, rfl⟩)
    | (go_at_call 16; refine HD.out.mono ?_; rintro e w6 ⟨rfl, hB6⟩; have HB6 := hid hB6; clear hB6))
  go_ret
  obtain ⟨v, ps, _, _, h5⟩ := H4.out.1
  exact ⟨rfl, h5.trans (HB6.out.mono h5.size)⟩
end Go.Proofs.Ytcfkifiejojciaa

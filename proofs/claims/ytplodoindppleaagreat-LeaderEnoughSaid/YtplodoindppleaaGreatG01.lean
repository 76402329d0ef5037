import Derived.Test.YtplodoindppleaaGreatG00
import Derived.Deep.Light
import Derived.Deep.QuietTactic
import Derived.BigQuiet
import Derived.Outline
namespace Go.Proofs.YtplodoindppleaaGreat
open Go.RowKit
theorem boxed (w : World) (xs : Array Value) (T : TypeId) : Below w.heap.size w (w.alloc (.cells xs T)) := (Below.refl _ _).alloc (Nat.le_refl _) _
set_option maxRecDepth 100000 in
theorem rOne_pre (i k s t d p q : Int) (h : namedB i = false ∨ withinB s 3 = false) (w : World) : Calls Tryz.prog 42 #[cmV i k s t d p q] w fun e w' => e = .returned (.bool false) ∧ Below w.heap.size w w' := by
 rcases hn : namedB i with _ | _
 · go_enter Tryz.func42, Tryz.ntmps42
   go_wp2_with (first | (go_at_call 81; refine (rNamed _ _).mono ?_; rintro e w' ⟨rfl, rfl⟩) | (go_at_call 82; refine (rIn _ _).mono ?_; rintro e w' ⟨rfl, rfl⟩))
   go_ret
   exact ⟨rfl, boxed _ _ _⟩
 · have hs : withinB s 3 = false := by simpa [hn] using h
   rw [within_false] at hs
   clear h
   by_cases h0 : s < 0
   · go_enter Tryz.func42, Tryz.ntmps42
     go_wp2_with (first | (go_at_call 81; refine (rNamed _ _).mono ?_; rintro e w' ⟨rfl, rfl⟩) | (go_at_call 82; refine (rIn _ _).mono ?_; rintro e w' ⟨rfl, rfl⟩))
     go_ret
     exact ⟨rfl, boxed _ _ _⟩
   · have h1 : 3 < s := by omega
     go_enter Tryz.func42, Tryz.ntmps42
     go_wp2_with (first | (go_at_call 81; refine (rNamed _ _).mono ?_; rintro e w' ⟨rfl, rfl⟩) | (go_at_call 82; refine (rIn _ _).mono ?_; rintro e w' ⟨rfl, rfl⟩))
     go_ret
     exact ⟨rfl, boxed _ _ _⟩
def restB (k t d p q : Int) : Bool :=
 if k = 0 then decide (t = 0) && (decide (d = 0) || decide (d = 1)) && withinB p 1048576 && withinB q 1048576
 else if k = 1 then namedB t && decide (d = 0) && decide (p = 0) && decide (q = 0)
 else if k = 2 then namedB t && decide (d = 0) && decide (p = 0) && withinB q 1048576
 else false
set_option maxRecDepth 100000 in
theorem rOne_k0 (i s t d p q : Int) (hn : namedB i = true) (h0 : 0 ≤ s) (h1 : s ≤ 3) (w : World) : Calls Tryz.prog 42 #[cmV i 0 s t d p q] w fun e w' => e = .returned (.bool (restB 0 t d p q)) ∧ Below w.heap.size w w' := by
 go_enter Tryz.func42, Tryz.ntmps42
 go_wp2_with (first | (go_at_call 81; refine (rNamed _ _).mono ?_; rintro e w' ⟨rfl, rfl⟩) | (go_at_call 82; refine (rIn _ _).mono ?_; rintro e w' ⟨rfl, rfl⟩))
 all_goals
  go_ret
  refine ⟨ret_bool ?_, boxed _ _ _⟩
  go_light
  first | (simp_all [restB]; done) | (simp_all [restB]; rw [Bool.eq_iff_iff]; simp; done) | (simp_all [restB]; omega)
set_option maxRecDepth 100000 in
theorem rOne_k1 (i s t d p q : Int) (hn : namedB i = true) (h0 : 0 ≤ s) (h1 : s ≤ 3) (w : World) : Calls Tryz.prog 42 #[cmV i 1 s t d p q] w fun e w' => e = .returned (.bool (restB 1 t d p q)) ∧ Below w.heap.size w w' := by
 go_enter Tryz.func42, Tryz.ntmps42
 go_wp2_with (first | (go_at_call 81; refine (rNamed _ _).mono ?_; rintro e w' ⟨rfl, rfl⟩) | (go_at_call 82; refine (rIn _ _).mono ?_; rintro e w' ⟨rfl, rfl⟩))
 all_goals
  go_ret
  refine ⟨ret_bool ?_, boxed _ _ _⟩
  go_light
  first | (simp_all [restB]; done) | (simp_all [restB]; rw [Bool.eq_iff_iff]; simp; done) | (simp_all [restB]; omega)
set_option maxRecDepth 100000 in
theorem rOne_k2 (i s t d p q : Int) (hn : namedB i = true) (h0 : 0 ≤ s) (h1 : s ≤ 3) (w : World) : Calls Tryz.prog 42 #[cmV i 2 s t d p q] w fun e w' => e = .returned (.bool (restB 2 t d p q)) ∧ Below w.heap.size w w' := by
 go_enter Tryz.func42, Tryz.ntmps42
 go_wp2_with (first | (go_at_call 81; refine (rNamed _ _).mono ?_; rintro e w' ⟨rfl, rfl⟩) | (go_at_call 82; refine (rIn _ _).mono ?_; rintro e w' ⟨rfl, rfl⟩))
 all_goals
  go_ret
  refine ⟨ret_bool ?_, boxed _ _ _⟩
  go_light
  first | (simp_all [restB]; done) | (simp_all [restB]; rw [Bool.eq_iff_iff]; simp; done) | (simp_all [restB]; omega)
set_option maxRecDepth 100000 in
theorem rOne_no (i k s t d p q : Int) (k0 : k ≠ 0) (k1 : k ≠ 1) (k2 : k ≠ 2) (hn : namedB i = true) (h0 : 0 ≤ s) (h1 : s ≤ 3) (w : World) : Calls Tryz.prog 42 #[cmV i k s t d p q] w fun e w' => e = .returned (.bool (restB k t d p q)) ∧ Below w.heap.size w w' := by
 go_enter Tryz.func42, Tryz.ntmps42
 go_wp2_with (first | (go_at_call 81; refine (rNamed _ _).mono ?_; rintro e w' ⟨rfl, rfl⟩) | (go_at_call 82; refine (rIn _ _).mono ?_; rintro e w' ⟨rfl, rfl⟩))
 all_goals
  go_ret
  refine ⟨ret_bool ?_, boxed _ _ _⟩
  go_light
  first | (simp_all [restB]; done) | (simp_all [restB]; rw [Bool.eq_iff_iff]; simp; done) | (simp_all [restB]; omega)
theorem zero_within (x : Int) : withinB x 0 = decide (x = 0) := by
 unfold withinB; congr 1; apply propext; omega
theorem one_within (x : Int) : withinB x 1 = (decide (x = 0) || decide (x = 1)) := by
 unfold withinB; rw [Bool.eq_iff_iff]; simp; omega
theorem rOne (i k s t d p q : Int) (w : World) : Calls Tryz.prog 42 #[cmV i k s t d p q] w fun e w' => e = .returned (.bool (oneB i k s t d p q)) ∧ Below w.heap.size w w' := by
 rcases hn : namedB i with _ | _
 · simpa [oneB, hn] using rOne_pre i k s t d p q (Or.inl hn) w
 rcases hs : withinB s 3 with _ | _
 · simpa [oneB, hs] using rOne_pre i k s t d p q (Or.inr hs) w
 have hb : oneB i k s t d p q = restB k t d p q := by
  unfold oneB restB; rw [hn, hs]; simp only [zero_within, one_within, Bool.true_and]; rfl
 obtain ⟨h0, h1⟩ := within_true.mp hs
 rw [hb]
 by_cases k0 : k = 0
 · subst k0; exact rOne_k0 i s t d p q hn h0 h1 w
 by_cases k1 : k = 1
 · subst k1; exact rOne_k1 i s t d p q hn h0 h1 w
 by_cases k2 : k = 2
 · subst k2; exact rOne_k2 i s t d p q hn h0 h1 w
 exact rOne_no i k s t d p q k0 k1 k2 hn h0 h1 w
end Go.Proofs.YtplodoindppleaaGreat
namespace Go.Proofs.YtplodoindppleaaGreat
open Go.RowKit
open Go.Lib (hid)
structure C7 where
 i : Int
 k : Int
 s : Int
 t : Int
 d : Int
 p : Int
 q : Int
abbrev C7.cells (c : C7) : List Value := [.int .i64 c.i, .int .i64 c.k, .int .i64 c.s, .int .i64 c.t, .int .i64 c.d, .int .i64 c.p, .int .i64 c.q]
def C7.ok (c : C7) : Bool := oneB c.i c.k c.s c.t c.d c.p c.q
def CmsAt (w : World) (b o : Nat) (cs : List C7) : Prop :=
 ∀ (j : Nat) c, cs[j]? = some c → ∀ (f : Nat) v, c.cells[f]? = some v → w.cell? ⟨b, o + (j * 7 + f), none⟩ = some v
theorem CmsAt.on {w w' : World} {b o B : Nat} {cs : List C7} (h : CmsAt w b o cs) (hb : Below B w w') (hB : b < B) : CmsAt w' b o cs := fun j c hc f v hv => by
 rw [hb.cell (p := ⟨b, o + (j * 7 + f), none⟩) hB]; exact h j c hc f v hv
theorem CmsAt.at {w : World} {b o : Nat} {cs : List C7} (h : CmsAt w b o cs) {j : Nat} {c : C7} (hc : cs[j]? = some c) :
 w.cell? ⟨b, o + j * 7, none⟩ = some (.int .i64 c.i) ∧ w.cell? ⟨b, o + j * 7 + 1, none⟩ = some (.int .i64 c.k) ∧ w.cell? ⟨b, o + j * 7 + 2, none⟩ = some (.int .i64 c.s) ∧ w.cell? ⟨b, o + j * 7 + 3, none⟩ = some (.int .i64 c.t) ∧
 w.cell? ⟨b, o + j * 7 + 4, none⟩ = some (.int .i64 c.d) ∧ w.cell? ⟨b, o + j * 7 + 5, none⟩ = some (.int .i64 c.p) ∧ w.cell? ⟨b, o + j * 7 + 6, none⟩ = some (.int .i64 c.q) :=
 ⟨h j c hc 0 _ rfl, h j c hc 1 _ rfl, h j c hc 2 _ rfl, h j c hc 3 _ rfl, h j c hc 4 _ rfl, h j c hc 5 _ rfl, h j c hc 6 _ rfl⟩
theorem ok_next {cs : List C7} {k : Nat} {c : C7} (h : (cs.take k).all C7.ok = true) (hc : cs[k]? = some c) (h2 : c.ok = true) : (cs.take (k + 1)).all C7.ok = true := by
 rw [List.take_add_one, hc]; simp only [Option.toList_some, List.all_append, h, List.all_cons, h2, List.all_nil]; rfl
theorem ok_no {cs : List C7} {k : Nat} {c : C7} (hc : cs[k]? = some c) (h2 : c.ok = false) : cs.all C7.ok = false := by
 rw [List.all_eq_false]
 exact ⟨c, List.mem_of_getElem? hc, by simp [h2]⟩
set_option maxHeartbeats 600000 in
set_option maxRecDepth 100000 in
theorem cRight (b o cap : Nat) (a : Option Addr) (cs : List C7) (ha : 0 < cs.length → a = some ⟨b, o, none⟩) (hl : cs.length ≤ 100000) (w : World) (h : CmsAt w b o cs) (hb : 0 < cs.length → b < w.heap.size) : Calls Tryz.prog 62 #[.slice a cs.length cap] w fun e w' => e = .returned (.bool (cs.all C7.ok)) ∧ Below w.heap.size w w' := by
 go_enter Tryz.func62, Tryz.ntmps62
 go_wp2
 go_loopw [7] (fun i wr => ∃ k : Nat, k ≤ cs.length ∧ i = .int .i64 k ∧ Hid ((cs.take k).all C7.ok = true) ∧ Below w.heap.size w wr) (fun i _ => cs.length - (intOf i).toNat)
 case atStart => exact ⟨0, Nat.zero_le _, rfl, rfl, Below.refl _ _⟩
 case round =>
  obtain ⟨k, hk, rfl, hak, hB⟩ := hrel
  by_cases hlt : k < cs.length
  · obtain rfl := ha (by omega)
    obtain ⟨c, hc⟩ : ∃ c, cs[k]? = some c := ⟨cs[k], List.getElem?_eq_getElem hlt⟩
    have hbw := hb (by omega)
    obtain ⟨c0, c1, c2, c3, c4, c5, c6⟩ := (h.on hB hbw).at hc
    have HC := hid hc
    clear hc
    rcases hm : c.ok with _ | _
    · have hM := fun W => cMayBe c.i c.k c.s c.t c.d c.p c.q W
      rw [show oneB c.i c.k c.s c.t c.d c.p c.q = false from hm] at hM
      have HM := hid hm
      clear hm
      go_wp2_with (go_at_call 89; refine (hM _).mono ?_; rintro e w1 ⟨rfl, hb1⟩)
      go_ret
      exact ⟨ret_bool (ok_no HC.out HM.out).symm, (hB.alloc hB.size _).trans (hb1.mono (by have := hB.size; simp; omega))⟩
    · have hM := fun W => cMayBe c.i c.k c.s c.t c.d c.p c.q W
      rw [show oneB c.i c.k c.s c.t c.d c.p c.q = true from hm] at hM
      have HM := hid hm
      clear hm
      go_wp2_with (go_at_call 89; refine (hM _).mono ?_; rintro e w1 ⟨rfl, hb1⟩)
      go_roundw
      case rel => exact ⟨k + 1, by omega, by go_num, ok_next hak.out HC.out HM.out, (hB.alloc hB.size _).trans (hb1.mono (by have := hB.size; simp; omega))⟩
      case measure => simp [intOf]; omega
  · have HE : Hid (cs.all C7.ok = true) := by
     have := hak.out
     rw [List.take_of_length_le (by omega)] at this
     exact this
    go_wp2
    go_ret
    exact ⟨ret_bool HE.out.symm, hB⟩
set_option maxHeartbeats 600000 in
set_option maxRecDepth 100000 in
theorem rRights (b o cap : Nat) (a : Option Addr) (cs : List C7) (ha : 0 < cs.length → a = some ⟨b, o, none⟩) (hl : cs.length ≤ 100000) (w : World) (h : CmsAt w b o cs) (hb : 0 < cs.length → b < w.heap.size) : Calls Tryz.prog 83 #[.slice a cs.length cap] w fun e w' => e = .returned (.bool (cs.all C7.ok)) ∧ Below w.heap.size w w' := by
 go_enter Tryz.func83, Tryz.ntmps83
 go_wp2
 go_loopw [3] (fun i wr => ∃ k : Nat, k ≤ cs.length ∧ i = .int .i64 k ∧ Hid ((cs.take k).all C7.ok = true) ∧ Below w.heap.size w wr) (fun i _ => cs.length - (intOf i).toNat)
 case atStart => exact ⟨0, Nat.zero_le _, rfl, rfl, Below.refl _ _⟩
 case round =>
  obtain ⟨k, hk, rfl, hak, hB⟩ := hrel
  by_cases hlt : k < cs.length
  · obtain rfl := ha (by omega)
    obtain ⟨c, hc⟩ : ∃ c, cs[k]? = some c := ⟨cs[k], List.getElem?_eq_getElem hlt⟩
    have hbw := hb (by omega)
    obtain ⟨c0, c1, c2, c3, c4, c5, c6⟩ := (h.on hB hbw).at hc
    have HC := hid hc
    clear hc
    rcases hm : c.ok with _ | _
    · have hM := fun W => rOne c.i c.k c.s c.t c.d c.p c.q W
      rw [show oneB c.i c.k c.s c.t c.d c.p c.q = false from hm] at hM
      have HM := hid hm
      clear hm
      go_wp2_with (go_at_call 42; refine (hM _).mono ?_; rintro e w1 ⟨rfl, hb1⟩)
      go_ret
      exact ⟨ret_bool (ok_no HC.out HM.out).symm, hB.trans (hb1.mono hB.size)⟩
    · have hM := fun W => rOne c.i c.k c.s c.t c.d c.p c.q W
      rw [show oneB c.i c.k c.s c.t c.d c.p c.q = true from hm] at hM
      have HM := hid hm
      clear hm
      go_wp2_with (go_at_call 42; refine (hM _).mono ?_; rintro e w1 ⟨rfl, hb1⟩)
      go_roundw
      case rel => exact ⟨k + 1, by omega, by go_num, ok_next hak.out HC.out HM.out, hB.trans (hb1.mono hB.size)⟩
      case measure => simp [intOf]; omega
  · have HE : Hid (cs.all C7.ok = true) := by
     have := hak.out
     rw [List.take_of_length_le (by omega)] at this
     exact this
    go_wp2
    go_ret
    exact ⟨ret_bool HE.out.symm, hB⟩
end Go.Proofs.YtplodoindppleaaGreat
namespace Go.Proofs.YtplodoindppleaaGreat
def C7.same (a b : C7) : Bool := a.i == b.i && a.k == b.k && a.s == b.s && a.t == b.t && a.d == b.d && a.p == b.p && a.q == b.q
theorem C7.same_iff {a b : C7} : a.same b = true ↔ a = b := by
 obtain ⟨a1, a2, a3, a4, a5, a6, a7⟩ := a
 obtain ⟨b1, b2, b3, b4, b5, b6, b7⟩ := b
 unfold C7.same
 simp [and_assoc]
theorem C7.same_no {a b : C7} : a.same b = false ↔ a ≠ b := by
 rw [Ne, ← C7.same_iff]; simp
instance instDecC7 : DecidableEq C7 := fun a b => decidable_of_iff (a.same b = true) C7.same_iff
instance instInhC7 : Inhabited C7 := ⟨⟨0, 0, 0, 0, 0, 0, 0⟩⟩
abbrev Rises (l : List C7) : Prop := l.Pairwise fun a b => a.i < b.i
theorem Rises.at {l : List C7} (h : Rises l) {a b : Nat} (hab : a < b) {x y : C7} (hx : l[a]? = some x) (hy : l[b]? = some y) : x.i < y.i := by
 obtain ⟨h1, rfl⟩ := List.getElem?_eq_some_iff.1 hx
 obtain ⟨h2, rfl⟩ := List.getElem?_eq_some_iff.1 hy
 exact List.pairwise_iff_getElem.1 h a b h1 h2 hab
theorem Rises.inj {l : List C7} (h : Rises l) {x y : C7} (hx : x ∈ l) (hy : y ∈ l) (hi : x.i = y.i) : x = y := by
 obtain ⟨a, ha⟩ := List.getElem?_of_mem hx
 obtain ⟨b, hb⟩ := List.getElem?_of_mem hy
 rcases Nat.lt_trichotomy a b with hab | hab | hab
 · have := h.at hab ha hb; omega
 · subst hab; rw [ha] at hb; exact Option.some.inj hb
 · have := h.at hab hb ha; omega
theorem Rises.one : ∀ {l m : List C7}, Rises l → Rises m → (∀ x, x ∈ l ↔ x ∈ m) → l = m
 | [], [], _, _, _ => rfl
 | [], y :: m, _, _, h => absurd ((h y).2 (List.mem_cons_self ..)) (by simp)
 | x :: l, [], _, _, h => absurd ((h x).1 (List.mem_cons_self ..)) (by simp)
 | x :: l, y :: m, hl, hm, h => by
  have hx := (h x).1 (List.mem_cons_self ..)
  have hy := (h y).2 (List.mem_cons_self ..)
  obtain ⟨hl1, hl2⟩ := List.pairwise_cons.1 hl
  obtain ⟨hm1, hm2⟩ := List.pairwise_cons.1 hm
  have hxy : x = y := by
   rcases List.mem_cons.1 hx with e | e
   · exact e
   · rcases List.mem_cons.1 hy with e' | e'
     · exact e'.symm
     · have := hm1 _ e; have := hl1 _ e'; omega
  subst hxy
  congr 1
  refine Rises.one hl2 hm2 fun z => ⟨fun hz => ?_, fun hz => ?_⟩
  · rcases List.mem_cons.1 ((h z).1 (List.mem_cons_of_mem _ hz)) with e | e
    · subst e; have := hl1 _ hz; omega
    · exact e
  · rcases List.mem_cons.1 ((h z).2 (List.mem_cons_of_mem _ hz)) with e | e
    · subst e; have := hm1 _ hz; omega
    · exact e
def placeI (l : List C7) (id : Int) : Option Nat := l.findIdx? fun c => c.i == id
theorem placeI_some {l : List C7} {id : Int} {k : Nat} (h : placeI l id = some k) : k < l.length ∧ ∃ c, l[k]? = some c ∧ c.i = id := by
 obtain ⟨hk, hp, _⟩ := List.findIdx?_eq_some_iff_getElem.1 h
 exact ⟨hk, l[k], List.getElem?_eq_getElem hk, by simpa using hp⟩
theorem placeI_none {l : List C7} {id : Int} (h : placeI l id = none) : ∀ c ∈ l, c.i ≠ id := by
 have := List.findIdx?_eq_none_iff.1 h
 intro c hc; simpa using this c hc
def putL (l : List C7) (c : C7) : List C7 := if (placeI l c.i).isSome then l else l.takeWhile (fun x => decide (x.i ≤ c.i)) ++ c :: l.dropWhile (fun x => decide (x.i ≤ c.i))
theorem putL_has {l : List C7} {c : C7} (h : (placeI l c.i).isSome = true) : putL l c = l := by unfold putL; rw [if_pos h]
theorem putL_mem {l : List C7} {c : C7} (h : placeI l c.i = none) (x : C7) : x ∈ putL l c ↔ x ∈ l ∨ x = c := by
 unfold putL; rw [h, if_neg (by simp)]
 have e : l.takeWhile (fun x => decide (x.i ≤ c.i)) ++ l.dropWhile (fun x => decide (x.i ≤ c.i)) = l := List.takeWhile_append_dropWhile
 constructor
 · intro hx
   rcases List.mem_append.1 hx with hx | hx
   · exact .inl (e ▸ List.mem_append_left _ hx)
   · rcases List.mem_cons.1 hx with hx | hx
     · exact .inr hx
     · exact .inl (e ▸ List.mem_append_right _ hx)
 · rintro (hx | rfl)
   · rw [← e] at hx
     rcases List.mem_append.1 hx with hx | hx
     · exact List.mem_append_left _ hx
     · exact List.mem_append_right _ (List.mem_cons_of_mem _ hx)
   · exact List.mem_append_right _ (List.mem_cons_self ..)
theorem dropWhile_gt {l : List C7} (h : Rises l) (n : Int) : ∀ x ∈ l.dropWhile (fun x => decide (x.i ≤ n)), n < x.i := by
 induction l with
 | nil => intro x hx; simp at hx
 | cons a l ih =>
  obtain ⟨h1, h2⟩ := List.pairwise_cons.1 h
  intro x hx
  rw [List.dropWhile_cons] at hx
  split at hx
  · exact ih h2 x hx
  · rename_i ha
    have ha' : n < a.i := by simpa using ha
    rcases List.mem_cons.1 hx with rfl | hx
    · exact ha'
    · have := h1 _ hx; omega
theorem takeWhile_le {l : List C7} {n : Int} : ∀ x ∈ l.takeWhile (fun x => decide (x.i ≤ n)), x.i ≤ n := by
 induction l with
 | nil => intro x hx; simp at hx
 | cons a l ih =>
  intro x hx
  rw [List.takeWhile_cons] at hx
  split at hx
  · rename_i ha
    rcases List.mem_cons.1 hx with rfl | hx
    · simpa using ha
    · exact ih x hx
  · simp at hx
theorem Rises.putL {l : List C7} (h : Rises l) (c : C7) : Rises (putL l c) := by
 unfold Go.Proofs.YtplodoindppleaaGreat.putL
 split
 · exact h
 · rename_i hn
   have hn' : placeI l c.i = none := by simpa using hn
   have e : l.takeWhile (fun x => decide (x.i ≤ c.i)) ++ l.dropWhile (fun x => decide (x.i ≤ c.i)) = l := List.takeWhile_append_dropWhile
   have h' : Rises (l.takeWhile (fun x => decide (x.i ≤ c.i)) ++ l.dropWhile (fun x => decide (x.i ≤ c.i))) := by rw [e]; exact h
   obtain ⟨p1, p2, p3⟩ := List.pairwise_append.1 h'
   have lt : ∀ x ∈ l.takeWhile (fun x => decide (x.i ≤ c.i)), x.i < c.i := fun x hx => by
    have h1 := takeWhile_le x hx
    have h2 := placeI_none hn' x (e ▸ List.mem_append_left _ hx)
    omega
   have gt := dropWhile_gt h c.i
   refine List.pairwise_append.2 ⟨p1, List.pairwise_cons.2 ⟨gt, p2⟩, fun x hx y hy => ?_⟩
   rcases List.mem_cons.1 hy with rfl | hy
   · exact lt x hx
   · exact p3 x hx y hy
def Clash (cs : List C7) : Prop := ∃ x ∈ cs, ∃ y ∈ cs, x.i = y.i ∧ x ≠ y
def clashB (cs : List C7) : Bool := cs.any fun x => cs.any fun y => x.i == y.i && !x.same y
theorem clash_iff {cs : List C7} : clashB cs = true ↔ Clash cs := by
 unfold clashB Clash
 simp only [List.any_eq_true, Bool.and_eq_true, beq_iff_eq, Bool.not_eq_true', C7.same_no]
theorem no_clash {cs : List C7} : clashB cs = false ↔ ∀ x ∈ cs, ∀ y ∈ cs, x.i = y.i → x = y := by
 rw [← Bool.not_eq_true, clash_iff]
 unfold Clash
 constructor
 · intro h x hx y hy hi
   by_cases he : x = y
   · exact he
   · exact absurd ⟨x, hx, y, hy, hi, he⟩ h
 · rintro h ⟨x, hx, y, hy, hi, hn⟩
   exact hn (h x hx y hy hi)
def setL (cs : List C7) : List C7 := cs.foldl putL []
theorem setL_snoc (cs : List C7) (c : C7) : setL (cs ++ [c]) = putL (setL cs) c := by simp [setL, List.foldl_append]
theorem snoc_cases {P : List C7 → Prop} (h0 : P []) (h1 : ∀ cs c, P cs → P (cs ++ [c])) : ∀ cs, P cs := fun cs => by
 have : ∀ l : List C7, P l.reverse := fun l => by
  induction l with
  | nil => exact h0
  | cons a l ih => rw [List.reverse_cons]; exact h1 _ _ ih
 have h := this cs.reverse
 rwa [List.reverse_reverse] at h
theorem setL_rises (cs : List C7) : Rises (setL cs) := by
 refine snoc_cases (P := fun cs => Rises (setL cs)) (by simp [setL]) (fun cs c ih => ?_) cs
 rw [setL_snoc]; exact ih.putL c
theorem setL_mem {cs : List C7} (h : clashB cs = false) : ∀ x, x ∈ setL cs ↔ x ∈ cs := by
 have := no_clash.1 h
 revert this
 refine snoc_cases (P := fun cs => (∀ x ∈ cs, ∀ y ∈ cs, x.i = y.i → x = y) → ∀ x, x ∈ setL cs ↔ x ∈ cs) (by simp [setL]) (fun cs c ih h z => ?_) cs
 have ih' := ih fun x hx y hy => h x (List.mem_append_left _ hx) y (List.mem_append_left _ hy)
 rw [setL_snoc]
 rcases hp : placeI (setL cs) c.i with _ | k
 · rw [putL_mem hp, ih', List.mem_append, List.mem_singleton]
 · obtain ⟨_, d, hd, hi⟩ := placeI_some hp
   have hdm : d ∈ cs := (ih' d).1 (List.mem_of_getElem? hd)
   have hdc : d = c := h d (List.mem_append_left _ hdm) c (List.mem_append_right _ (List.mem_cons_self ..)) hi
   rw [putL_has (by simp [hp]), ih', List.mem_append, List.mem_singleton]
   exact ⟨.inl, fun hz => hz.elim id fun e => e ▸ hdc ▸ hdm⟩
def ofE (cs : List C7) : Int := if cs.all C7.ok = true then (if clashB cs = true then 6 else 0) else 1
def ofL (cs : List C7) : List C7 := if cs.all C7.ok = true then (if clashB cs = true then [] else setL cs) else []
theorem of_bad {cs : List C7} (h : cs.all C7.ok = false) : ofE cs = 1 ∧ ofL cs = [] := by unfold ofE ofL; simp [h]
theorem of_clash {cs : List C7} (h : cs.all C7.ok = true) (hc : clashB cs = true) : ofE cs = 6 ∧ ofL cs = [] := by unfold ofE ofL; simp [h, hc]
theorem of_fine {cs : List C7} (h : cs.all C7.ok = true) (hc : clashB cs = false) : ofE cs = 0 ∧ ofL cs = setL cs := by unfold ofE ofL; simp [h, hc]
theorem take_snoc {cs : List C7} {k : Nat} {c : C7} (hc : cs[k]? = some c) : cs.take (k + 1) = cs.take k ++ [c] := by
 rw [List.take_add_one, hc]; rfl
abbrev Sorted7 (s : List C7) : Prop := s.Pairwise fun a b => a.i ≤ b.i
structure Upto (s : List C7) (k : Nat) (set : List C7) : Prop where
 rises : Rises set
 mem : ∀ x, x ∈ set ↔ x ∈ s.take k
 len : set.length ≤ k
 last : set[set.length - 1]? = (s.take k)[k - 1]?
theorem Upto.start (s : List C7) : Upto s 0 [] := ⟨List.Pairwise.nil, by simp, by simp, by simp⟩
theorem Upto.below {s : List C7} {k : Nat} {set : List C7} (h : Upto s k set) (hs : Sorted7 s) {c : C7} (hc : s[k]? = some c) : ∀ x ∈ set, x.i ≤ c.i := fun x hx => by
 obtain ⟨j, hj⟩ := List.getElem?_of_mem ((h.mem x).1 hx)
 obtain ⟨hjl, rfl⟩ := List.getElem?_eq_some_iff.1 hj
 obtain ⟨hk, rfl⟩ := List.getElem?_eq_some_iff.1 hc
 simp at hjl
 rw [List.getElem_take]
 exact List.pairwise_iff_getElem.1 hs j k (by omega) hk (by omega)
theorem Upto.lastLe {s : List C7} {k : Nat} {set : List C7} (h : Upto s k set) {d : C7} (hd : set[set.length - 1]? = some d) : ∀ x ∈ set, x.i ≤ d.i := fun x hx => by
 obtain ⟨j, hj⟩ := List.getElem?_of_mem hx
 have hjl := (List.getElem?_eq_some_iff.1 hj).1
 by_cases e : j = set.length - 1
 · subst e; rw [hj] at hd; rw [Option.some.inj hd]; omega
 · have := h.rises.at (show j < set.length - 1 by omega) hj hd; omega
theorem Upto.add {s : List C7} {k : Nat} {set : List C7} (h : Upto s k set) (hs : Sorted7 s) {c : C7} (hc : s[k]? = some c) (hn : ∀ d, set[set.length - 1]? = some d → d.i ≠ c.i) : Upto s (k + 1) (set ++ [c]) := by
 have lt : ∀ x ∈ set, x.i < c.i := fun x hx => by
  have h1 := h.below hs hc x hx
  have hl : 0 < set.length := List.length_pos_of_mem hx
  have hd : set[set.length - 1]? = some set[set.length - 1] := List.getElem?_eq_getElem (by omega)
  have h2 := h.lastLe hd x hx
  have h3 := h.below hs hc _ (List.mem_of_getElem? hd)
  have h4 := hn _ hd
  omega
 refine ⟨List.pairwise_append.2 ⟨h.rises, List.pairwise_singleton .., fun x hx y hy => by rw [List.mem_singleton] at hy; subst hy; exact lt x hx⟩, fun x => ?_, by have := h.len; simp; omega, ?_⟩
 · rw [take_snoc hc, List.mem_append, List.mem_append, h.mem]
 · have hk := (List.getElem?_eq_some_iff.1 hc).1
   rw [take_snoc hc]
   simp [Nat.min_eq_left (Nat.le_of_lt hk)]
theorem Upto.stay {s : List C7} {k : Nat} {set : List C7} (h : Upto s k set) {c : C7} (hc : s[k]? = some c) (hd : set[set.length - 1]? = some c) : Upto s (k + 1) set := by
 refine ⟨h.rises, fun x => ?_, by have := h.len; omega, ?_⟩
 · rw [take_snoc hc, List.mem_append, ← h.mem, List.mem_singleton]
   exact ⟨.inl, fun hx => hx.elim id fun e => e ▸ List.mem_of_getElem? hd⟩
 · have hk := (List.getElem?_eq_some_iff.1 hc).1
   rw [hd, take_snoc hc]
   simp [Nat.min_eq_left (Nat.le_of_lt hk)]
theorem Upto.no {s : List C7} {k : Nat} {set : List C7} (h : Upto s k set) {c d : C7} (hc : s[k]? = some c) (hd : set[set.length - 1]? = some d) (hi : d.i = c.i) (hne : d.same c = false) : clashB s = true :=
 clash_iff.2 ⟨d, List.mem_of_mem_take ((h.mem d).1 (List.mem_of_getElem? hd)), c, List.mem_of_getElem? hc, hi, C7.same_no.1 hne⟩
theorem Upto.whole {s : List C7} {set : List C7} (h : Upto s s.length set) : clashB s = false ∧ set = setL s := by
 have hm : ∀ x, x ∈ set ↔ x ∈ s := fun x => by rw [h.mem, List.take_length]
 have hn : clashB s = false := no_clash.2 fun x hx y hy hi => h.rises.inj ((hm x).2 hx) ((hm y).2 hy) hi
 exact ⟨hn, h.rises.one (setL_rises s) fun x => by rw [hm, setL_mem hn]⟩
theorem clash_perm {a b : List C7} (h : ∀ x, x ∈ a ↔ x ∈ b) : clashB a = clashB b := by
 rw [Bool.eq_iff_iff, clash_iff, clash_iff]
 unfold Clash
 simp only [h]
theorem ok_perm {a b : List C7} (h : ∀ x, x ∈ a ↔ x ∈ b) : a.all C7.ok = b.all C7.ok := by
 rw [Bool.eq_iff_iff, List.all_eq_true, List.all_eq_true]
 simp only [h]
theorem set_perm {a b : List C7} (h : ∀ x, x ∈ a ↔ x ∈ b) (hn : clashB a = false) : setL a = setL b :=
 (setL_rises a).one (setL_rises b) fun x => by rw [setL_mem hn, setL_mem (clash_perm h ▸ hn), h]
theorem of_perm {a b : List C7} (h : ∀ x, x ∈ a ↔ x ∈ b) : ofE a = ofE b ∧ ofL a = ofL b := by
 unfold ofE ofL
 rw [ok_perm h, clash_perm h]
 refine ⟨rfl, ?_⟩
 split
 · split
   · rfl
   · rename_i hn
     exact set_perm h (by rw [clash_perm h]; simpa using hn)
 · rfl
theorem Upto.fine {s cs : List C7} {set : List C7} (h : Upto s s.length set) (hp : ∀ x, x ∈ s ↔ x ∈ cs) (hok : cs.all C7.ok = true) : ofE cs = 0 ∧ ofL cs = set := by
 obtain ⟨h1, h2⟩ := h.whole
 have := of_fine (cs := s) (by rw [ok_perm hp]; exact hok) h1
 rw [← (of_perm hp).1, ← (of_perm hp).2, h2]
 exact this
def RiseTo (l : List C7) (k : Nat) : Prop := ∀ j, 1 ≤ j → j < k → ∀ x y, l[j - 1]? = some x → l[j]? = some y → x.i < y.i
theorem RiseTo.lt {l : List C7} : ∀ (b a : Nat), RiseTo l l.length → a < b → ∀ x y, l[a]? = some x → l[b]? = some y → x.i < y.i
 | 0, a, _, hab, _, _, _, _ => absurd hab (by omega)
 | b + 1, a, h, hab, x, y, hx, hy => by
  have hb := (List.getElem?_eq_some_iff.1 hy).1
  have hz : l[b]? = some l[b] := List.getElem?_eq_getElem (by omega)
  have h1 := h (b + 1) (by omega) hb _ _ hz hy
  by_cases e : a = b
  · subst e; rw [hx] at hz; rw [Option.some.inj hz]; exact h1
  · have := RiseTo.lt b a h (by omega) x _ hx hz; omega
theorem RiseTo.rises {l : List C7} (h : RiseTo l l.length) : Rises l :=
 List.pairwise_iff_getElem.2 fun a b ha hb hab => RiseTo.lt b a h hab _ _ (List.getElem?_eq_getElem ha) (List.getElem?_eq_getElem hb)
def risesB (l : List C7) : Bool := decide (Rises l)
theorem RiseTo.yes {l : List C7} (h : RiseTo l l.length) : risesB l = true := decide_eq_true h.rises
theorem rises_no {l : List C7} {k : Nat} {x y : C7} (hx : l[k - 1]? = some x) (hy : l[k]? = some y) (hk : 1 ≤ k) (h : y.i ≤ x.i) : risesB l = false :=
 decide_eq_false fun hr => by have := hr.at (show k - 1 < k by omega) hx hy; omega
def setB (l : List C7) : Bool := decide (l.length ≤ 1024) && l.all C7.ok && risesB l
end Go.Proofs.YtplodoindppleaaGreat
namespace Go.Proofs.YtplodoindppleaaGreat
def oneN (n : Nat) : List UInt8 :=
 if h : n < 128 then [UInt8.ofNat n] else UInt8.ofNat (n % 128 + 128) :: oneN (n / 128)
termination_by n
decreasing_by omega
abbrev St := List UInt8 × Int
end Go.Proofs.YtplodoindppleaaGreat
namespace Go.Proofs.YtplodoindppleaaGreat
def C7.bytes (c : C7) : List UInt8 := oneN c.i.toNat ++ (oneN c.k.toNat ++ (oneN c.s.toNat ++ (oneN c.t.toNat ++ (oneN c.d.toNat ++ (oneN c.p.toNat ++ oneN c.q.toNat)))))
end Go.Proofs.YtplodoindppleaaGreat

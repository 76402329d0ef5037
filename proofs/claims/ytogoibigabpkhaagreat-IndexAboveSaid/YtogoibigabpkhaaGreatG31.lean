import Derived.Test.YtogoibigabpkhaaGreatG07
import Derived.Test.YtogoibigabpkhaaGreatG30
import Derived.Test.YtogoibigabpkhaaGreatG04
import Derived.Deep.QuietTactic
import Derived.BigQuiet
/- The document's put: a command more, at its place. -/

namespace Go.Proofs.YtogoibigabpkhaaGreat
set_option linter.unusedVariables false
open Go.RowKit
open Go.Lib (hid)

/-- Where the loop stands behind k commands: nothing put, and all of them at most c; or c put at its place m. -/
def PutAt (l : List C7) (c : C7) (k : Nat) (done : Bool) (out : List C7) : Prop :=
  (done = false ∧ out = l.take k ∧ (∀ x ∈ l.take k, x.i ≤ c.i)) ∨
  (done = true ∧ ∃ m, m < k ∧ (∀ x ∈ l.take m, x.i ≤ c.i) ∧ (∃ y, l[m]? = some y ∧ c.i < y.i) ∧ out = l.take m ++ c :: (l.take k).drop m)
theorem PutAt.start (l : List C7) (c : C7) : PutAt l c 0 false [] := .inl ⟨rfl, by simp, by simp⟩
theorem PutAt.stay {l : List C7} {c x : C7} {k : Nat} {out : List C7} (h : PutAt l c k false out) (hx : l[k]? = some x) (hle : x.i ≤ c.i) : PutAt l c (k + 1) false (out ++ [x]) := by
  rcases h with ⟨_, rfl, h3⟩ | ⟨h, _⟩
  · refine .inl ⟨rfl, (take_snoc hx).symm, fun y hy => ?_⟩
    rw [take_snoc hx] at hy
    rcases List.mem_append.1 hy with hy | hy
    · exact h3 y hy
    · rw [List.mem_singleton] at hy; subst hy; exact hle
  · cases h
theorem PutAt.put {l : List C7} {c x : C7} {k : Nat} {out : List C7} (h : PutAt l c k false out) (hx : l[k]? = some x) (hgt : c.i < x.i) : PutAt l c (k + 1) true (out ++ [c] ++ [x]) := by
  have hk := (List.getElem?_eq_some_iff.1 hx).1
  rcases h with ⟨_, rfl, h3⟩ | ⟨h, _⟩
  · refine .inr ⟨rfl, k, by omega, h3, ⟨x, hx, hgt⟩, ?_⟩
    rw [take_snoc hx, List.drop_append_of_le_length (by simp; omega), List.drop_of_length_le (by simp; omega)]
    simp
  · cases h
theorem PutAt.past {l : List C7} {c x : C7} {k : Nat} {out : List C7} (h : PutAt l c k true out) (hx : l[k]? = some x) : PutAt l c (k + 1) true (out ++ [x]) := by
  have hk := (List.getElem?_eq_some_iff.1 hx).1
  rcases h with ⟨h, _⟩ | ⟨_, m, hm, h3, h4, rfl⟩
  · cases h
  · refine .inr ⟨rfl, m, by omega, h3, h4, ?_⟩
    rw [take_snoc hx, List.drop_append_of_le_length (by simp; omega)]
    simp
theorem PutAt.len {l : List C7} {c : C7} {k : Nat} {d : Bool} {out : List C7} (h : PutAt l c k d out) : out.length ≤ k + 1 := by
  rcases h with ⟨_, rfl, _⟩ | ⟨_, m, hm, _, _, rfl⟩
  · simp; omega
  · simp; omega
theorem takeWhile_all {l : List C7} {n : Int} (h : ∀ x ∈ l, x.i ≤ n) : l.takeWhile (fun x => decide (x.i ≤ n)) = l ∧ l.dropWhile (fun x => decide (x.i ≤ n)) = [] := by
  induction l with
  | nil => simp
  | cons a l ih =>
    have := ih fun x hx => h x (List.mem_cons_of_mem _ hx)
    have ha := h a (List.mem_cons_self ..)
    simp [ha, this.1, this.2]
theorem takeWhile_upto {n : Int} : ∀ (m : Nat) (l : List C7), (∀ x ∈ l.take m, x.i ≤ n) → (∃ y, l[m]? = some y ∧ n < y.i) → l.takeWhile (fun x => decide (x.i ≤ n)) = l.take m ∧ l.dropWhile (fun x => decide (x.i ≤ n)) = l.drop m
  | 0, [], _, ⟨y, hy, _⟩ => by simp at hy
  | 0, a :: l, _, ⟨y, hy, hn⟩ => by
    simp at hy; subst hy
    have : ¬ a.i ≤ n := by omega
    simp [this]
  | m + 1, [], _, ⟨y, hy, _⟩ => by simp at hy
  | m + 1, a :: l, h, ⟨y, hy, hn⟩ => by
    have ha := h a (by simp)
    have := takeWhile_upto m l (fun x hx => h x (by simp; exact .inr hx)) ⟨y, by simpa using hy, hn⟩
    simp [ha, this.1, this.2]
theorem PutAt.all {l : List C7} {c : C7} {out : List C7} (hn : placeI l c.i = none) (h : PutAt l c l.length true out) : putL l c = out := by
  unfold putL; rw [hn, if_neg (by simp)]
  rcases h with ⟨h, _⟩ | ⟨_, m, hm, h3, h4, rfl⟩
  · cases h
  · rw [(takeWhile_upto m l h3 h4).1, (takeWhile_upto m l h3 h4).2, List.take_length]
theorem PutAt.none {l : List C7} {c : C7} {out : List C7} (hn : placeI l c.i = none) (h : PutAt l c l.length false out) : putL l c = out ++ [c] := by
  unfold putL; rw [hn, if_neg (by simp)]
  rcases h with ⟨_, rfl, h3⟩ | ⟨h, _⟩
  · rw [List.take_length] at h3
    rw [(takeWhile_all h3).1, (takeWhile_all h3).2, List.take_length]
  · cases h
theorem own_drewN {w : World} {base : Nat} {e : TypeId} {size : Nat} {v : Value} {n : Nat} {xs : List Value} (h : w.ownsRow base e size v n xs) (q : Nat) : (w.drewN q).ownsRow base e size v n xs := h
theorem own_mono {w : World} {B B' : Nat} {e : TypeId} {size : Nat} {v : Value} {n : Nat} {xs : List Value} (h : w.ownsRow B e size v n xs) (hB : B' ≤ B) : w.ownsRow B' e size v n xs := by
  refine ⟨h.1, ?_⟩
  rcases h.2 with h2 | ⟨g, cap, cur, rfl, hb, r⟩
  · exact .inl h2
  · exact .inr ⟨g, cap, cur, rfl, Nat.le_trans hB hb, r⟩
theorem box_below {w wr : World} {xs : Array Value} {T : TypeId} (h : Below (w.heap.size + 1) (w.alloc (.cells xs T)) wr) : (∀ o, wr.cell? ⟨w.heap.size, o, none⟩ = xs[o]?) ∧ w.heap.size + 1 ≤ wr.heap.size ∧ Below w.heap.size w wr := by
  obtain ⟨h1, h2, h3⟩ := box_cells (w := w) (w1 := wr) (xs := xs) (T := T) (by simpa using h)
  exact ⟨h1, h2, h3⟩
theorem take_len (l : List C7) (k : Nat) : (l.take k).length ≤ k := by simp; omega

set_option maxHeartbeats 1600000 in
set_option maxRecDepth 100000 in
theorem rPut_has {v : Value} {l : List C7} {w : World} (h : Sl w v l) (hl : l.length ≤ 100000) (c : C7) {j : Nat} (hp : placeI l c.i = some j) : Calls Tryz.prog 103 #[v, c.v] w fun e w' => ∃ r, e = .returned r ∧ Own w' w.heap.size r l ∧ Below w.heap.size w w' := by
  have H := hid h
  obtain ⟨b, o, cap, a, rfl, ha, hc, hb⟩ := h.open
  clear h
  obtain ⟨i0, hi, hz0, hz1, hz2⟩ := info_parts Tryz.infoC
  have hF := fun W (hB : Below w.heap.size w W) => rFind (H.out.on hB) hl c.i
  rw [placeV_some hp] at hF
  clear hp
  go_enter Tryz.func103, Tryz.ntmps103
  go_wp2_with (go_at_call 86; refine (hF _ ((Below.refl _ w).alloc (Nat.le_refl _) _)).mono ?_; rintro e w' ⟨rfl, rfl⟩)
  go_loopw [5, 6, 7] (fun u dn i wr => ∃ (k : Nat) (out : List C7), k ≤ l.length ∧ i = .int .i64 k ∧ dn = .bool true ∧ Hid (out = l.take k) ∧ Own wr w.heap.size u out ∧ Below w.heap.size w wr) (fun _ _ i _ => l.length - (intOf i).toNat)
  case atStart => exact ⟨0, [], Nat.zero_le _, rfl, rfl, rfl, Own.nil _ _, (Below.refl _ w).alloc (Nat.le_refl _) _⟩
  case round =>
    clear hF
    obtain ⟨k, out, hk, rfl, rfl, hout, hown, hB⟩ := hrel
    have hsz := hB.size
    have htl : out.length ≤ k := by rw [hout.out]; exact take_len l k
    by_cases hlt : k < l.length
    · obtain rfl := ha (by omega)
      obtain ⟨x, hxx⟩ : ∃ x, l[k]? = some x := ⟨l[k], List.getElem?_eq_getElem hlt⟩
      have hbw := hb (by omega)
      obtain ⟨c0, c1, c2, c3, c4, c5, c6⟩ := (hc.on hB hbw).at hxx
      have HC := hid hxx
      have HB := hid hB
      have HO := hid hown
      clear hxx hB
      go_wp2
      go_quiet (fail)
      go_wp2_with (at_builtin; refine wpList_append_own _ rfl _ _ 36 rfl w.heap.size 40 i0 _ 7 56 Tryz.underlying36 hi hz0 hz1 hz2 rfl (by decide) _ _ _ rfl ((own_drewN hown _).alloc _) ⟨wr.heap.size, 0, none⟩ 1 1 x.cells rfl rfl ?c1 ?c2 ?c3 ?c4 ?c5 ?_)
      case c1 => exact new_cell rfl
      case c2 => exact cells_one x
      case c3 => unfold maxLen; omega
      case c4 => omega
      case c5 => simp; omega
      intro v' w1 hown' hgrow _
      have R := Own.grows ((Below.drewN' HB.out _).alloc hsz _) (by simp; omega) (fun k hk => (HO.out.lt k hk).1) hown' hgrow
      clear hown' hgrow hown
      go_wp2
      go_roundw
      case rel => exact ⟨k + 1, _, by omega, by go_num, rfl, hid (by rw [hout.out, take_snoc HC.out]), R.1, R.2⟩
      case measure => simp [intOf]; omega
    · have HR : Hid (out = l) := hid (by rw [hout.out, List.take_of_length_le (by omega)])
      rw [HR.out] at hown
      have HR := hid hown
      clear hown
      go_wp2
      go_ret
      exact ⟨_, rfl, HR.out, hB⟩
set_option maxHeartbeats 1600000 in
set_option maxRecDepth 100000 in
theorem rPut_new {v : Value} {l : List C7} {w : World} (h : Sl w v l) (hl : l.length ≤ 100000) (c : C7) (hp : placeI l c.i = none) : Calls Tryz.prog 103 #[v, c.v] w fun e w' => ∃ r, e = .returned r ∧ Own w' w.heap.size r (putL l c) ∧ Below w.heap.size w w' := by
  have H := hid h
  obtain ⟨b, o, cap, a, rfl, ha, hc, hb⟩ := h.open
  clear h
  obtain ⟨i0, hi, hz0, hz1, hz2⟩ := info_parts Tryz.infoC
  have hF := fun W (hB : Below w.heap.size w W) => rFind (H.out.on hB) hl c.i
  rw [placeV_none hp] at hF
  have HP := hid hp
  clear hp
  go_enter Tryz.func103, Tryz.ntmps103
  go_wp2_with (go_at_call 86; refine (hF _ ((Below.refl _ w).alloc (Nat.le_refl _) _)).mono ?_; rintro e w' ⟨rfl, rfl⟩)
  go_loopw [5, 6, 7] (fun u dn i wr => ∃ (k : Nat) (d : Bool) (out : List C7), k ≤ l.length ∧ i = .int .i64 k ∧ dn = .bool d ∧ Hid (PutAt l c k d out) ∧ Own wr (w.heap.size + 1) u out ∧ Below (w.heap.size + 1) (w.alloc (.cells c.cells.toArray 40)) wr) (fun _ _ i _ => l.length - (intOf i).toNat)
  case atStart => exact ⟨0, false, [], Nat.zero_le _, rfl, rfl, PutAt.start l c, Own.nil _ _, Below.refl _ _⟩
  case round =>
    clear hF
    obtain ⟨k, d, out, hk, rfl, rfl, hat, hown, hB0⟩ := hrel
    obtain ⟨hcell, hsz, hB⟩ := box_below hB0
    have hol := hat.out.len
    have k0 : wr.cell? ⟨w.heap.size, 0, none⟩ = some (.int .i64 c.i) := hcell 0
    have k1 : wr.cell? ⟨w.heap.size, 1, none⟩ = some (.int .i64 c.k) := hcell 1
    have k2 : wr.cell? ⟨w.heap.size, 2, none⟩ = some (.int .i64 c.s) := hcell 2
    have k3 : wr.cell? ⟨w.heap.size, 3, none⟩ = some (.int .i64 c.t) := hcell 3
    have k4 : wr.cell? ⟨w.heap.size, 4, none⟩ = some (.int .i64 c.d) := hcell 4
    have k5 : wr.cell? ⟨w.heap.size, 5, none⟩ = some (.int .i64 c.p) := hcell 5
    have k6 : wr.cell? ⟨w.heap.size, 6, none⟩ = some (.int .i64 c.q) := hcell 6
    clear hcell
    have HB := hid (And.intro hB0 hB)
    have HO := hid hown
    by_cases hlt : k < l.length
    · obtain rfl := ha (by omega)
      obtain ⟨x, hxx⟩ : ∃ x, l[k]? = some x := ⟨l[k], List.getElem?_eq_getElem hlt⟩
      have hbw := hb (by omega)
      obtain ⟨c0, c1, c2, c3, c4, c5, c6⟩ := (hc.on hB hbw).at hxx
      have HC := hid hxx
      clear hxx hB hB0
      rcases d with _ | _
      · by_cases hgt : c.i < x.i
        · have HG := hid hgt
          go_wp2
          go_quiet (fail)
          go_wp2_with (at_builtin; refine wpList_append_own _ rfl _ _ 36 rfl (w.heap.size + 1) 40 i0 _ 7 56 Tryz.underlying36 hi hz0 hz1 hz2 rfl (by decide) _ _ _ rfl ((own_drewN hown _).alloc _) ⟨wr.heap.size, 0, none⟩ 1 1 c.cells rfl rfl ?a1 ?a2 ?a3 ?a4 ?a5 ?_)
          case a1 => exact new_cell (by first | rfl | simp)
          case a2 => exact cells_one c
          case a3 => unfold maxLen; omega
          case a4 => omega
          case a5 => first | omega | (simp; omega)
          intro v1 w1 hown1 hgrow1 _
          have R1 := Own.grows ((Below.drewN' HB.out.1 nq).alloc (by simp; omega) _) (by simp; omega) (fun k hk => (HO.out.lt k hk).1) hown1 hgrow1
          obtain ⟨out1, ho1⟩ : ∃ q, q = out ++ [c] := ⟨_, rfl⟩
          rw [← ho1] at R1
          have hol1 : out1.length ≤ k + 2 := by rw [ho1]; simp; omega
          have HQ := hid ho1
          clear ho1
          obtain ⟨_, hsz1, hB1⟩ := box_below R1.2
          obtain ⟨e0, e1, e2, e3, e4, e5, e6⟩ := (hc.on hB1 hbw).at HC.out
          have hown1 := R1.1
          have HO1 := hid R1
          clear hown hgrow1 R1 hB1 c0 c1 c2 c3 c4 c5 c6 k0 k1 k2 k3 k4 k5 k6
          go_wp2_with (at_builtin; refine wpList_append_own _ rfl _ _ 36 rfl (w.heap.size + 1) 40 i0 _ 7 56 Tryz.underlying36 hi hz0 hz1 hz2 rfl (by decide) _ _ _ rfl (hown1.alloc _) ⟨w1.heap.size, 0, none⟩ 1 1 x.cells rfl rfl ?c1 ?c2 ?c3 ?c4 ?c5 ?_)
          case c1 => exact new_cell (by first | rfl | simp)
          case c2 => exact cells_one x
          case c3 => unfold maxLen; omega
          case c4 => omega
          case c5 => first | omega | (simp; omega)
          intro v2 w2 hown2 hgrow2 _
          have R2 := Own.grows (HO1.out.2.alloc (by omega) _) (by simp; omega) (fun k hk => (HO1.out.1.lt k hk).1) hown2 hgrow2
          clear hown2 hgrow2 hown1
          go_wp2
          go_roundw
          case rel => exact ⟨k + 1, true, _, by omega, by go_num, rfl, hid (HQ.out ▸ hat.out.put HC.out HG.out), R2.1, R2.2⟩
          case measure => simp [intOf]; omega
        · have HG := hid hgt
          go_wp2
          go_quiet (fail)
          go_wp2_with (at_builtin; refine wpList_append_own _ rfl _ _ 36 rfl (w.heap.size + 1) 40 i0 _ 7 56 Tryz.underlying36 hi hz0 hz1 hz2 rfl (by decide) _ _ _ rfl ((own_drewN hown _).alloc _) ⟨wr.heap.size, 0, none⟩ 1 1 x.cells rfl rfl ?b1 ?b2 ?b3 ?b4 ?b5 ?_)
          case b1 => exact new_cell (by first | rfl | simp)
          case b2 => exact cells_one x
          case b3 => unfold maxLen; omega
          case b4 => omega
          case b5 => first | omega | (simp; omega)
          intro v' w1 hown' hgrow _
          have R := Own.grows ((Below.drewN' HB.out.1 nq).alloc (by simp; omega) _) (by simp; omega) (fun k hk => (HO.out.lt k hk).1) hown' hgrow
          clear hown' hgrow hown
          go_wp2
          go_roundw
          case rel => exact ⟨k + 1, false, _, by omega, by go_num, rfl, hid (hat.out.stay HC.out HG.out), R.1, R.2⟩
          case measure => simp [intOf]; omega
      · go_wp2
        go_quiet (fail)
        go_wp2_with (at_builtin; refine wpList_append_own _ rfl _ _ 36 rfl (w.heap.size + 1) 40 i0 _ 7 56 Tryz.underlying36 hi hz0 hz1 hz2 rfl (by decide) _ _ _ rfl ((own_drewN hown _).alloc _) ⟨wr.heap.size, 0, none⟩ 1 1 x.cells rfl rfl ?d1 ?d2 ?d3 ?d4 ?d5 ?_)
        case d1 => exact new_cell (by first | rfl | simp)
        case d2 => exact cells_one x
        case d3 => unfold maxLen; omega
        case d4 => omega
        case d5 => first | omega | (simp; omega)
        intro v' w1 hown' hgrow _
        have R := Own.grows ((Below.drewN' HB.out.1 nq).alloc (by simp; omega) _) (by simp; omega) (fun k hk => (HO.out.lt k hk).1) hown' hgrow
        clear hown' hgrow hown
        go_wp2
        go_roundw
        case rel => exact ⟨k + 1, true, _, by omega, by go_num, rfl, hid (hat.out.past HC.out), R.1, R.2⟩
        case measure => simp [intOf]; omega
    · have hkl : k = l.length := by omega
      rcases d with _ | _
      · have HR : Hid (putL l c = out ++ [c]) := hid (PutAt.none HP.out (hkl ▸ hat.out))
        clear hkl
        go_wp2_with (at_builtin; refine wpList_append_own _ rfl _ _ 36 rfl (w.heap.size + 1) 40 i0 _ 7 56 Tryz.underlying36 hi hz0 hz1 hz2 rfl (by decide) _ _ _ rfl (hown.alloc _) ⟨wr.heap.size, 0, none⟩ 1 1 c.cells rfl rfl ?e1 ?e2 ?e3 ?e4 ?e5 ?_)
        case e1 => exact new_cell (by first | rfl | simp)
        case e2 => exact cells_one c
        case e3 => unfold maxLen; omega
        case e4 => omega
        case e5 => first | omega | (simp; omega)
        intro v' w1 hown' hgrow _
        have R := Own.grows (HB.out.1.alloc (by omega) _) (by simp; omega) (fun k hk => (HO.out.lt k hk).1) hown' hgrow
        clear hown' hgrow hown
        go_wp2
        go_ret
        exact ⟨_, rfl, by rw [HR.out]; exact own_mono R.1 (by omega), (box_below R.2).2.2⟩
      · have HR : Hid (putL l c = out) := hid (PutAt.all HP.out (hkl ▸ hat.out))
        clear hkl
        go_wp2
        go_ret
        exact ⟨_, rfl, by rw [HR.out]; exact own_mono HO.out (by omega), HB.out.2⟩

theorem rPut {v : Value} {l : List C7} {w : World} (h : Sl w v l) (hl : l.length ≤ 100000) (c : C7) : Calls Tryz.prog 103 #[v, c.v] w fun e w' => ∃ r, e = .returned r ∧ Own w' w.heap.size r (putL l c) ∧ Below w.heap.size w w' := by
  rcases hp : placeI l c.i with _ | j
  · exact rPut_new h hl c hp
  · rw [putL_has (by simp [hp])]; exact rPut_has h hl c hp
end Go.Proofs.YtogoibigabpkhaaGreat
/- The document's Of: the set of commands, or the error. -/
namespace Go.Proofs.YtogoibigabpkhaaGreat
set_option linter.unusedVariables false
open Go.RowKit
open Go.Lib (hid)

theorem Sl.drewN {w : World} {v : Value} {cs : List C7} (h : Sl w v cs) (q : Nat) : Sl (w.drewN q) v cs := h
abbrev slE (r : Value) (n : Int) : Value := .tuple #[r, .int .i64 n]
/-- A slice that the call made, with a number for its length. -/
theorem Own.parts {w : World} {B : Nat} {v : Value} {cs : List C7} (h : Own w B v cs) (h0 : 0 < cs.length) : ∃ g cap n, v = .slice (some ⟨g, 0, none⟩) n cap ∧ n = cs.length ∧ B ≤ g ∧ g < w.heap.size ∧
    ∀ j c, cs[j]? = some c → w.cell? ⟨g, j * 7, none⟩ = some (.int .i64 c.i) ∧ w.cell? ⟨g, j * 7 + 1, none⟩ = some (.int .i64 c.k) ∧ w.cell? ⟨g, j * 7 + 2, none⟩ = some (.int .i64 c.s) ∧ w.cell? ⟨g, j * 7 + 3, none⟩ = some (.int .i64 c.t) ∧
    w.cell? ⟨g, j * 7 + 4, none⟩ = some (.int .i64 c.d) ∧ w.cell? ⟨g, j * 7 + 5, none⟩ = some (.int .i64 c.p) ∧ w.cell? ⟨g, j * 7 + 6, none⟩ = some (.int .i64 c.q) := by
  rcases h.shape with ⟨_, rfl⟩ | ⟨g, cap, rfl, hb, hl, hc⟩
  · simp at h0
  · refine ⟨g, cap, _, rfl, rfl, hb, hl, fun j c hj => ?_⟩
    have := hc.at hj
    simp only [Nat.zero_add] at this
    exact this

set_option maxHeartbeats 1600000 in
set_option maxRecDepth 100000 in
theorem rSetOf {v : Value} {cs : List C7} {w : World} (h : Sl w v cs) (hl : cs.length ≤ 1024) : Calls Tryz.prog 75 #[v] w fun e w' => ∃ r, e = .returned (slE r (ofE cs)) ∧ Own w' w.heap.size r (ofL cs) ∧ Below w.heap.size w w' := by
  have hR := rRights' h (by omega)
  obtain ⟨b, o, cap, a, rfl, ha, hc, hb⟩ := h.open
  clear h
  rcases hok : cs.all C7.ok with _ | _
  · rw [hok] at hR
    have HE := hid (of_bad hok)
    clear hok
    go_enter Tryz.func75, Tryz.ntmps75
    go_wp2_with (go_at_call 76; refine hR.mono ?_; rintro e w' ⟨rfl, hB⟩)
    go_ret2
    refine ⟨.slice none 0 0, ?_, ?_, hB⟩
    · rw [HE.out.1]; rfl
    · rw [HE.out.2]; exact Own.nil _ _
  · rw [hok] at hR
    have HK := hid hok
    clear hok
    go_enter Tryz.func75, Tryz.ntmps75
    go_wp2_with (go_at_call 76; refine hR.mono ?_; rintro e w' ⟨rfl, hB'⟩)
    go_loopw [5, 6] (fun u i wr => ∃ (k : Nat) (out : List C7), k ≤ cs.length ∧ i = .int .i64 k ∧ Hid (clashB (cs.take k) = false ∧ out = setL (cs.take k)) ∧ Own wr w.heap.size u out ∧ Below w.heap.size w wr) (fun _ i _ => cs.length - (intOf i).toNat)
    case atStart => exact ⟨0, [], Nat.zero_le _, rfl, ⟨by simp [clashB], by simp [setL]⟩, Own.nil _ _, hB'⟩
    case round =>
      clear hB'
      obtain ⟨k, out, hk, rfl, hat, hown, hB⟩ := hrel
      have hsz := hB.size
      have hol : out.length ≤ k := by rw [hat.out.2]; exact Nat.le_trans (setL_len _) (by simp; omega)
      have HB := hid hB
      have HO := hid hown
      by_cases hlt : k < cs.length
      · obtain rfl := ha (by omega)
        obtain ⟨c, hcc⟩ : ∃ c, cs[k]? = some c := ⟨cs[k], List.getElem?_eq_getElem hlt⟩
        have hbw := hb (by omega)
        obtain ⟨c0, c1, c2, c3, c4, c5, c6⟩ := (hc.on hB hbw).at hcc
        have HC := hid hcc
        have hF := rFind hown.sl (by omega) c.i
        have hP := fun q => rPut (hown.sl.drewN q) (by omega) c
        clear hcc hB
        rcases hp : placeI out c.i with _ | j
        · rw [placeV_none hp] at hF
          have HS := hid (step_fine HC.out hat.out.1 (fun j d h => by rw [← hat.out.2, hp] at h; cases h))
          clear hp hown
          go_wp2_with (go_at_call 86; refine hF.mono ?_; rintro e w' ⟨rfl, rfl⟩)
          go_quiet (fail)
          go_wp2_with (go_at_call 103; refine (hP _).mono ?_; rintro e w1 ⟨r, rfl, hown1, hB1⟩)
          go_roundw
          case rel => exact ⟨k + 1, putL out c, by omega, by go_num, hid ⟨HS.out.1, by rw [HS.out.2, hat.out.2]⟩, own_mono hown1 hsz, (Below.drewN' HB.out _).trans (hB1.mono hsz)⟩
          case measure => simp [intOf]; omega
        · rw [placeV_some hp] at hF
          obtain ⟨hjl, d, hd, hdi⟩ := placeI_some hp
          obtain ⟨g, cap', n, rfl, hn, hgb, hgl, hcells⟩ := hown.parts (by omega)
          obtain ⟨d0, d1, d2, d3, d4, d5, d6⟩ := hcells j d hd
          have hjn : j < n := by omega
          have HH := hid (And.intro hp (And.intro hd (And.intro hdi hn)))
          clear hp hd hdi hn hcells hown
          rcases hs : d.same c with _ | _
          · have hE := neqC hs
            have hG := fun op p q W => guardC op p q d c W
            have HE := hid (of_clash HK.out (step_clash HC.out hat.out.1 (by rw [← hat.out.2]; exact HH.out.2.1) HH.out.2.2.1 hs))
            clear hs
            go_wp2_with (go_at_call 86; refine hF.mono ?_; rintro e w' ⟨rfl, rfl⟩)
            go_quiet (fail)
            go_wp2
            go_ret2
            refine ⟨.slice none 0 0, ?_, ?_, Below.drewN' HB.out _⟩
            · rw [HE.out.1]; rfl
            · rw [HE.out.2]; exact Own.nil _ _
          · have hE := neqC hs
            have hG := fun op p q W => guardC op p q d c W
            have HS := hid (step_fine HC.out hat.out.1 (fun j' d' h h' => by
              rw [← hat.out.2, HH.out.1] at h; cases h
              rw [← hat.out.2, HH.out.2.1] at h'; cases h'
              exact C7.same_iff.1 hs))
            clear hs
            go_wp2_with (go_at_call 86; refine hF.mono ?_; rintro e w' ⟨rfl, rfl⟩)
            go_quiet (fail)
            go_wp2_with (go_at_call 103; refine (hP _).mono ?_; rintro e w1 ⟨r, rfl, hown1, hB1⟩)
            go_roundw
            case rel => exact ⟨k + 1, putL out c, by omega, by go_num, hid ⟨HS.out.1, by rw [HS.out.2, hat.out.2]⟩, own_mono hown1 hsz, (Below.drewN' HB.out _).trans (hB1.mono hsz)⟩
            case measure => simp [intOf]; omega
      · have HE : Hid (ofE cs = 0 ∧ ofL cs = out) := hid (by
          have := hat.out
          rw [List.take_of_length_le (by omega)] at this
          rw [this.2]; exact of_fine HK.out this.1)
        obtain ⟨g, cap', n, rfl, hn⟩ := hown.asSlice
        have hn1 : n ≤ 1024 := by omega
        clear hown hn
        go_wp2
        go_ret2
        refine ⟨.slice g n cap', ?_, ?_, hB⟩
        · rw [HE.out.1]; rfl
        · rw [HE.out.2]; exact HO.out
end Go.Proofs.YtogoibigabpkhaaGreat

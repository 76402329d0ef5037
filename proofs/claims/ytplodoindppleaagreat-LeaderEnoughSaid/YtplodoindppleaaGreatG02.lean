import Derived.Test.YtplodoindppleaaGreatG01
import Derived.Laws.AppendOwn
import Derived.Laws.AppendOwnNone
import Derived.Laws.OwnMore
import Derived.OwnWalk
import Derived.WalkKit
import Derived.Deep.QuietTactic
import Derived.BigQuiet
import Derived.Deep.Light
import Derived.Laws.StructEq
namespace Go.Proofs.YtplodoindppleaaGreat
open Go.RowKit
open Go.Lib (hid)
def flat : List C7 → List Value
 | [] => []
 | c :: cs => c.cells ++ flat cs
theorem flat_len : ∀ cs : List C7, (flat cs).length = cs.length * 7
 | [] => rfl
 | c :: cs => by rw [flat, List.length_append, flat_len cs, List.length_cons]; simp; omega
theorem flat_append : ∀ a b : List C7, flat (a ++ b) = flat a ++ flat b
 | [], b => rfl
 | c :: a, b => by rw [List.cons_append, flat, flat, flat_append a b, List.append_assoc]
theorem flat_single (c : C7) : flat [c] = c.cells := by simp [flat]
theorem flat_one : ∀ (cs : List C7), ∀ u ∈ flat cs, u.oneCell' = true
 | [], u, hu => by simp [flat] at hu
 | c :: cs, u, hu => by
  rw [flat] at hu
  rcases List.mem_append.1 hu with hu | hu
  · simp at hu; rcases hu with rfl | rfl | rfl | rfl | rfl | rfl | rfl <;> rfl
  · exact flat_one cs u hu
theorem flat_at : ∀ (cs : List C7) (j : Nat) (c : C7), cs[j]? = some c → ∀ (f : Nat) v, c.cells[f]? = some v → (flat cs)[j * 7 + f]? = some v
 | [], j, c, h, _, _, _ => by simp at h
 | d :: cs, 0, c, h, f, v, hv => by
  simp at h; subst h
  have hf := (List.getElem?_eq_some_iff.1 hv).1
  rw [flat, Nat.zero_mul, Nat.zero_add, List.getElem?_append_left hf]; exact hv
 | d :: cs, j + 1, c, h, f, v, hv => by
  have := flat_at cs j c (by simpa using h) f v hv
  have h7 : d.cells.length = 7 := rfl
  rw [flat, List.getElem?_append_right (by omega), h7, show (j + 1) * 7 + f - 7 = j * 7 + f by omega]
  exact this
theorem flat_of (cs : List C7) (n : Nat) (v : Value) (h : (flat cs)[n]? = some v) : ∃ c, cs[n / 7]? = some c ∧ c.cells[n % 7]? = some v := by
 have hl := (List.getElem?_eq_some_iff.1 h).1
 rw [flat_len] at hl
 have hc : cs[n / 7]? = some (cs[n / 7]'(by omega)) := List.getElem?_eq_getElem (by omega)
 refine ⟨_, hc, ?_⟩
 have h7 : n % 7 < (cs[n / 7]'(by omega)).cells.length := Nat.mod_lt _ (by decide)
 have hv : (cs[n / 7]'(by omega)).cells[n % 7]? = some ((cs[n / 7]'(by omega)).cells[n % 7]) := List.getElem?_eq_getElem h7
 have := flat_at cs _ _ hc _ _ hv
 rw [show n / 7 * 7 + n % 7 = n by omega, h] at this
 rw [hv]; exact this.symm
abbrev Own (w : World) (B : Nat) (v : Value) (cs : List C7) : Prop := w.ownsRow B 42 7 v cs.length (flat cs)
theorem Own.nil (w : World) (B : Nat) : Own w B (.slice none 0 0) [] := World.ownsRow_nil _ _ _ _
theorem Own.shape {w : World} {B : Nat} {v : Value} {cs : List C7} (h : Own w B v cs) :
 (v = .slice none 0 0 ∧ cs = []) ∨ ∃ g cap, v = .slice (some ⟨g, 0, none⟩) cs.length cap ∧ B ≤ g ∧ g < w.heap.size ∧ CmsAt w g 0 cs := by
 have hl := h.lt
 have hcl := fun g (hg : v.ownBlock = some g) => h.cells hg
 rcases h.2 with ⟨rfl, h0⟩ | ⟨g, cap, cur, rfl, hb, hg, hn, hm, hs, ht⟩
 · exact .inl ⟨rfl, List.length_eq_zero_iff.1 h0⟩
 · refine .inr ⟨g, cap, rfl, hb, (hl g rfl).2, fun j c hc f v hv => ?_⟩
   have := hcl g rfl _ _ (flat_at cs j c hc f v hv)
   rw [show (⟨g, 0, none⟩ : Addr).add (j * 7 + f) = ⟨g, 0 + (j * 7 + f), none⟩ from by unfold Addr.add; split <;> simp_all] at this
   exact this
def Sl (w : World) (v : Value) (cs : List C7) : Prop :=
 ∃ (b o cap : Nat) (a : Option Addr), v = .slice a cs.length cap ∧ (a = none → cap = 0) ∧ (0 < cs.length → a = some ⟨b, o, none⟩) ∧ CmsAt w b o cs ∧ (0 < cs.length → b < w.heap.size)
theorem Own.sl {w : World} {B : Nat} {v : Value} {cs : List C7} (h : Own w B v cs) : Sl w v cs := by
 rcases h.shape with ⟨rfl, rfl⟩ | ⟨g, cap, rfl, hb, hl, hc⟩
 · exact ⟨0, 0, 0, none, rfl, fun _ => rfl, fun h => absurd h (by simp), fun j c hc => by simp at hc, fun h => absurd h (by simp)⟩
 · exact ⟨g, 0, cap, _, rfl, fun h => by simp at h, fun _ => rfl, hc, fun _ => hl⟩
theorem Sl.on {w w' : World} {v : Value} {cs : List C7} (h : Sl w v cs) (hb : Below w.heap.size w w') : Sl w' v cs := by
 obtain ⟨b, o, cap, a, rfl, hn, ha, hc, hl⟩ := h
 refine ⟨b, o, cap, a, rfl, hn, ha, ?_, fun h0 => by have := hl h0; have := hb.size; omega⟩
 intro j c hj
 have h0 : 0 < cs.length := by have := (List.getElem?_eq_some_iff.1 hj).1; omega
 exact hc.on hb (hl h0) j c hj
theorem Sl.src {w : World} {v : Value} {cs : List C7} (h : Sl w v cs) :
 (v = .slice none 0 0 ∧ cs = []) ∨ ∃ ad cap, v = .slice (some ad) cs.length cap ∧ (∀ (j : Nat) u, (flat cs)[j]? = some u → w.cell? (ad.add j) = some u) ∧ (flat cs ≠ [] → ad.block < w.heap.size) := by
 obtain ⟨b, o, cap, a, rfl, hn, ha, hc, hl⟩ := h
 rcases a with _ | ad
 · have h0 : cs.length = 0 := by
    rcases Nat.eq_zero_or_pos cs.length with h | h
    · exact h
    · have := ha h; simp at this
   exact .inl ⟨by rw [hn rfl, h0], List.length_eq_zero_iff.1 h0⟩
 · refine .inr ⟨ad, cap, rfl, fun j u hu => ?_, fun h0 => ?_⟩
   · obtain ⟨c, hj, hv⟩ := flat_of cs j u hu
     have h0 : 0 < cs.length := by have := (List.getElem?_eq_some_iff.1 hj).1; omega
     obtain rfl := Option.some.inj (ha h0)
     have := hc _ _ hj _ _ hv
     rw [show j / 7 * 7 + j % 7 = j by omega] at this
     rw [show (⟨b, o, none⟩ : Addr).add j = ⟨b, o + j, none⟩ from by unfold Addr.add; split <;> simp_all]
     exact this
   · have h0 : 0 < cs.length := by
      rcases cs with _ | _
      · simp [flat] at h0
      · simp
     obtain rfl := Option.some.inj (ha h0)
     exact hl h0
theorem Tryz.infoC : (Tryz.prog.info? 42).map (fun i => (i.zero, i.size, i.bytes)) = some (some (.agg #[.int .i64 0, .int .i64 0, .int .i64 0, .int .i64 0, .int .i64 0, .int .i64 0, .int .i64 0]), 7, 56) := by kernel_rfl
abbrev C7.v (c : C7) : Value := cmV c.i c.k c.s c.t c.d c.p c.q
theorem cRight' {v : Value} {cs : List C7} {w : World} (h : Sl w v cs) (hl : cs.length ≤ 100000) : Calls Tryz.prog 62 #[v] w fun e w' => e = .returned (.bool (cs.all C7.ok)) ∧ Below w.heap.size w w' := by
 obtain ⟨b, o, cap, a, rfl, hn, ha, hc, hb⟩ := h
 exact cRight b o cap a cs ha hl w hc hb
theorem rRights' {v : Value} {cs : List C7} {w : World} (h : Sl w v cs) (hl : cs.length ≤ 100000) : Calls Tryz.prog 83 #[v] w fun e w' => e = .returned (.bool (cs.all C7.ok)) ∧ Below w.heap.size w w' := by
 obtain ⟨b, o, cap, a, rfl, hn, ha, hc, hb⟩ := h
 exact rRights b o cap a cs ha hl w hc hb
end Go.Proofs.YtplodoindppleaaGreat
namespace Go.Proofs.YtplodoindppleaaGreat
set_option linter.unusedVariables false
open Go.RowKit
open Go.Lib (hid)
def octs (l : List UInt8) : List Value := l.map fun b => .int .u8 b.toNat
theorem octs_append (a b : List UInt8) : octs (a ++ b) = octs a ++ octs b := by simp [octs]
abbrev OwnB (w : World) (B : Nat) (v : Value) (l : List UInt8) : Prop := w.ownsRow B 5 1 v l.length (octs l)
theorem OwnB.nil (w : World) (B : Nat) : OwnB w B (.slice none 0 0) [] := World.ownsRow_nil _ _ _ _
theorem OwnB.shape {w : World} {B : Nat} {v : Value} {l : List UInt8} (h : OwnB w B v l) :
 (v = .slice none 0 0 ∧ l = []) ∨ ∃ g cap, v = .slice (some ⟨g, 0, none⟩) l.length cap ∧ B ≤ g ∧ g < w.heap.size ∧ ∀ (j : Nat) b, l[j]? = some b → w.cell? ⟨g, j, none⟩ = some (.int .u8 b.toNat) := by
 have hl := h.lt
 rcases h.2 with ⟨rfl, h0⟩ | ⟨g, cap, cur, rfl, hb, hg, hn, hm, hs, ht⟩
 · exact .inl ⟨rfl, List.length_eq_zero_iff.1 h0⟩
 · refine .inr ⟨g, cap, rfl, hb, (hl g rfl).2, fun j b hj => ?_⟩
   have hj' := (List.getElem?_eq_some_iff.1 hj).1
   rw [h.cellAt j (by omega)]
   simp [octs, hj]
theorem own_monoB {w : World} {B B' : Nat} {e : TypeId} {size : Nat} {v : Value} {n : Nat} {xs : List Value} (h : w.ownsRow B e size v n xs) (hB : B' ≤ B) : w.ownsRow B' e size v n xs := by
 refine ⟨h.1, ?_⟩
 rcases h.2 with h2 | ⟨g, cap, cur, rfl, hb, r⟩
 · exact .inl h2
 · exact .inr ⟨g, cap, cur, rfl, Nat.le_trans hB hb, r⟩
theorem OwnB.lit (w : World) (b : UInt8) : OwnB (w.alloc (.cells #[.int .u8 b.toNat] 5)) w.heap.size (.slice (some ⟨w.heap.size, 0, none⟩) 1 1) [b] :=
 ⟨rfl, .inr ⟨w.heap.size, 1, _, rfl, Nat.le_refl _, heap_alloc_new w _, Nat.le_refl _, by unfold maxLen; omega, rfl, rfl⟩⟩
theorem OwnB.below {w w' : World} {B C : Nat} {v : Value} {l : List UInt8} (h : OwnB w B v l) (hb : Below C w w') (hC : ∀ k, v.ownBlock = some k → k < C) : OwnB w' B v l := by
 refine ⟨h.1, ?_⟩
 rcases h.2 with h2 | ⟨g, cap, cur, rfl, h1, hg, r⟩
 · exact .inl h2
 · exact .inr ⟨g, cap, cur, rfl, h1, by rw [hb.block g (hC g rfl)]; exact hg, r⟩
end Go.Proofs.YtplodoindppleaaGreat
namespace Go.Proofs.YtplodoindppleaaGreat
set_option linter.unusedVariables false
open Go.RowKit
open Go.Lib (hid)
def SlN (w : World) (v : Value) (l : List Int) : Prop :=
 ∃ (b o cap : Nat) (a : Option Addr), v = .slice a l.length cap ∧ (0 < l.length → a = some ⟨b, o, none⟩) ∧ (∀ (j : Nat) x, l[j]? = some x → w.cell? ⟨b, o + j, none⟩ = some (.int .i64 x)) ∧ (0 < l.length → b < w.heap.size)
theorem SlN.on {w w' : World} {v : Value} {l : List Int} (h : SlN w v l) (hb : Below w.heap.size w w') : SlN w' v l := by
 obtain ⟨b, o, cap, a, rfl, ha, hc, hl⟩ := h
 refine ⟨b, o, cap, a, rfl, ha, fun j x hx => ?_, fun h0 => by have := hl h0; have := hb.size; omega⟩
 have h0 : 0 < l.length := by have := (List.getElem?_eq_some_iff.1 hx).1; omega
 rw [hb.cell (p := ⟨b, o + j, none⟩) (hl h0)]
 exact hc j x hx
theorem OwnB.grows {w W0 w1 : World} {B n : Nat} {v v' : Value} {a b : List UInt8} (hB : Below B w W0) (hsz : B ≤ W0.heap.size) (hlt : ∀ k, v.ownBlock = some k → B ≤ k)
 (hown' : w1.ownsRow B 5 1 v' n (octs a ++ octs b)) (hn : n = a.length + b.length) (hg : W0.grownBy w1 v.ownBlock) : OwnB w1 B v' (a ++ b) ∧ Below B w w1 :=
 ⟨by unfold OwnB; rw [octs_append, List.length_append, ← hn]; exact hown', hB.grown hg hsz hlt⟩
theorem OwnB.asSlice {w : World} {B : Nat} {v : Value} {l : List UInt8} (h : OwnB w B v l) : ∃ (g : Option Addr) (cap n : Nat), v = .slice g n cap ∧ n = l.length := by
 rcases h.shape with ⟨e, e'⟩ | ⟨g, cap, e, _⟩
 · exact ⟨none, 0, 0, e, by rw [e']; rfl⟩
 · exact ⟨_, cap, _, e, rfl⟩
def C7.nums (c : C7) : List Int := [c.i, c.k, c.s, c.t, c.d, c.p, c.q]
end Go.Proofs.YtplodoindppleaaGreat
namespace Go.Proofs.YtplodoindppleaaGreat
set_option linter.unusedVariables false
open Go.RowKit
open Go.Lib (hid)
theorem rise_next {cs : List C7} {k : Nat} {x y : C7} (h : RiseTo cs k) (hx : cs[k - 1]? = some x) (hy : cs[k]? = some y) (hlt : x.i < y.i) : RiseTo cs (k + 1) := fun j h1 hj u z hu hz => by
 by_cases e : j = k
 · subst e; rw [hx] at hu; rw [hy] at hz; rw [← Option.some.inj hu, ← Option.some.inj hz]; exact hlt
 · exact h j h1 (by omega) u z hu hz
theorem rise_short {cs : List C7} (h : cs.length ≤ 1) : risesB cs = true := RiseTo.yes fun j h1 hj => by omega
theorem rise_one (cs : List C7) : RiseTo cs 1 := fun j h1 hj => by omega
set_option maxHeartbeats 600000 in
set_option maxRecDepth 100000 in
theorem cSetRight {v : Value} {cs : List C7} {w : World} (h : Sl w v cs) (hl : cs.length ≤ 1024) : Calls Tryz.prog 93 #[v] w fun e w' => e = .returned (.bool (setB cs)) ∧ Below w.heap.size w w' := by
 have hR := cRight' h (by omega)
 obtain ⟨b, o, cap, a, rfl, hn, ha, hc, hb⟩ := h
 rcases hok : cs.all C7.ok with _ | _
 · rw [hok] at hR
   have HS := hid (show setB cs = false from by unfold setB; rw [hok]; simp)
   clear hok
   go_enter Tryz.func93, Tryz.ntmps93
   go_wp2_with (go_at_call 62; refine hR.mono ?_; rintro e w' ⟨rfl, hB⟩)
   go_ret
   exact ⟨ret_bool HS.out.symm, hB⟩
 · rw [hok] at hR
   have HS := hid (show setB cs = risesB cs from by unfold setB; rw [hok, decide_eq_true hl]; simp)
   clear hok
   go_enter Tryz.func93, Tryz.ntmps93
   go_wp2_with (go_at_call 62; refine hR.mono ?_; rintro e w' ⟨rfl, hB'⟩)
   go_loopw [3] (fun i wr => ∃ k : Nat, 1 ≤ k ∧ (k ≤ cs.length ∨ k = 1) ∧ i = .int .i64 k ∧ Hid (RiseTo cs k) ∧ Below w.heap.size w wr) (fun i _ => cs.length - (intOf i).toNat)
   case atStart => exact ⟨1, Nat.le_refl _, .inr rfl, rfl, rise_one _, hB'⟩
   case round =>
    clear hB'
    obtain ⟨k, h1k, hk, rfl, hak, hB⟩ := hrel
    by_cases hlt : k < cs.length
    · obtain rfl := ha (by omega)
      obtain ⟨m, rfl⟩ : ∃ m, k = m + 1 := ⟨k - 1, by omega⟩
      obtain ⟨x, hx⟩ : ∃ x, cs[m]? = some x := ⟨cs[m], List.getElem?_eq_getElem (by omega)⟩
      obtain ⟨y, hy⟩ : ∃ y, cs[m + 1]? = some y := ⟨cs[m + 1], List.getElem?_eq_getElem hlt⟩
      have hbw := hb (by omega)
      have c0 := ((hc.on hB hbw).at hx).1
      have d0 := ((hc.on hB hbw).at hy).1
      have HX := hid (And.intro hx hy)
      have HB := hid hB
      clear hx hy hB
      by_cases hxy : x.i < y.i
      · have HI := hid hxy
        go_wp2
        go_quiet (fail)
        go_wp2
        go_roundw
        case rel => exact ⟨m + 1 + 1, by omega, .inl (by omega), by go_num, rise_next hak.out HX.out.1 HX.out.2 HI.out, Below.drewN' HB.out _⟩
        case measure => simp [intOf]; omega
      · have HI := hid hxy
        go_wp2
        go_quiet (fail)
        go_wp2
        go_ret
        exact ⟨ret_bool (HS.out.trans (rises_no (k := m + 1) HX.out.1 HX.out.2 (by omega) HI.out)).symm, Below.drewN' HB.out _⟩
    · have HE : Hid (risesB cs = true) := by
       rcases hk with hk | hk
       · have : k = cs.length := by omega
         exact RiseTo.yes (this ▸ hak.out)
       · exact rise_short (by omega)
      clear hk
      go_wp2
      go_ret
      exact ⟨ret_bool (HS.out.trans HE.out).symm, hB⟩
set_option maxHeartbeats 600000 in
set_option maxRecDepth 100000 in
theorem rSetRight {v : Value} {cs : List C7} {w : World} (h : Sl w v cs) (hl : cs.length ≤ 1024) : Calls Tryz.prog 49 #[v] w fun e w' => e = .returned (.bool (setB cs)) ∧ Below w.heap.size w w' := by
 have HH := hid h
 obtain ⟨b, o, cap, a, rfl, hn, ha, hc, hb⟩ := h
 go_enter Tryz.func49, Tryz.ntmps49
 go_wp2
 go_loopw [3] (fun i wr => ∃ k : Nat, 1 ≤ k ∧ (k ≤ cs.length ∨ k = 1) ∧ i = .int .i64 k ∧ Hid (RiseTo cs k) ∧ Below w.heap.size w wr) (fun i _ => cs.length - (intOf i).toNat)
 case atStart => exact ⟨1, Nat.le_refl _, .inr rfl, rfl, rise_one _, Below.refl _ _⟩
 case round =>
  obtain ⟨k, h1k, hk, rfl, hak, hB⟩ := hrel
  by_cases hlt : k < cs.length
  · obtain rfl := ha (by omega)
    obtain ⟨m, rfl⟩ : ∃ m, k = m + 1 := ⟨k - 1, by omega⟩
    obtain ⟨x, hx⟩ : ∃ x, cs[m]? = some x := ⟨cs[m], List.getElem?_eq_getElem (by omega)⟩
    obtain ⟨y, hy⟩ : ∃ y, cs[m + 1]? = some y := ⟨cs[m + 1], List.getElem?_eq_getElem hlt⟩
    have hbw := hb (by omega)
    have c0 := ((hc.on hB hbw).at hx).1
    have d0 := ((hc.on hB hbw).at hy).1
    have HX := hid (And.intro hx hy)
    have HB := hid hB
    clear hx hy hB
    by_cases hxy : x.i < y.i
    · have HI := hid hxy
      go_wp2
      go_quiet (fail)
      go_wp2
      go_roundw
      case rel => exact ⟨m + 1 + 1, by omega, .inl (by omega), by go_num, rise_next hak.out HX.out.1 HX.out.2 HI.out, Below.drewN' HB.out _⟩
      case measure => simp [intOf]; omega
    · have HI := hid hxy
      go_wp2
      go_quiet (fail)
      go_wp2
      go_ret
      exact ⟨ret_bool (by unfold setB; rw [rises_no (k := m + 1) HX.out.1 HX.out.2 (by omega) HI.out]; simp), Below.drewN' HB.out _⟩
  · have HE : Hid (risesB cs = true) := by
     rcases hk with hk | hk
     · have : k = cs.length := by omega
       exact RiseTo.yes (this ▸ hak.out)
     · exact rise_short (by omega)
    clear hk
    have hR := rRights' (HH.out.on hB) (by omega)
    rcases hok : cs.all C7.ok with _ | _
    · rw [hok] at hR
      have HS := hid (show setB cs = false from by unfold setB; rw [hok]; simp)
      clear hok
      go_wp2_with (go_at_call 83; refine hR.mono ?_; rintro e w' ⟨rfl, hB'⟩)
      go_ret
      exact ⟨ret_bool HS.out.symm, hB.trans (hB'.mono hB.size)⟩
    · rw [hok] at hR
      have HS := hid (show setB cs = true from by unfold setB; rw [hok, HE.out, decide_eq_true hl]; rfl)
      clear hok
      go_wp2_with (go_at_call 83; refine hR.mono ?_; rintro e w' ⟨rfl, hB'⟩)
      go_ret
      exact ⟨ret_bool (by rw [HS.out]; exact decide_eq_true (by omega)), hB.trans (hB'.mono hB.size)⟩
end Go.Proofs.YtplodoindppleaaGreat
namespace Go.Proofs.YtplodoindppleaaGreat
set_option linter.unusedVariables false
open Go.RowKit
open Go.Lib (hid)
def ints (l : List Int) : List Value := l.map (Value.int .i64)
theorem ints_append (a b : List Int) : ints (a ++ b) = ints a ++ ints b := by simp [ints]
abbrev OwnN (w : World) (B : Nat) (v : Value) (l : List Int) : Prop := w.ownsRow B 3 1 v l.length (ints l)
theorem OwnN.sl {w : World} {B : Nat} {v : Value} {l : List Int} (h : OwnN w B v l) : SlN w v l := by
 have hl := h.lt
 rcases h.2 with ⟨rfl, h0⟩ | ⟨g, cap, cur, rfl, hb, hg, hn, hm, hs, ht⟩
 · obtain rfl := List.length_eq_zero_iff.1 h0
   exact ⟨0, 0, 0, none, rfl, fun h => absurd h (by simp), fun j x hx => by simp at hx, fun h => absurd h (by simp)⟩
 · refine ⟨g, 0, cap, _, rfl, fun _ => rfl, fun j x hx => ?_, fun _ => (hl g rfl).2⟩
   have hj := (List.getElem?_eq_some_iff.1 hx).1
   rw [Nat.zero_add, h.cellAt j (by omega)]
   simp [ints, hx]
theorem own_below {w w' : World} {B C : Nat} {e : TypeId} {size : Nat} {v : Value} {n : Nat} {xs : List Value} (h : w.ownsRow B e size v n xs) (hb : Below C w w') (hC : ∀ k, v.ownBlock = some k → k < C) : w'.ownsRow B e size v n xs := by
 refine ⟨h.1, ?_⟩
 rcases h.2 with h2 | ⟨g, cap, cur, rfl, h1, hg, r⟩
 · exact .inl h2
 · exact .inr ⟨g, cap, cur, rfl, h1, by rw [hb.block g (hC g rfl)]; exact hg, r⟩
theorem OwnN.lit (w : World) (x : Int) : OwnN (w.alloc (.cells #[.int .i64 x] 3)) w.heap.size (.slice (some ⟨w.heap.size, 0, none⟩) 1 1) [x] :=
 ⟨rfl, .inr ⟨w.heap.size, 1, _, rfl, Nat.le_refl _, heap_alloc_new w _, Nat.le_refl _, by unfold maxLen; omega, rfl, rfl⟩⟩
theorem OwnN.asSlice {w : World} {B : Nat} {v : Value} {l : List Int} (h : OwnN w B v l) : ∃ (g : Option Addr) (cap n : Nat), v = .slice g n cap ∧ n = l.length := by
 rcases h.2 with ⟨rfl, h0⟩ | ⟨g, cap, cur, rfl, _⟩
 · exact ⟨none, 0, 0, rfl, h0.symm⟩
 · exact ⟨_, cap, _, rfl, rfl⟩
theorem OwnN.grows {w W0 w1 : World} {B n : Nat} {v v' : Value} {a b : List Int} (hB : Below B w W0) (hsz : B ≤ W0.heap.size) (hlt : ∀ k, v.ownBlock = some k → B ≤ k)
 (hown' : w1.ownsRow B 3 1 v' n (ints a ++ ints b)) (hn : n = a.length + b.length) (hg : W0.grownBy w1 v.ownBlock) : OwnN w1 B v' (a ++ b) ∧ Below B w w1 :=
 ⟨by unfold OwnN; rw [ints_append, List.length_append, ← hn]; exact hown', hB.grown hg hsz hlt⟩
end Go.Proofs.YtplodoindppleaaGreat
namespace Go.Proofs.YtplodoindppleaaGreat
set_option linter.unusedVariables false
open Go.RowKit
open Go.Lib (hid)
theorem OwnB.some {w : World} {B : Nat} {v : Value} {l : List UInt8} (h : OwnB w B v l) (hl : l ≠ []) : ∃ g cap, v = .slice (Option.some ⟨g, 0, none⟩) l.length cap := by
 rcases h.shape with ⟨_, e⟩ | ⟨g, cap, e, _⟩
 · exact absurd e hl
 · exact ⟨g, cap, e⟩
end Go.Proofs.YtplodoindppleaaGreat
namespace Go.Proofs.YtplodoindppleaaGreat
set_option linter.unusedVariables false
open Go.RowKit
open Go.Lib (hid)
def SlB (w : World) (v : Value) (l : List UInt8) : Prop :=
 ∃ (b o cap : Nat) (a : Option Addr), v = .slice a l.length cap ∧ (a = none → cap = 0) ∧ l.length ≤ cap ∧ (0 < l.length → a = some ⟨b, o, none⟩) ∧ (∀ (j : Nat) x, l[j]? = some x → w.cell? ⟨b, o + j, none⟩ = some (.int .u8 x.toNat)) ∧ (0 < l.length → b < w.heap.size)
theorem SlB.nil (w : World) : SlB w (.slice none 0 0) [] := ⟨0, 0, 0, none, rfl, fun _ => rfl, Nat.le_refl _, fun h => absurd h (by simp), fun j x hx => by simp at hx, fun h => absurd h (by simp)⟩
def Rd (T : TypeId) (F : Nat → Prop) (w : World) (p : Nat) (s : St) : Prop :=
 ∃ v, w.heap[p]? = some (.cells #[v, .int .i64 s.2] T (0, 0)) ∧ SlB w v s.1 ∧ (∀ k, v.ownBlock = some k → F k) ∧ ¬ F p
theorem SlB.same {w w' : World} {v : Value} {l : List UInt8} (h : SlB w v l) (hs : w.heap.size ≤ w'.heap.size) (hb : ∀ k, v.ownBlock = some k → k < w.heap.size → w'.heap[k]? = w.heap[k]?) : SlB w' v l := by
 obtain ⟨b, o, cap, a, rfl, hn, hc, ha, hcl, hl⟩ := h
 refine ⟨b, o, cap, a, rfl, hn, hc, ha, fun j x hx => ?_, fun h0 => by have := hl h0; omega⟩
 have h0 : 0 < l.length := by have := (List.getElem?_eq_some_iff.1 hx).1; omega
 obtain rfl := ha h0
 have := hb b rfl (hl h0)
 rw [← hcl j x hx]
 simp only [World.cell?, this]
theorem SlB.on {w w' : World} {v : Value} {l : List UInt8} (h : SlB w v l) (hb : Below w.heap.size w w') : SlB w' v l := h.same hb.size fun k _ hk => hb.block k hk
theorem Rd.lt {T : TypeId} {F : Nat → Prop} {w : World} {p : Nat} {s : St} (h : Rd T F w p s) : p < w.heap.size := by
 obtain ⟨v, hp, _⟩ := h
 exact (Array.getElem?_eq_some_iff.1 hp).1
theorem Rd.out {T : TypeId} {F : Nat → Prop} {w : World} {p : Nat} {s : St} (h : Rd T F w p s) : ¬ F p := by
 obtain ⟨v, hp, _, _, hf⟩ := h
 exact hf
theorem Rd.on {T : TypeId} {F : Nat → Prop} {w w' : World} {p : Nat} {s : St} (h : Rd T F w p s) (hb : Below w.heap.size w w') : Rd T F w' p s := by
 have hl := h.lt
 obtain ⟨v, hp, hs, hF, hf⟩ := h
 exact ⟨v, by rw [hb.block p hl]; exact hp, hs.on hb, hF, hf⟩
theorem Rd.cells {T : TypeId} {F : Nat → Prop} {w : World} {p : Nat} {s : St} (h : Rd T F w p s) : ∃ v, w.heap[p]? = some (.cells #[v, .int .i64 s.2] T (0, 0)) ∧ p < w.heap.size ∧ w.cell? ⟨p, 0, none⟩ = some v ∧ w.cell? ⟨p, 1, none⟩ = some (.int .i64 s.2) ∧ w.frozen? ⟨p, 0, none⟩ = false ∧ w.frozen? ⟨p, 1, none⟩ = false ∧ SlB w v s.1 ∧ (∀ k, v.ownBlock = some k → F k) := by
 obtain ⟨v, hp, hs, hF, hf⟩ := h
 exact ⟨v, hp, (Array.getElem?_eq_some_iff.1 hp).1, by simp [World.cell?, hp], by simp [World.cell?, hp], by simp [World.frozen?, hp], by simp [World.frozen?, hp], hs, hF⟩
theorem grownSet (w : World) (a : Addr) (u : Value) : w.grownBy (w.setCell a u) (some a.block) :=
 ⟨rfl, rfl, rfl, by simp [World.setCell], fun k _ hk => by
  have hne : a.block ≠ k := fun e => hk (by rw [e])
  simp [World.setCell, Array.getElem?_modify, hne]⟩
theorem grownRefl (w : World) (row : Option Nat) : w.grownBy w row := ⟨rfl, rfl, rfl, Nat.le_refl _, fun _ _ _ => rfl⟩
theorem SlB.drop {w : World} {b o cap : Nat} {l : List UInt8} (k : Nat) (hk : k ≤ l.length) (hlen : 0 < l.length) (hc : ∀ (j : Nat) x, l[j]? = some x → w.cell? ⟨b, o + j, none⟩ = some (.int .u8 x.toNat)) (hn : l.length ≤ cap) (hb : b < w.heap.size) :
 SlB w (.slice (some ⟨b, o + k, none⟩) (l.length - k) (cap - k)) (l.drop k) := by
 refine ⟨b, o + k, cap - k, _, by rw [List.length_drop], by simp, by rw [List.length_drop]; omega, fun _ => rfl, fun j x hx => ?_, fun _ => hb⟩
 rw [List.getElem?_drop] at hx
 rw [Nat.add_assoc]; exact hc _ x hx
theorem SlB.nothing {w : World} {a : Option Addr} {n c : Nat} {l : List UInt8} (hl : l.length = 0) (hn : n = 0) (hc : c = 0) : SlB w (.slice a n c) l := by
 subst hn hc
 obtain rfl := List.length_eq_zero_iff.1 hl
 exact ⟨0, 0, 0, a, rfl, fun _ => rfl, Nat.le_refl _, fun h => absurd h (by simp), fun j x hx => by simp at hx, fun h => absurd h (by simp)⟩
theorem SlB.of {w : World} {v v' : Value} {l : List UInt8} (h : SlB w v l) (e : v' = v) : SlB w v' l := e ▸ h
end Go.Proofs.YtplodoindppleaaGreat
namespace Go.Proofs.YtplodoindppleaaGreat
set_option linter.unusedVariables false
open Go.RowKit
open Go.Lib (hid)
end Go.Proofs.YtplodoindppleaaGreat
namespace Go.Proofs.YtplodoindppleaaGreat
set_option linter.unusedVariables false
open Go.RowKit
open Go.Lib (hid)
theorem Rd.alloc {T : TypeId} {F : Nat → Prop} {w : World} {p : Nat} {s : St} (h : Rd T F w p s) (o : Obj) : Rd T F (w.alloc o) p s := h.on ((Below.refl _ w).alloc (Nat.le_refl _) o)
theorem Rd.drewN {T : TypeId} {F : Nat → Prop} {w : World} {p : Nat} {s : St} (h : Rd T F w p s) (n : Nat) : Rd T F (w.drewN n) p s := h.on (Below.drewN' (Below.refl _ w) n)
theorem setAt {w : World} {q j : Nat} {vs : Array Value} {x : Value} {t : TypeId} (h : w.heap[q]? = some (.cells vs t (0, 0))) : (w.setCell ⟨q, j, none⟩ x).heap[q]? = some (.cells (vs.setIfInBounds j x) t (0, 0)) := by
 show (w.heap.modify q _)[q]? = _
 obtain ⟨hlt, hk⟩ := Array.getElem?_eq_some_iff.1 h
 rw [Array.getElem?_eq_getElem (by rw [Array.size_modify]; exact hlt), Array.getElem_modify_self, hk]
 rfl
theorem cellAt' {w : World} {q : Nat} {vs : Array Value} {t : TypeId} (h : w.heap[q]? = some (.cells vs t (0, 0))) (j : Nat) : w.cell? ⟨q, j, none⟩ = vs[j]? := cell_of_row w q j vs t (0, 0) h
theorem frozenAt {w : World} {q : Nat} {vs : Array Value} {t : TypeId} (h : w.heap[q]? = some (.cells vs t (0, 0))) (j : Nat) : w.frozen? ⟨q, j, none⟩ = false := by simp [World.frozen?, h]
theorem OwnN.cell {w : World} {B : Nat} {v : Value} {l : List Int} (h : OwnN w B v l) (h0 : 0 < l.length) : ∃ g cap, v = .slice (some ⟨g, 0, none⟩) l.length cap ∧ B ≤ g ∧ g < w.heap.size ∧ ∀ (j : Nat) x, l[j]? = some x → w.cell? ⟨g, j, none⟩ = some (.int .i64 x) := by
 have hl := h.lt
 rcases h.2 with ⟨rfl, e0⟩ | ⟨g, cap, cur, rfl, hb, hg, hn, hm, hs, ht⟩
 · omega
 · refine ⟨g, cap, rfl, hb, (hl g rfl).2, fun j x hx => ?_⟩
   have hj := (List.getElem?_eq_some_iff.1 hx).1
   rw [h.cellAt j (by omega)]
   simp [ints, hx]
end Go.Proofs.YtplodoindppleaaGreat
namespace Go.Proofs.YtplodoindppleaaGreat
open Go.RowKit
open Go.Lib (hid)
theorem Own.more {w : World} {B : Nat} {v : Value} {cs : List C7} {c : C7} (h : w.ownsRow B 42 7 v (cs.length + 1) (flat cs ++ c.cells)) : Own w B v (cs ++ [c]) := by
 unfold Own; rw [flat_append, flat_single, List.length_append]; exact h
theorem Own.grows {w W0 w1 : World} {B : Nat} {v v' : Value} {cs : List C7} {c : C7} (hB : Below B w W0) (hsz : B ≤ W0.heap.size) (hlt : ∀ k, v.ownBlock = some k → B ≤ k)
 (hown' : w1.ownsRow B 42 7 v' (cs.length + 1) (flat cs ++ c.cells)) (hg : W0.grownBy w1 v.ownBlock) : Own w1 B v' (cs ++ [c]) ∧ Below B w w1 :=
 ⟨Own.more hown', hB.grown hg hsz hlt⟩
theorem new_cell {W : World} {c : C7} {g : Nat} (hg : g = W.heap.size) : ∀ (j : Nat) u, c.cells[j]? = some u → (W.alloc (.cells #[.int .i64 c.i, .int .i64 c.k, .int .i64 c.s, .int .i64 c.t, .int .i64 c.d, .int .i64 c.p, .int .i64 c.q] 42)).cell? ((⟨g, 0, none⟩ : Addr).add j) = some u := by
 intro j u hj
 subst hg
 rw [show (⟨W.heap.size, 0, none⟩ : Addr).add j = ⟨W.heap.size, j, none⟩ from by unfold Addr.add; split <;> simp_all, World.cell?_alloc_new, List.getElem?_toArray]
 exact hj
theorem cells_one (c : C7) : ∀ u ∈ c.cells, u.oneCell' = true := by
 intro u hu; simp at hu; rcases hu with rfl | rfl | rfl | rfl | rfl | rfl | rfl <;> rfl
end Go.Proofs.YtplodoindppleaaGreat
namespace Go.Proofs.YtplodoindppleaaGreat
set_option linter.unusedVariables false
open Go.RowKit
open Go.Lib (hid)
theorem Own.asSlice {w : World} {B : Nat} {v : Value} {cs : List C7} (h : Own w B v cs) : ∃ (g : Option Addr) (cap n : Nat), v = .slice g n cap ∧ n = cs.length := by
 rcases h.shape with ⟨e, e'⟩ | ⟨g, cap, e, _⟩
 · exact ⟨none, 0, 0, e, by rw [e']; rfl⟩
 · exact ⟨_, cap, _, e, rfl⟩
end Go.Proofs.YtplodoindppleaaGreat
namespace Go.Proofs.YtplodoindppleaaGreat
open Go.RowKit
open Go.Lib (hid)
theorem equalC (a b : C7) (w : World) : Sem.run Tryz.prog (Op.equalIn 10000 42 a.v b.v) w = .ok (a.same b) w := by
 have u3 := Tryz.underlying3
 have a3 := Tryz.isAgg3
 have z3 := Tryz.sizeOf3
 have u31 := Tryz.underlying39
 have a31 := Tryz.isAgg39
 have z31 := Tryz.sizeOf39
 have u32 := Tryz.underlying40
 have a32 := Tryz.isAgg40
 have z32 := Tryz.sizeOf40
 have hS : Tryz.prog.underlying 42 = some (.struct (Tryz.prog.fieldsOf 42)) := by kernel_rfl
 have hp : Tryz.prog.stoodInHeld 42 = false := by kernel_rfl
 simp only [C7.v, cmV]
 rw [show (10000 : Nat) = 9999 + 1 from rfl, run_equalIn_agg w 9999 42 _ _ hS hp]
 simp only [Program.fieldsOf, Tryz.underlying42]
 go_simp
 unfold C7.same
 by_cases h1 : a.i = b.i
 · by_cases h2 : a.k = b.k
   · by_cases h3 : a.s = b.s
     · by_cases h4 : a.t = b.t
       · by_cases h5 : a.d = b.d
         · by_cases h6 : a.p = b.p
           · by_cases h7 : a.q = b.q
             · simp [h1, h2, h3, h4, h5, h6, h7]
             · simp [h1, h2, h3, h4, h5, h6, h7]
           · simp [h1, h2, h3, h4, h5, h6]
         · simp [h1, h2, h3, h4, h5]
       · simp [h1, h2, h3, h4]
     · simp [h1, h2, h3]
   · simp [h1, h2]
 · simp [h1]
theorem eqlC {a b : C7} {r : Bool} (h : a.same b = r) (w : World) : Sem.run Tryz.prog (binOp .eql 42 a.v b.v) w = .ok (.bool r) w := by
 rw [C7.v, C7.v, cmV, cmV, run_eql_struct]
 have := equalC a b w
 rw [C7.v, C7.v, cmV, cmV] at this
 rw [this, h]; rfl
theorem neqC {a b : C7} {r : Bool} (h : a.same b = r) (w : World) : Sem.run Tryz.prog (binOp .neq 42 a.v b.v) w = .ok (.bool (!r)) w := by
 rw [C7.v, C7.v, cmV, cmV, run_neq_struct]
 have := equalC a b w
 rw [C7.v, C7.v, cmV, cmV] at this
 rw [this, h]; rfl
theorem guardC (op : BinOp) (x y : Operand) (a b : C7) (w : World) : Sem.run Tryz.prog (eqGuard op 42 x y a.v b.v) w = .ok () w := run_eqGuard_agg w op 42 x y _ _ (by kernel_rfl)
theorem Sl.open {w : World} {v : Value} {cs : List C7} (h : Sl w v cs) : ∃ (b o cap : Nat) (a : Option Addr), v = .slice a cs.length cap ∧ (0 < cs.length → a = some ⟨b, o, none⟩) ∧ CmsAt w b o cs ∧ (0 < cs.length → b < w.heap.size) := by
 obtain ⟨b, o, cap, a, hv, _, ha, hc, hb⟩ := h
 exact ⟨b, o, cap, a, hv, ha, hc, hb⟩
end Go.Proofs.YtplodoindppleaaGreat

import Derived.Test.YtogoibigabpkhaaGreatSetsM
import Derived.Laws.AppendOwn
import Derived.Laws.AppendOwnNone
import Derived.Laws.OwnMore
import Derived.OwnWalk
import Derived.WalkKit
import Derived.Laws.StructEq
import Derived.Deep.QuietTactic
import Derived.BigQuiet
/- Slices of commands in memory: as they come in, and as the calls make them. -/
namespace Go.Proofs.YtogoibigabpkhaaGreat
open Go.RowKit
open Go.Lib (hid)

/-- The cells of commands, one behind the other. -/
def flat : List C7 → List Value
  | [] => []
  | c :: cs => c.cells ++ flat cs
theorem flat_len : ∀ cs : List C7, (flat cs).length = cs.length * 7
  | [] => rfl
  | c :: cs => by rw [flat, List.length_append, flat_len cs, List.length_cons]; simp; omega
theorem flat_append : ∀ a b : List C7, flat (a ++ b) = flat a ++ flat b
  | [], b => rfl
  | c :: a, b => by rw [List.cons_append, flat, flat, flat_append a b, List.append_assoc]
theorem flat_single (c : C7) : flat [c] = c.cells := by simp [flat]
theorem flat_one : ∀ (cs : List C7), ∀ u ∈ flat cs, u.oneCell' = true
  | [], u, hu => by simp [flat] at hu
  | c :: cs, u, hu => by
    rw [flat] at hu
    rcases List.mem_append.1 hu with hu | hu
    · simp at hu; rcases hu with rfl | rfl | rfl | rfl | rfl | rfl | rfl <;> rfl
    · exact flat_one cs u hu
theorem flat_at : ∀ (cs : List C7) (j : Nat) (c : C7), cs[j]? = some c → ∀ (f : Nat) v, c.cells[f]? = some v → (flat cs)[j * 7 + f]? = some v
  | [], j, c, h, _, _, _ => by simp at h
  | d :: cs, 0, c, h, f, v, hv => by
    simp at h; subst h
    have hf := (List.getElem?_eq_some_iff.1 hv).1
    rw [flat, Nat.zero_mul, Nat.zero_add, List.getElem?_append_left hf]; exact hv
  | d :: cs, j + 1, c, h, f, v, hv => by
    have := flat_at cs j c (by simpa using h) f v hv
    have h7 : d.cells.length = 7 := rfl
    rw [flat, List.getElem?_append_right (by omega), h7, show (j + 1) * 7 + f - 7 = j * 7 + f by omega]
    exact this
theorem flat_of (cs : List C7) (n : Nat) (v : Value) (h : (flat cs)[n]? = some v) : ∃ c, cs[n / 7]? = some c ∧ c.cells[n % 7]? = some v := by
  have hl := (List.getElem?_eq_some_iff.1 h).1
  rw [flat_len] at hl
  have hc : cs[n / 7]? = some (cs[n / 7]'(by omega)) := List.getElem?_eq_getElem (by omega)
  refine ⟨_, hc, ?_⟩
  have h7 : n % 7 < (cs[n / 7]'(by omega)).cells.length := Nat.mod_lt _ (by decide)
  have hv : (cs[n / 7]'(by omega)).cells[n % 7]? = some ((cs[n / 7]'(by omega)).cells[n % 7]) := List.getElem?_eq_getElem h7
  have := flat_at cs _ _ hc _ _ hv
  rw [show n / 7 * 7 + n % 7 = n by omega, h] at this
  rw [hv]; exact this.symm

/-- A slice that the call itself made holds the commands. -/
abbrev Own (w : World) (B : Nat) (v : Value) (cs : List C7) : Prop := w.ownsRow B 40 7 v cs.length (flat cs)
theorem Own.nil (w : World) (B : Nat) : Own w B (.slice none 0 0) [] := World.ownsRow_nil _ _ _ _
theorem Own.shape {w : World} {B : Nat} {v : Value} {cs : List C7} (h : Own w B v cs) :
    (v = .slice none 0 0 ∧ cs = []) ∨ ∃ g cap, v = .slice (some ⟨g, 0, none⟩) cs.length cap ∧ B ≤ g ∧ g < w.heap.size ∧ CmsAt w g 0 cs := by
  have hl := h.lt
  have hcl := fun g (hg : v.ownBlock = some g) => h.cells hg
  rcases h.2 with ⟨rfl, h0⟩ | ⟨g, cap, cur, rfl, hb, hg, hn, hm, hs, ht⟩
  · exact .inl ⟨rfl, List.length_eq_zero_iff.1 h0⟩
  · refine .inr ⟨g, cap, rfl, hb, (hl g rfl).2, fun j c hc f v hv => ?_⟩
    have := hcl g rfl _ _ (flat_at cs j c hc f v hv)
    rw [show (⟨g, 0, none⟩ : Addr).add (j * 7 + f) = ⟨g, 0 + (j * 7 + f), none⟩ from by unfold Addr.add; split <;> simp_all] at this
    exact this

/-- A slice of commands. -/
def Sl (w : World) (v : Value) (cs : List C7) : Prop :=
  ∃ (b o cap : Nat) (a : Option Addr), v = .slice a cs.length cap ∧ (a = none → cap = 0) ∧ (0 < cs.length → a = some ⟨b, o, none⟩) ∧ CmsAt w b o cs ∧ (0 < cs.length → b < w.heap.size)
theorem Own.sl {w : World} {B : Nat} {v : Value} {cs : List C7} (h : Own w B v cs) : Sl w v cs := by
  rcases h.shape with ⟨rfl, rfl⟩ | ⟨g, cap, rfl, hb, hl, hc⟩
  · exact ⟨0, 0, 0, none, rfl, fun _ => rfl, fun h => absurd h (by simp), fun j c hc => by simp at hc, fun h => absurd h (by simp)⟩
  · exact ⟨g, 0, cap, _, rfl, fun h => by simp at h, fun _ => rfl, hc, fun _ => hl⟩
theorem Sl.on {w w' : World} {v : Value} {cs : List C7} (h : Sl w v cs) (hb : Below w.heap.size w w') : Sl w' v cs := by
  obtain ⟨b, o, cap, a, rfl, hn, ha, hc, hl⟩ := h
  refine ⟨b, o, cap, a, rfl, hn, ha, ?_, fun h0 => by have := hl h0; have := hb.size; omega⟩
  intro j c hj
  have h0 : 0 < cs.length := by have := (List.getElem?_eq_some_iff.1 hj).1; omega
  exact hc.on hb (hl h0) j c hj
theorem Sl.src {w : World} {v : Value} {cs : List C7} (h : Sl w v cs) :
    (v = .slice none 0 0 ∧ cs = []) ∨ ∃ ad cap, v = .slice (some ad) cs.length cap ∧ (∀ (j : Nat) u, (flat cs)[j]? = some u → w.cell? (ad.add j) = some u) ∧ (flat cs ≠ [] → ad.block < w.heap.size) := by
  obtain ⟨b, o, cap, a, rfl, hn, ha, hc, hl⟩ := h
  rcases a with _ | ad
  · have h0 : cs.length = 0 := by
      rcases Nat.eq_zero_or_pos cs.length with h | h
      · exact h
      · have := ha h; simp at this
    exact .inl ⟨by rw [hn rfl, h0], List.length_eq_zero_iff.1 h0⟩
  · refine .inr ⟨ad, cap, rfl, fun j u hu => ?_, fun h0 => ?_⟩
    · obtain ⟨c, hj, hv⟩ := flat_of cs j u hu
      have h0 : 0 < cs.length := by have := (List.getElem?_eq_some_iff.1 hj).1; omega
      obtain rfl := Option.some.inj (ha h0)
      have := hc _ _ hj _ _ hv
      rw [show j / 7 * 7 + j % 7 = j by omega] at this
      rw [show (⟨b, o, none⟩ : Addr).add j = ⟨b, o + j, none⟩ from by unfold Addr.add; split <;> simp_all]
      exact this
    · have h0 : 0 < cs.length := by
        rcases cs with _ | _
        · simp [flat] at h0
        · simp
      obtain rfl := Option.some.inj (ha h0)
      exact hl h0

theorem Tryz.infoC : (Tryz.prog.info? 40).map (fun i => (i.zero, i.size, i.bytes)) = some (some (.agg #[.int .i64 0, .int .i64 0, .int .i64 0, .int .i64 0, .int .i64 0, .int .i64 0, .int .i64 0]), 7, 56) := by kernel_rfl
theorem Tryz.infoI : (Tryz.prog.info? 3).map (fun i => (i.zero, i.size, i.bytes)) = some (some (.int .i64 0), 1, 8) := by kernel_rfl

abbrev C7.v (c : C7) : Value := cmV c.i c.k c.s c.t c.d c.p c.q

theorem cRight' {v : Value} {cs : List C7} {w : World} (h : Sl w v cs) (hl : cs.length ≤ 100000) : Calls Tryz.prog 65 #[v] w fun e w' => e = .returned (.bool (cs.all C7.ok)) ∧ Below w.heap.size w w' := by
  obtain ⟨b, o, cap, a, rfl, hn, ha, hc, hb⟩ := h
  exact cRight b o cap a cs ha hl w hc hb
theorem rRights' {v : Value} {cs : List C7} {w : World} (h : Sl w v cs) (hl : cs.length ≤ 100000) : Calls Tryz.prog 76 #[v] w fun e w' => e = .returned (.bool (cs.all C7.ok)) ∧ Below w.heap.size w w' := by
  obtain ⟨b, o, cap, a, rfl, hn, ha, hc, hb⟩ := h
  exact rRights b o cap a cs ha hl w hc hb
end Go.Proofs.YtogoibigabpkhaaGreat
/- Whether two commands, and two lists of them, are the same: the model's comparison of commands; the document's Same, the program's, and has. -/
namespace Go.Proofs.YtogoibigabpkhaaGreat
open Go.RowKit
open Go.Lib (hid)

theorem equalC (a b : C7) (w : World) : Sem.run Tryz.prog (Op.equalIn 10000 40 a.v b.v) w = .ok (a.same b) w := by
  have u3 := Tryz.underlying3
  have a3 := Tryz.isAgg3
  have z3 := Tryz.sizeOf3
  have u31 := Tryz.underlying37
  have a31 := Tryz.isAgg37
  have z31 := Tryz.sizeOf37
  have u32 := Tryz.underlying38
  have a32 := Tryz.isAgg38
  have z32 := Tryz.sizeOf38
  have hS : Tryz.prog.underlying 40 = some (.struct (Tryz.prog.fieldsOf 40)) := by kernel_rfl
  have hp : Tryz.prog.stoodInHeld 40 = false := by kernel_rfl
  simp only [C7.v, cmV]
  rw [show (10000 : Nat) = 9999 + 1 from rfl, run_equalIn_agg w 9999 40 _ _ hS hp]
  simp only [Program.fieldsOf, Tryz.underlying40]
  go_simp
  unfold C7.same
  by_cases h1 : a.i = b.i
  · by_cases h2 : a.k = b.k
    · by_cases h3 : a.s = b.s
      · by_cases h4 : a.t = b.t
        · by_cases h5 : a.d = b.d
          · by_cases h6 : a.p = b.p
            · by_cases h7 : a.q = b.q
              · simp [h1, h2, h3, h4, h5, h6, h7]
              · simp [h1, h2, h3, h4, h5, h6, h7]
            · simp [h1, h2, h3, h4, h5, h6]
          · simp [h1, h2, h3, h4, h5]
        · simp [h1, h2, h3, h4]
      · simp [h1, h2, h3]
    · simp [h1, h2]
  · simp [h1]

theorem eqlC {a b : C7} {r : Bool} (h : a.same b = r) (w : World) : Sem.run Tryz.prog (binOp .eql 40 a.v b.v) w = .ok (.bool r) w := by
  rw [C7.v, C7.v, cmV, cmV, run_eql_struct]
  have := equalC a b w
  rw [C7.v, C7.v, cmV, cmV] at this
  rw [this, h]; rfl
theorem neqC {a b : C7} {r : Bool} (h : a.same b = r) (w : World) : Sem.run Tryz.prog (binOp .neq 40 a.v b.v) w = .ok (.bool (!r)) w := by
  rw [C7.v, C7.v, cmV, cmV, run_neq_struct]
  have := equalC a b w
  rw [C7.v, C7.v, cmV, cmV] at this
  rw [this, h]; rfl
theorem guardC (op : BinOp) (x y : Operand) (a b : C7) (w : World) : Sem.run Tryz.prog (eqGuard op 40 x y a.v b.v) w = .ok () w := run_eqGuard_agg w op 40 x y _ _ (by kernel_rfl)

/-- The commands from an address on, one of them. -/
theorem Sl.open {w : World} {v : Value} {cs : List C7} (h : Sl w v cs) : ∃ (b o cap : Nat) (a : Option Addr), v = .slice a cs.length cap ∧ (0 < cs.length → a = some ⟨b, o, none⟩) ∧ CmsAt w b o cs ∧ (0 < cs.length → b < w.heap.size) := by
  obtain ⟨b, o, cap, a, hv, _, ha, hc, hb⟩ := h
  exact ⟨b, o, cap, a, hv, ha, hc, hb⟩

def hasB (cs : List C7) (c : C7) : Bool := cs.any fun x => x.same c
theorem has_iff {cs : List C7} {c : C7} : hasB cs c = true ↔ c ∈ cs := by
  unfold hasB
  rw [List.any_eq_true]
  exact ⟨fun ⟨x, hx, h⟩ => C7.same_iff.1 h ▸ hx, fun h => ⟨c, h, C7.same_iff.2 rfl⟩⟩
theorem has_yes {cs : List C7} {k : Nat} {x c : C7} (hx : cs[k]? = some x) (h : x.same c = true) : hasB cs c = true := List.any_eq_true.2 ⟨x, List.mem_of_getElem? hx, h⟩
theorem has_no {cs : List C7} {k : Nat} {c : C7} (hk : cs.length ≤ k) (h : ∀ j, j < k → ∀ x, cs[j]? = some x → x.same c = false) : hasB cs c = false := by
  unfold hasB
  rw [List.any_eq_false]
  intro x hx
  obtain ⟨j, hj⟩ := List.getElem?_of_mem hx
  rw [h j (by have := (List.getElem?_eq_some_iff.1 hj).1; omega) x hj]; simp
theorem unlike_next {l : List C7} {k : Nat} {P : Nat → C7 → Prop} (h : ∀ j, j < k → ∀ c, l[j]? = some c → P j c) {c : C7} (hc : l[k]? = some c) (hi : P k c) : ∀ j, j < k + 1 → ∀ c, l[j]? = some c → P j c := fun j hj d hd => by
  by_cases e : j = k
  · subst e; rw [hc] at hd; rw [← Option.some.inj hd]; exact hi
  · exact h j (by omega) d hd

end Go.Proofs.YtogoibigabpkhaaGreat
/- Whether two lists of commands are the same, one by one: the document's Same. -/
namespace Go.Proofs.YtogoibigabpkhaaGreat
set_option linter.unusedVariables false
open Go.RowKit
open Go.Lib (hid)

def sameB (a b : List C7) : Bool := decide (a = b)
theorem same_len {a b : List C7} (h : ¬ a.length = b.length) : sameB a b = false := decide_eq_false fun e => h (by rw [e])
theorem same_no {a b : List C7} {k : Nat} {x y : C7} (hx : a[k]? = some x) (hy : b[k]? = some y) (h : x.same y = false) : sameB a b = false := decide_eq_false fun e => by
  subst e; rw [hx] at hy; exact C7.same_no.1 h (Option.some.inj hy)
theorem same_yes {a b : List C7} {k : Nat} (hl : a.length = b.length) (hk : a.length ≤ k) (h : ∀ j, j < k → ∀ x, a[j]? = some x → ∀ y, b[j]? = some y → x.same y = true) : sameB a b = true := decide_eq_true (List.ext_getElem hl fun j h1 h2 => C7.same_iff.1 (h j (by omega) _ (List.getElem?_eq_getElem h1) _ (List.getElem?_eq_getElem h2)))
theorem same_next {a b : List C7} {k : Nat} {x y : C7} (h : ∀ j, j < k → ∀ x, a[j]? = some x → ∀ y, b[j]? = some y → x.same y = true) (hx : a[k]? = some x) (hy : b[k]? = some y) (hs : x.same y = true) : ∀ j, j < k + 1 → ∀ x, a[j]? = some x → ∀ y, b[j]? = some y → x.same y = true := fun j hj u hu v hv => by
  by_cases e : j = k
  · subst e; rw [hx] at hu; rw [hy] at hv; rw [← Option.some.inj hu, ← Option.some.inj hv]; exact hs
  · exact h j (by omega) u hu v hv

set_option maxHeartbeats 600000 in
set_option maxRecDepth 100000 in
theorem rSame {v v' : Value} {cs ds : List C7} {w : World} (h : Sl w v cs) (h' : Sl w v' ds) (hl : cs.length ≤ 100000) (hl' : ds.length ≤ 100000) : Calls Tryz.prog 46 #[v, v'] w fun e w' => e = .returned (.bool (sameB cs ds)) ∧ Below w.heap.size w w' := by
  obtain ⟨b, o, cap, a, rfl, ha, hc, hb⟩ := h.open
  obtain ⟨b', o', cap', a', rfl, ha', hc', hb'⟩ := h'.open
  clear h h'
  by_cases hlen : cs.length = ds.length
  · rw [hlen] at ha hb hl
    rw [hlen]
    have HL := hid hlen
    clear hlen
    go_enter Tryz.func46, Tryz.ntmps46
    go_wp2
    go_loopw [5] (fun i wr => ∃ k : Nat, k ≤ ds.length ∧ i = .int .i64 k ∧ Hid (∀ j, j < k → ∀ x, cs[j]? = some x → ∀ y, ds[j]? = some y → x.same y = true) ∧ Below w.heap.size w wr) (fun i _ => ds.length - (intOf i).toNat)
    case atStart => exact ⟨0, Nat.zero_le _, rfl, fun j hj => absurd hj (by omega), Below.refl _ _⟩
    case round =>
      obtain ⟨k, hk, rfl, hak, hB⟩ := hrel
      by_cases hlt : k < ds.length
      · obtain rfl := ha (by omega)
        obtain rfl := ha' (by omega)
        obtain ⟨x, hxx⟩ : ∃ x, cs[k]? = some x := ⟨cs[k]'(by rw [HL.out]; exact hlt), List.getElem?_eq_getElem (by rw [HL.out]; exact hlt)⟩
        obtain ⟨y, hyy⟩ : ∃ y, ds[k]? = some y := ⟨ds[k], List.getElem?_eq_getElem (by omega)⟩
        have hbw := hb (by omega)
        have hbw' := hb' (by omega)
        obtain ⟨c0, c1, c2, c3, c4, c5, c6⟩ := (hc.on hB hbw).at hxx
        obtain ⟨d0, d1, d2, d3, d4, d5, d6⟩ := (hc'.on hB hbw').at hyy
        have HX := hid (And.intro hxx hyy)
        have HB := hid hB
        clear hxx hyy hB
        rcases hs : x.same y with _ | _
        · have hE := neqC hs
          have hG := fun op p q W => guardC op p q x y W
          have HS := hid hs
          clear hs
          go_wp2
          go_quiet (fail)
          go_wp2
          go_ret
          exact ⟨ret_bool (same_no HX.out.1 HX.out.2 HS.out).symm, Below.drewN' HB.out _⟩
        · have hE := neqC hs
          have hG := fun op p q W => guardC op p q x y W
          have HS := hid hs
          clear hs
          go_wp2
          go_quiet (fail)
          go_wp2
          go_roundw
          case rel => exact ⟨k + 1, by omega, by go_num, same_next hak.out HX.out.1 HX.out.2 HS.out, Below.drewN' HB.out _⟩
          case measure => simp [intOf]; omega
      · have HS : Hid (sameB cs ds = true) := same_yes HL.out (by rw [HL.out]; omega) hak.out
        go_wp2
        go_ret
        exact ⟨ret_bool HS.out.symm, hB⟩
  · have HS : Hid (sameB cs ds = false) := same_len hlen
    go_enter Tryz.func46, Tryz.ntmps46
    go_wp2
    go_ret
    exact ⟨ret_bool HS.out.symm, Below.refl _ _⟩

end Go.Proofs.YtogoibigabpkhaaGreat
/- The document's SameValue, of one value twice. -/
namespace Go.Proofs.YtogoibigabpkhaaGreat
set_option linter.unusedVariables false
open Go.RowKit
open Go.Lib (hid)

set_option maxHeartbeats 1600000 in
set_option maxRecDepth 100000 in
theorem rSameValue {v v' : Value} {cs : List C7} {w : World} (t : Int) (h : Sl w v cs) (h' : Sl w v' cs) (hl : cs.length ≤ 100000) : Calls Tryz.prog 78 #[.agg #[.int .i64 t, v], .agg #[.int .i64 t, v']] w fun e w' => e = .returned (.bool true) ∧ Below w.heap.size w w' := by
  have H := hid h
  have H' := hid h'
  obtain ⟨_, _, cap, a, rfl, _⟩ := h
  obtain ⟨_, _, cap', a', rfl, _⟩ := h'
  have hS := rSame (H.out.on (((Below.refl _ w).alloc (Nat.le_refl _) (.cells #[.int .i64 t, .slice a cs.length cap] 42)).alloc (by simp) (.cells #[.int .i64 t, .slice a' cs.length cap'] 42))) (H'.out.on (((Below.refl _ w).alloc (Nat.le_refl _) (.cells #[.int .i64 t, .slice a cs.length cap] 42)).alloc (by simp) (.cells #[.int .i64 t, .slice a' cs.length cap'] 42))) hl hl
  rw [show sameB cs cs = true from decide_eq_true rfl] at hS
  go_enter Tryz.func78, Tryz.ntmps78
  go_wp2_with (go_at_call 46; (
    refine hS.mono ?_
    rintro e w1 ⟨rfl, hB⟩
    have hs1 := hB.size
    have k0 : w1.cell? ⟨w.heap.size, 0, none⟩ = some (.int .i64 t) := (hB.cell (p := ⟨w.heap.size, 0, none⟩) (by simp; omega)).trans (by simp [go_sem])
    have k1 : w1.cell? ⟨w.heap.size + 1, 0, none⟩ = some (.int .i64 t) := (hB.cell (p := ⟨w.heap.size + 1, 0, none⟩) (by simp)).trans (by simp [go_sem])
    have HB := hid hB
    clear hB))
  go_ret
  exact ⟨rfl, (((Below.refl _ w).alloc (Nat.le_refl _) _).alloc (by simp) _).trans (HB.out.mono (by simp; omega))⟩
end Go.Proofs.YtogoibigabpkhaaGreat
/- The mathematics of numbers as bytes: seven bits in each, the lowest first; what is put is taken, and its bytes are the only ones. -/
namespace Go.Proofs.YtogoibigabpkhaaGreat

/-- A number's bytes. -/
def oneN (n : Nat) : List UInt8 :=
  if h : n < 128 then [UInt8.ofNat n] else UInt8.ofNat (n % 128 + 128) :: oneN (n / 128)
termination_by n
decreasing_by omega
theorem oneN_small {n : Nat} (h : n < 128) : oneN n = [UInt8.ofNat n] := by rw [oneN, dif_pos h]
theorem oneN_big {n : Nat} (h : ¬ n < 128) : oneN n = UInt8.ofNat (n % 128 + 128) :: oneN (n / 128) := by rw [oneN, dif_neg h]

/-- What taking a number comes to. -/
inductive Got where
  | ok (n : Nat) (rest : List UInt8)
  | cut
  | form
/-- The bytes from number i on, n being what came, unit what the next one counts; f more bytes may come. -/
def numGo : (f : Nat) → (i unit n : Nat) → List UInt8 → Got
  | 0, _, _, _, _ => .form
  | _ + 1, _, _, _, [] => .cut
  | f + 1, i, unit, n, b :: bs =>
    if b.toNat < 128 then
      if (0 < i ∧ b.toNat = 0) ∨ 1099511627776 < n + b.toNat * unit then .form else .ok (n + b.toNat * unit) bs
    else numGo f (i + 1) (128 * unit) (n + b.toNat % 128 * unit) bs
def numOf (bs : List UInt8) : Got := numGo 6 0 1 0 bs

theorem toNat_small {n : Nat} (h : n < 256) : (UInt8.ofNat n).toNat = n := by
  rw [UInt8.toNat_ofNat']; omega
/-- What was put is taken. -/
theorem numGo_one : ∀ (f i unit acc n : Nat) (rest : List UInt8), n < 128 ^ (f + 1) → (0 < i → 0 < n) → acc + n * unit ≤ 1099511627776 → numGo (f + 1) i unit acc (oneN n ++ rest) = .ok (acc + n * unit) rest
  | f, i, unit, acc, n, rest, h, hi, hm => by
    by_cases hn : n < 128
    · rw [oneN_small hn, List.singleton_append, numGo, toNat_small (by omega), if_pos hn, if_neg (by omega)]
    · rw [oneN_big hn, List.cons_append, numGo, toNat_small (by omega), if_neg (by omega)]
      have h1 : (n % 128 + 128) % 128 = n % 128 := by omega
      have h2 : acc + n % 128 * unit + n / 128 * (128 * unit) = acc + n * unit := by
        have e1 : n * unit = (128 * (n / 128) + n % 128) * unit := by rw [Nat.div_add_mod]
        rw [e1, Nat.add_mul]
        have e2 : n / 128 * (128 * unit) = 128 * (n / 128) * unit := by rw [← Nat.mul_assoc, Nat.mul_comm (n / 128) 128]
        omega
      match f, h with
      | 0, h => omega
      | f + 1, h => rw [h1, numGo_one f (i + 1) (128 * unit) (acc + n % 128 * unit) (n / 128) rest (by rw [Nat.pow_succ] at h; omega) (by omega) (by omega), h2]
theorem numOf_one {n : Nat} (h : n ≤ 1099511627776) (rest : List UInt8) : numOf (oneN n ++ rest) = .ok n rest := by
  have := numGo_one 5 0 1 0 n rest (by omega) (by omega) (by omega)
  simpa [numOf] using this
/-- What is taken has its bytes ahead of what is left. -/
theorem numGo_ok : ∀ (f i unit acc : Nat) (bs : List UInt8) (m : Nat) (rest : List UInt8), numGo f i unit acc bs = .ok m rest → ∃ n, m = acc + n * unit ∧ bs = oneN n ++ rest ∧ m ≤ 1099511627776 ∧ (0 < i → 0 < n)
  | 0, i, unit, acc, bs, m, rest, h => by simp [numGo] at h
  | f + 1, i, unit, acc, [], m, rest, h => by simp [numGo] at h
  | f + 1, i, unit, acc, b :: bs, m, rest, h => by
    have hb := b.toNat_lt
    rw [numGo] at h
    split at h
    · rename_i hlt
      split at h
      · cases h
      · rename_i hno
        cases h
        refine ⟨b.toNat, rfl, ?_, by omega, fun hi => by omega⟩
        rw [oneN_small hlt, List.singleton_append, UInt8.ofNat_toNat]
    · rename_i hge
      obtain ⟨n, hm, hbs, hle, hpos⟩ := numGo_ok f (i + 1) (128 * unit) _ bs m rest h
      have hp := hpos (by omega)
      refine ⟨b.toNat % 128 + 128 * n, ?_, ?_, hle, fun _ => by omega⟩
      · rw [hm, Nat.add_mul]
        have e2 : n * (128 * unit) = 128 * n * unit := by rw [← Nat.mul_assoc, Nat.mul_comm n 128]
        omega
      · rw [oneN_big (by omega), hbs, List.cons_append]
        rw [show (b.toNat % 128 + 128 * n) / 128 = n by omega, show (b.toNat % 128 + 128 * n) % 128 + 128 = b.toNat by omega, UInt8.ofNat_toNat]
theorem numOf_ok {bs rest : List UInt8} {n : Nat} (h : numOf bs = .ok n rest) : n ≤ 1099511627776 ∧ bs = oneN n ++ rest := by
  obtain ⟨k, hk, hb, hle, _⟩ := numGo_ok 6 0 1 0 bs n rest h
  have : n = k := by omega
  subst this
  exact ⟨hle, hb⟩
theorem oneN_ne (n : Nat) : oneN n ≠ [] := by
  by_cases h : n < 128
  · rw [oneN_small h]; simp
  · rw [oneN_big h]; simp
theorem oneN_len : ∀ (f n : Nat), n < 128 ^ (f + 1) → (oneN n).length ≤ f + 1
  | 0, n, h => by rw [oneN_small (by omega)]; simp
  | f + 1, n, h => by
    by_cases hn : n < 128
    · rw [oneN_small hn]; simp
    · rw [oneN_big hn, List.length_cons]
      have := oneN_len f (n / 128) (by rw [Nat.pow_succ] at h; omega)
      omega
theorem oneN_six {n : Nat} (h : n ≤ 1099511627776) : (oneN n).length ≤ 6 := oneN_len 5 n (by omega)

/-! A reader: the bytes that are left, and what went wrong. -/
abbrev St := List UInt8 × Int
def numS (s : St) : Nat × St :=
  if s.2 = 0 then
    match numOf s.1 with
    | .ok n r => (n, (r, 0))
    | .cut => (0, ([], 3))
    | .form => (0, ([], 2))
  else (0, s)
theorem numS_wrong {s : St} (h : s.2 ≠ 0) : numS s = (0, s) := by unfold numS; rw [if_neg h]
theorem numS_one {n : Nat} (h : n ≤ 1099511627776) (rest : List UInt8) : numS (oneN n ++ rest, 0) = (n, (rest, 0)) := by
  unfold numS; rw [if_pos rfl, numOf_one h]
theorem numS_ok {s : St} (h : (numS s).2.2 = 0) : s.2 = 0 ∧ (numS s).1 ≤ 1099511627776 ∧ s.1 = oneN (numS s).1 ++ (numS s).2.1 := by
  unfold numS at *
  by_cases hs : s.2 = 0
  · rw [if_pos hs] at *
    rcases hn : numOf s.1 with ⟨n, r⟩ | _ | _
    · rw [hn] at h
      exact ⟨hs, numOf_ok hn⟩
    · rw [hn] at h; simp at h
    · rw [hn] at h; simp at h
  · rw [if_neg hs] at h; exact absurd h hs
theorem numS_bad {s : St} (h : (numS s).2.2 ≠ 0) : (numS s).1 = 0 := by
  unfold numS at *
  by_cases hs : s.2 = 0
  · rw [if_pos hs] at *
    rcases hn : numOf s.1 with ⟨n, r⟩ | _ | _
    · rw [hn] at h; simp at h
    · rfl
    · rfl
  · rw [if_neg hs]
end Go.Proofs.YtogoibigabpkhaaGreat

import Derived.Test.YtpkkmfppdhjpkaaGreatGa28
import Derived.Test.YtpkkmfppdhjpkaaGreatGa31
/- The frame with which a log begins: the program's first; Clone. -/
namespace Go.Proofs.YtpkkmfppdhjpkaaGreat
set_option linter.unusedVariables false
open Go.RowKit
open Go.Lib (hid)

/-- A part of bytes. -/
theorem SlB.part {w : World} {b o cap n : Nat} {l : List UInt8} (h : SlB w (.slice (some ⟨b, o, none⟩) n cap) l) (i m : Nat) (him : i + m ≤ l.length) : SlB w (.slice (some ⟨b, o + i, none⟩) m (cap - i)) ((l.drop i).take m) := by
  obtain ⟨b', o', cap', a', hv, hn, hcap, ha, hc, hb⟩ := h
  injection hv with e1 e2 e3
  subst e2 e3
  have hlen : ((l.drop i).take m).length = m := by rw [List.length_take, List.length_drop]; omega
  refine ⟨b, o + i, cap - i, Option.some ⟨b, o + i, none⟩, by rw [hlen], (fun e => by cases e), by rw [hlen]; omega, fun _ => rfl, fun j x hx => ?_, fun h0 => ?_⟩
  · have hj : j < m := by have := (List.getElem?_eq_some_iff.1 hx).1; omega
    have h0 : 0 < l.length := by omega
    have e4 := ha h0
    rw [← e1] at e4
    injection e4 with e5
    injection e5 with e6 e7
    subst e6 e7
    rw [List.getElem?_take, if_pos hj, List.getElem?_drop] at hx
    rw [Nat.add_assoc]; exact hc _ x hx
  · have h0 : 0 < l.length := by omega
    have e4 := ha h0
    rw [← e1] at e4
    injection e4 with e5
    injection e5 with e6 e7
    subst e6 e7
    exact hb h0
theorem SlB.head {w : World} {b o cap n : Nat} {l : List UInt8} (h : SlB w (.slice (some ⟨b, o, none⟩) n cap) l) (m : Nat) (hm : m ≤ l.length) : SlB w (.slice (some ⟨b, o, none⟩) m cap) (l.take m) := by
  have := h.part 0 m (by omega)
  rwa [Nat.add_zero, Nat.sub_zero, List.drop_zero] at this
theorem SlB.form {w : World} {v : Value} {l : List UInt8} (h : SlB w v l) (h0 : 0 < l.length) : ∃ b o cap, v = .slice (some ⟨b, o, none⟩) l.length cap ∧ l.length ≤ cap := by
  obtain ⟨b, o, cap, a, rfl, hn, hcap, ha, hc, hb⟩ := h
  exact ⟨b, o, cap, by rw [ha h0], hcap⟩
theorem first_none_wrong {l : List UInt8} {m n : Nat} (hl : l.length = m + 2) (hn : n = wholeN (l.take 2)) (hp : ¬ n = 0) (hq : ¬ m < n + 4) (h : firstN l = none) : ¬ wholeN ((l.drop (n + 2)).take 4) = sumN ((l.drop 2).take n) := by
  intro hh
  rw [first_right (by omega) hn.symm (by omega) hh] at h
  cases h
set_option maxHeartbeats 1600000 in
set_option maxRecDepth 100000 in
theorem cFirst_at {l : List UInt8} {w : World} {b o c m n : Nat} (h : SlB w (.slice (some ⟨b, o, none⟩) l.length (c + 2)) l) (hm : l.length = m + 2) (hl : m + 2 ≤ 1000000) (hn : n = wholeN (l.take 2)) (hp : ¬ n = 0) (hq : ¬ m < n + 4) :
    Calls Tryz.prog 42 #[.slice (some ⟨b, o, none⟩) (m + 2) (c + 2)] w fun e w' => ∃ r, e = .returned (.tuple #[r, .bool (decide (wholeN ((l.drop (n + 2)).take 4) = sumN ((l.drop 2).take n)))]) ∧ (wholeN ((l.drop (n + 2)).take 4) = sumN ((l.drop 2).take n) → SlB w r ((l.drop 2).take n)) ∧ (¬ wholeN ((l.drop (n + 2)).take 4) = sumN ((l.drop 2).take n) → r = .slice none 0 0) ∧ w = w' := by
  have hcap : m + 2 ≤ c + 2 := by obtain ⟨_, _, cap2, a2, hv, _, h2, _⟩ := h; injection hv with _ _ h3; omega
  have hN := cNumberOf (w := w) (h.head 2 (by omega)) (by rw [List.length_take]; omega)
  rw [← hn] at hN
  have h3 : ¬ ((m : Int) + 2 < 2) := by omega
  have hP := h.part 2 n (by omega)
  have hQ := h.part (n + 2) 4 (by omega)
  rw [show c + 2 - 2 = c by omega] at hP
  have hS := cSum hP (by rw [List.length_take, List.length_drop]; omega)
  obtain ⟨d, rfl⟩ : ∃ d, c = n + 4 + d := ⟨c - n - 4, by omega⟩
  rw [show n + 4 + d + 2 - (n + 2) = n + 4 + d - n by omega, show o + (n + 2) = o + 2 + n by omega] at hQ
  have hM := cNumberOf (w := w) hQ (by rw [List.length_take]; omega)
  obtain ⟨X, hX⟩ : ∃ X, X = wholeN ((l.drop (n + 2)).take 4) := ⟨_, rfl⟩
  obtain ⟨S, hSS⟩ : ∃ S, S = sumN ((l.drop 2).take n) := ⟨_, rfl⟩
  rw [← hX] at hM ⊢
  rw [← hSS] at hS ⊢
  have HN := hid hN
  have HS := hid hS
  have HM := hid hM
  have HP := hid hP
  have h5 : ¬ (n : Int) = 0 := by omega
  have h6 : ¬ (m : Int) < (n : Int) + 4 := by omega
  obtain ⟨e, rfl⟩ : ∃ e, m = n + 4 + e := ⟨m - n - 4, by omega⟩
  have hnb : n ≤ 1000000 := by omega
  have heb : e ≤ 1000000 := by omega
  have hb1 : ((n : Int) == 0) = false := by simp; omega
  have hb2 : decide ((n : Int) + 4 + (e : Int) < (n : Int) + 4) = false := decide_eq_false (by omega)
  clear hX hSS hN hS hM hP hQ h hm hn hl hcap hq hp h6
  by_cases hXS : X = S
  all_goals (
    have hXS2 : (X : Int) = (S : Int) ↔ X = S := by omega
    go_enter Tryz.func42, Tryz.ntmps42
    go_wp2_with fail
    go_at_call 64
    refine HN.out.mono ?_
    rintro e w' ⟨rfl, rfl⟩
    clear HN
    go_wp2_with fail
    go_at_call 64
    refine HM.out.mono ?_
    rintro e w' ⟨rfl, rfl⟩
    clear HM
    go_wp2_with fail
    go_at_call 65
    refine HS.out.mono ?_
    rintro e w' ⟨rfl, rfl⟩
    clear HS
    go_wp2_with fail
    go_ret2
    first
      | exact ⟨_, by rw [decide_eq_true hXS]; rfl, fun _ => HP.out, fun hh => absurd hXS hh, rfl⟩
      | exact ⟨_, by rw [decide_eq_false hXS]; rfl, fun hh => absurd hh hXS, fun _ => rfl, rfl⟩)
set_option maxHeartbeats 1600000 in
set_option maxRecDepth 100000 in
theorem cFirst_none {v : Value} {l : List UInt8} {w : World} (h : SlB w v l) (hl : l.length ≤ 1000000) (hf : firstN l = none) : Calls Tryz.prog 42 #[v] w fun e w' => e = .returned (.tuple #[.slice none 0 0, .bool false]) ∧ w = w' := by
  by_cases h2 : l.length < 2
  · obtain ⟨a, cap, rfl, _⟩ := h.any
    have h3 : (l.length : Int) < 2 := by omega
    clear h hf
    go_enter Tryz.func42, Tryz.ntmps42
    go_wp2
    go_ret2
    exact ⟨rfl, rfl⟩
  · obtain ⟨b, o, cap, rfl, hcap⟩ := h.form (by omega)
    have HS := hid h
    have h3 : ¬ (l.length : Int) < 2 := by omega
    have hN := cNumberOf (w := w) (HS.out.head 2 (by omega)) (by rw [List.length_take]; omega)
    have hw := whole_lt (l.take 2)
    rw [List.length_take, Nat.min_eq_left (by omega), show (256 : Nat) ^ 2 = 65536 from by decide] at hw
    obtain ⟨n, hn⟩ : ∃ n, n = wholeN (l.take 2) := ⟨_, rfl⟩
    rw [← hn] at hN hw
    have HN := hid hN
    have HNN := hid hn
    have HF := hid hf
    clear h hN hf hn
    obtain ⟨m, hm⟩ : ∃ m, l.length = m + 2 := ⟨l.length - 2, by omega⟩
    rw [hm] at h2 h3 hcap hl ⊢
    obtain ⟨c, rfl⟩ : ∃ c, cap = c + 2 := ⟨cap - 2, by omega⟩
    have HL := hid hm
    have hc0 : c = 0 ∨ ¬ c = 0 := by omega
    clear hm
    by_cases hp : n = 0
    · subst hp
      rcases hc0 with rfl | hc0
      all_goals (
        go_enter Tryz.func42, Tryz.ntmps42
        go_wp2_with (go_at_call 64; refine HN.out.mono ?_; rintro e w' ⟨rfl, rfl⟩)
        go_ret2
        exact ⟨rfl, rfl⟩)
    · have h5 : ¬ (n : Int) = 0 := by omega
      by_cases hq : m < n + 4
      · have h6 : (m : Int) < (n : Int) + 4 := by omega
        rcases hc0 with rfl | hc0
        all_goals (
          go_enter Tryz.func42, Tryz.ntmps42
          go_wp2_with (go_at_call 64; refine HN.out.mono ?_; rintro e w' ⟨rfl, rfl⟩)
          go_ret2
          exact ⟨rfl, rfl⟩)
      · have hg := first_none_wrong HL.out HNN.out hp hq HF.out
        refine (cFirst_at HS.out HL.out hl HNN.out hp hq).mono ?_
        rintro e w' ⟨r, rfl, _, hr, rfl⟩
        rw [hr hg, decide_eq_false hg]
        exact ⟨rfl, rfl⟩

theorem cFirst_some {v : Value} {l : List UInt8} {w : World} {n : Nat} (h : SlB w v l) (hl : l.length ≤ 1000000) (hf : firstN l = some n) : Calls Tryz.prog 42 #[v] w fun e w' => ∃ r, e = .returned (.tuple #[r, .bool true]) ∧ SlB w r ((l.drop 2).take n) ∧ w = w' := by
  obtain ⟨h1, h2, h3, h4, h5⟩ := first_some hf
  obtain ⟨b, o, cap, rfl, hcap⟩ := h.form (by omega)
  obtain ⟨m, hm⟩ : ∃ m, l.length = m + 2 := ⟨l.length - 2, by omega⟩
  obtain ⟨c, rfl⟩ : ∃ c, cap = c + 2 := ⟨cap - 2, by omega⟩
  have hc := cFirst_at h hm (by omega) h4.symm (by omega) (by omega)
  rw [hm]
  refine hc.mono ?_
  rintro e w' ⟨r, rfl, hr, _, rfl⟩
  rw [decide_eq_true h5]
  exact ⟨r, rfl, hr h5, rfl⟩

end Go.Proofs.YtpkkmfppdhjpkaaGreat
/- Slices of slices of bytes: as the calls make them, as they come in. -/
namespace Go.Proofs.YtpkkmfppdhjpkaaGreat
set_option linter.unusedVariables false
open Go.RowKit
open Go.Lib (hid)

theorem Tryz.infoS : (Tryz.prog.info? 63).map (fun i => (i.zero, i.size, i.bytes)) = some (some (.slice none 0 0), 1, 24) := by kernel_rfl
/-- What the calls told: a slice of their own, of slices of their own. -/
def OwnL (w : World) (B : Nat) (v : Value) (ps : List (Sv × List UInt8)) : Prop := w.ownsRow B 63 1 v ps.length (ps.map fun p => p.1.v) ∧ ∀ p ∈ ps, OwnB w B p.1.v p.2
theorem OwnL.nil (w : World) (B : Nat) : OwnL w B (.slice none 0 0) [] := ⟨World.ownsRow_nil _ _ _ _, fun p hp => by simp at hp⟩
theorem rows_apart {w : World} {B B' : Nat} {e e' : TypeId} {s s' : Nat} {v v' : Value} {n n' : Nat} {xs xs' : List Value} (h : w.ownsRow B e s v n xs) (h' : w.ownsRow B' e' s' v' n' xs') (hne : e ≠ e') : v.ownBlock = none ∨ v.ownBlock ≠ v'.ownBlock := by
  rcases h.2 with ⟨rfl, _⟩ | ⟨g, cap, cur, rfl, _, hg, _⟩
  · exact .inl rfl
  · refine .inr fun hh => ?_
    rcases h'.2 with ⟨rfl, _⟩ | ⟨g', cap', cur', rfl, _, hg', _⟩
    · simp [Value.ownBlock] at hh
    · simp [Value.ownBlock] at hh
      subst hh
      rw [hg] at hg'
      injection hg' with h1
      injection h1 with h2 h3
      exact hne h3
theorem OwnL.alloc {w : World} {B : Nat} {v : Value} {ps : List (Sv × List UInt8)} (h : OwnL w B v ps) (o : Obj) : OwnL (w.alloc o) B v ps := ⟨World.ownsRow.alloc h.1 o, fun p hp => World.ownsRow.alloc (h.2 p hp) o⟩
theorem OwnL.on {w w' : World} {B : Nat} {v : Value} {ps : List (Sv × List UInt8)} (h : OwnL w B v ps) (hb : Below w.heap.size w w') : OwnL w' B v ps :=
  ⟨own_below h.1 hb (fun k hk => (h.1.lt k hk).2), fun p hp => own_below (h.2 p hp) hb (fun k hk => ((h.2 p hp).lt k hk).2)⟩
theorem OwnL.more {w W0 w1 : World} {B : Nat} {v v' : Value} {ps : List (Sv × List UInt8)} {s : Sv} {b : List UInt8} (h : OwnL W0 B v ps) (hb : OwnB W0 B s.v b) (hB : Below B w W0) (hsz : B ≤ W0.heap.size)
    (hown' : w1.ownsRow B 63 1 v' (ps.length + 1) ((ps.map fun p => p.1.v) ++ [s.v])) (hg : W0.grownBy w1 v.ownBlock) : OwnL w1 B v' (ps ++ [(s, b)]) ∧ Below B w w1 := by
  refine ⟨⟨?_, fun p hp => ?_⟩, hB.grown hg hsz (fun k hk => (h.1.lt k hk).1)⟩
  · rw [List.length_append, List.map_append]; exact hown'
  · rcases List.mem_append.1 hp with hp | hp
    · exact (h.2 p hp).kept hg (rows_apart (h.2 p hp) h.1 (by decide))
    · obtain rfl := List.mem_singleton.1 hp
      exact World.ownsRow.kept hb hg (rows_apart hb h.1 (by decide))
theorem OwnL.asSlice {w : World} {B : Nat} {v : Value} {ps : List (Sv × List UInt8)} (h : OwnL w B v ps) : ∃ (g : Option Addr) (cap n : Nat), v = .slice g n cap ∧ n = ps.length := by
  rcases h.1.2 with ⟨e, e'⟩ | ⟨g, cap, cur, e, _⟩
  · exact ⟨none, 0, 0, e, e'.symm⟩
  · exact ⟨_, cap, _, e, rfl⟩
theorem OwnB.sv {w : World} {B : Nat} {v : Value} {l : List UInt8} (h : OwnB w B v l) : ∃ s : Sv, v = s.v ∧ OwnB w B s.v l := by
  obtain ⟨g, cap, n, rfl, _⟩ := h.asSlice
  exact ⟨⟨g, n, cap⟩, rfl, h⟩

/-- A slice of slices of bytes. -/
def SlL (w : World) (v : Value) (ls : List (List UInt8)) : Prop :=
  ∃ (b o cap : Nat) (a : Option Addr) (ps : List (Sv × List UInt8)), ps.map (fun p => p.2) = ls ∧ v = .slice a ls.length cap ∧ ls.length ≤ cap ∧ (0 < ls.length → a = some ⟨b, o, none⟩) ∧ RowsB w b o ps ∧ (0 < ls.length → b < w.heap.size)
theorem SlL.on {w w' : World} {v : Value} {ls : List (List UInt8)} (h : SlL w v ls) (hb : Below w.heap.size w w') : SlL w' v ls := by
  obtain ⟨b, o, cap, a, ps, hp, rfl, hcap, ha, hr, hl⟩ := h
  refine ⟨b, o, cap, a, ps, hp, rfl, hcap, ha, fun j p hj => ?_, fun h0 => by have := hl h0; have := hb.size; omega⟩
  have h0 : 0 < ls.length := by rw [← hp, List.length_map]; have := (List.getElem?_eq_some_iff.1 hj).1; omega
  exact ⟨(hb.cell (p := ⟨b, o + j, none⟩) (hl h0)).trans (hr j p hj).1, (hr j p hj).2.on hb⟩
theorem OwnL.sl {w : World} {B : Nat} {v : Value} {ps : List (Sv × List UInt8)} (h : OwnL w B v ps) : SlL w v (ps.map fun p => p.2) := by
  have hlt := h.1.lt
  rcases h.1.2 with ⟨e, e'⟩ | ⟨g, cap, cur, rfl, hb, hg, hn, _⟩
  · obtain rfl := List.length_eq_zero_iff.1 e'
    exact ⟨0, 0, 0, none, [], rfl, e, Nat.le_refl _, fun h => absurd h (by simp), fun j p hj => by simp at hj, fun h => absurd h (by simp)⟩
  · refine ⟨g, 0, cap, _, ps, rfl, by rw [List.length_map], by rw [List.length_map]; exact hn, fun _ => rfl, fun j p hj => ⟨?_, (h.2 p (List.mem_of_getElem? hj)).slb⟩, fun _ => (hlt g rfl).2⟩
    have hjl := (List.getElem?_eq_some_iff.1 hj).1
    rw [Nat.zero_add, h.1.cellAt j (by omega), List.getElem?_map, hj]; rfl

/-- The bytes from number k on. -/
theorem slice_from {w : World} {v : Value} {l : List UInt8} (h : SlB w v l) {k : Nat} (hk : k ≤ l.length) : ∃ v', (∀ W : World, (Instr.slice 63 v (some (.int .i64 (k : Int))) none none).run Tryz.prog W = .ok v' W) ∧ SlB w v' (l.drop k) := by
  have HS := h
  obtain ⟨b, o, cap, a, rfl, hn, hcap, ha, hc, hb⟩ := h
  have hs : ∀ W : World, (sizeOf (Tryz.prog.elem 63)).run Tryz.prog W = .ok 1 W := fun W => by
    obtain ⟨i0, hi, hz0, hz1, hz2⟩ := info_parts Tryz.infoB
    rw [show Tryz.prog.elem 63 = 5 from by kernel_rfl]
    simp [sizeOf, typeInfo, hi, hz1]
  refine ⟨sliced a k l.length cap 1, fun W => ?_, ?_⟩
  · rw [run_slice_l (P := Tryz.prog) (w := W) 63 a l.length cap (by kernel_rfl) .i64 (k : Int) (by omega) (by omega), hs W]
    rfl
  · unfold sliced
    by_cases hck : cap = k
    · rw [if_pos hck]
      exact SlB.nothing (by rw [List.length_drop]; omega) (by omega) (by omega)
    · rw [if_neg hck]
      rcases a with _ | ad
      · exact absurd (hn rfl) (by intro h0; omega)
      · refine ⟨ad.block, ad.off + k, cap - k, Option.some (ad.add k), by rw [List.length_drop, Nat.mul_one]; rfl, (fun e => by cases e), by rw [List.length_drop]; omega, fun h0 => ?_, fun j x hx => ?_, fun h0 => ?_⟩
        · rw [List.length_drop] at h0
          obtain rfl := Option.some.inj (ha (by omega))
          unfold Addr.add; split <;> simp_all
        · have h0 : 0 < l.length := by have := (List.getElem?_eq_some_iff.1 hx).1; rw [List.length_drop] at this; omega
          obtain rfl := Option.some.inj (ha h0)
          rw [List.getElem?_drop] at hx
          rw [Nat.add_assoc]; exact hc _ x hx
        · rw [List.length_drop] at h0
          obtain rfl := Option.some.inj (ha (by omega))
          exact hb (by omega)
end Go.Proofs.YtpkkmfppdhjpkaaGreat

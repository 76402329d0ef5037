import Derived.Test.YtogoibigabpkhaaGreatG18
import Derived.Outline
/- The document's note: a name, in its place. -/
namespace Go.Proofs.YtogoibigabpkhaaGreat
set_option linter.unusedVariables false
open Go.RowKit
open Go.Lib (hid)

abbrev idZ (i : Int) : Int := i
abbrev stI (x : Int) (l : List Int) : List Int × Bool := l.foldl (putStep idZ x) ([], false)
theorem stI_snoc (x : Int) (l : List Int) (y : Int) : stI x (l ++ [y]) = putStep idZ x (stI x l) y := by simp [stI]
theorem putI_a {x y : Int} {s : List Int × Bool} (h : s.2 = false) (h1 : x ≤ y) (h2 : y = x) : putStep idZ x s y = (s.1 ++ [x], true) := by simp [putStep, idZ, h, h2]
theorem putI_b {x y : Int} {s : List Int × Bool} (h : s.2 = false) (h1 : x ≤ y) (h2 : ¬ y = x) : putStep idZ x s y = (s.1 ++ [x] ++ [y], true) := by simp [putStep, idZ, h, h1, h2]
theorem putI_c {x y : Int} {s : List Int × Bool} (h : s.2 = false) (h1 : ¬ x ≤ y) (h2 : ¬ y = x) : putStep idZ x s y = (s.1 ++ [y], false) := by simp [putStep, idZ, h, h1, h2]
theorem putI_d {x y : Int} {s : List Int × Bool} (h : s.2 = true) (h2 : y = x) : putStep idZ x s y = (s.1, true) := by simp [putStep, h, h2]
theorem putI_e {x y : Int} {s : List Int × Bool} (h : s.2 = true) (h2 : ¬ y = x) : putStep idZ x s y = (s.1 ++ [y], true) := by simp [putStep, h, h2]
theorem stI_len0 (x : Int) (l : List Int) : (stI x l).1.length ≤ l.length + 1 ∧ ((stI x l).2 = false → (stI x l).1.length ≤ l.length) := by
  induction l using snocRec with
  | nil => simp [stI]
  | snoc l y ih =>
    rw [stI_snoc]
    rcases hd : (stI x l).2 with _ | _
    · have := ih.2 hd
      by_cases h1 : x ≤ y
      · by_cases h2 : y = x
        · rw [putI_a hd h1 h2]; simp; omega
        · rw [putI_b hd h1 h2]; simp; omega
      · rw [putI_c hd h1 (by omega)]; simp; omega
    · have := ih.1
      by_cases h2 : y = x
      · rw [putI_d hd h2]; simp; omega
      · rw [putI_e hd h2]; simp; omega
theorem stI_len (x : Int) (l : List Int) : (stI x l).1.length ≤ l.length + 1 := (stI_len0 x l).1
theorem stI_len2 (x : Int) (l : List Int) (h : (stI x l).2 = false) : (stI x l).1.length ≤ l.length := (stI_len0 x l).2 h
theorem cellNewI (w : World) (i : Int) : (w.alloc (.cells #[.int .i64 i] 3)).cell? ⟨w.heap.size, 0, none⟩ = some (.int .i64 i) := by rw [World.cell?_alloc_new]; rfl
theorem OwnI.asSlice' {w : World} {B : Nat} {v : Value} {l : List Int} (h : OwnI w B v l) : ∃ (g : Option Addr) (cap n : Nat), v = .slice g n cap ∧ n = l.length := by
  rcases h.2 with ⟨rfl, h0⟩ | ⟨g, cap, cur, rfl, _⟩
  · exact ⟨none, 0, 0, rfl, h0.symm⟩
  · exact ⟨_, cap, _, rfl, rfl⟩
theorem wpList_apI {ops : Array Oper} {rest : List Oper} {op : Oper} {a : Act} {w : World} {Q : Exit → Act → World → Prop} {s x : Operand} {v : Value} {l : List Int} {B q : Nat} (i : Int) (hgd : op.guard = none) (ho : op.op = .call { callee := .builtin .append, args := #[s, x], argTypes := #[50, 50] }) (hs : a.eval s = v) (hx : a.eval x = .slice (some ⟨q, 0, none⟩) 1 1)
    (hown : OwnI w B v l) (hq : w.cell? ⟨q, 0, none⟩ = some (.int .i64 i)) (hl : l.length ≤ 100000) (hB : B ≤ w.heap.size) (h : ∀ v' W, OwnI W B v' (l ++ [i]) → w.grownBy W v.ownBlock → wpList Tryz.prog ops Q rest (a.put op.dst v') W) : wpList Tryz.prog ops Q (op :: rest) a w := by
  obtain ⟨i0, hi, hz0, hz1, hz2⟩ := info_parts Tryz.infoI
  refine wpList_append_own w hgd s x 50 ho B 3 i0 _ 1 8 Tryz.underlying50 hi hz0 hz1 hz2 rfl (by decide) v l.length _ hs hown ⟨q, 0, none⟩ 1 1 [.int .i64 i] hx rfl ?_ (by intro u hu; simp at hu; subst hu; rfl) (by unfold maxLen; omega) (by omega) hB ?_
  · intro j u hj
    rcases j with _ | j
    · simp at hj; subst hj
      rw [show (⟨q, 0, none⟩ : Addr).add 0 = ⟨q, 0, none⟩ from rfl]; exact hq
    · simp at hj
  · intro v' W hown' hg _
    refine h v' W ?_ hg
    unfold OwnI nums
    rw [List.map_append, List.length_append]
    exact hown'
set_option maxHeartbeats 8000000 in
set_option maxRecDepth 100000 in
theorem rNote {w : World} {p : Nat} {nd c : Int} {v u : Value} {es : List Ev} {ids : List Int} {x : Int} (h : Rx w p nd c v u es ids) (hl : ids.length ≤ 20000) : Calls Tryz.prog 77 #[ptr p, .int .i64 x] w fun e w' => e = .returned (.tuple #[]) ∧ (∃ u', Rx w' p nd c v u' es (placeG idZ x ids)) ∧ Tch (fun k => k = p) w w' := by
  have HRX0 := hid h
  have hp := h.lt
  obtain ⟨-, -, -, hcell, -⟩ := h.cells
  obtain ⟨b, o, cap, a, rfl, ha, hc, hb⟩ := h.ids.sl
  have HCL := hid hcell
  have HPL := hid hp
  clear h hcell hp
  go_enter Tryz.func77, Tryz.ntmps77
  go_wp2_with fail
  go_loopw [4, 5, 6] (fun u d i wr => ∃ (k : Nat), k ≤ ids.length ∧ i = .int .i64 k ∧ d = .bool (stI x (ids.take k)).2 ∧ OwnI wr w.heap.size u (stI x (ids.take k)).1 ∧ Below w.heap.size w wr) (fun _ _ i _ => ids.length - (RowKit.intOf i).toNat)
  case atStart => exact ⟨0, Nat.zero_le _, rfl, rfl, OwnI.nil _ _, Below.refl _ _⟩
  case round =>
    obtain ⟨k, hk, rfl, rfl, hown, hB⟩ := hrel
    have HN := hid hown
    have HB := hid hB
    have HBB := hid hB
    have HLN := hid (stI_len x (ids.take k))
    have HKL : Hid (∀ W, Below w.heap.size w W → W.cell? ⟨p, 3, none⟩ = some (.slice a ids.length cap)) := hid fun W hb => (hb.cell (p := ⟨p, 3, none⟩) HPL.out).trans HCL.out
    have kL := HKL.out _ HB.out
    obtain ⟨g0, cap0, n0, rfl, -⟩ := hown.asSlice'
    clear hB hown
    by_cases hlt : k < ids.length
    · obtain rfl := ha (by omega)
      obtain ⟨y, he⟩ : ∃ y, ids[k]? = some y := ⟨ids[k], List.getElem?_eq_getElem hlt⟩
      have hbw := hb (by omega)
      have HKY : Hid (∀ W, Below w.heap.size w W → W.cell? ⟨b, o + k, none⟩ = some (.int .i64 y)) := hid fun W hB => (hB.cell (p := ⟨b, o + k, none⟩) hbw).trans (hc k y he)
      have ky : wr.cell? ⟨b, o + k, none⟩ = some (.int .i64 y) := HKY.out _ HB.out
      have HST := hid (show stI x (ids.take (k + 1)) = putStep idZ x (stI x (ids.take k)) y by rw [takeN_snoc he, stI_snoc])
      have HTL : Hid ((stI x (ids.take k)).1.length ≤ 20001) := hid (by have := HLN.out; rw [List.length_take] at this; omega)
      clear hc he
      rcases hd : (stI x (ids.take k)).2 with _ | _
      · have HD := hid hd
        clear hd
        by_cases h1 : x ≤ y
        · by_cases h2 : y = x
          · skip
            go_wp2_with (first
              | (at_builtin; ((with_reducible refine wpList_apI (s := ?as11) (x := ?ax11) (l := (stI x (ids.take k)).1) (B := w.heap.size) (q := wr.heap.size) x ?ag11 ?ao11 ?av11 ?aw11 (HN.out.alloc _) (cellNewI _ _) (by have := HTL.out; (try simp only [List.length_append, List.length_singleton]); omega) (by have := HB.out.size; (try rw [World.size_alloc]); omega) ?_); (case ag11 => rfl); (case ao11 => rfl); (case av11 => rfl); (case aw11 => rfl); intro v11 W11 hO11 hg11; have HB11 := hid ((HB.out.alloc HB.out.size _).grown hg11 (by have := HB.out.size; (try rw [World.size_alloc]); omega) (fun j hj => (HN.out.lt j hj).1)); have HN11 := hid hO11; obtain ⟨g11, cap11, n11, rfl, -⟩ := hO11.asSlice'; have kL := HKL.out _ HB11.out; have ky : W11.cell? ⟨b, o + k, none⟩ = some (.int .i64 y) := HKY.out _ HB11.out; clear hO11 hg11))
              | fail)
            go_roundw
            case rel => exact ⟨k + 1, by omega, by congr 1, by rw [HST.out, putI_a HD.out (by omega) h2], by rw [HST.out, putI_a HD.out (by omega) h2]; exact HN11.out, HB11.out⟩
            case measure => simp [RowKit.intOf]; omega
          · skip
            go_wp2_with (first
              | (at_builtin; ((with_reducible refine wpList_apI (s := ?as12) (x := ?ax12) (l := (stI x (ids.take k)).1) (B := w.heap.size) (q := wr.heap.size) x ?ag12 ?ao12 ?av12 ?aw12 (HN.out.alloc _) (cellNewI _ _) (by have := HTL.out; (try simp only [List.length_append, List.length_singleton]); omega) (by have := HB.out.size; (try rw [World.size_alloc]); omega) ?_); (case ag12 => rfl); (case ao12 => rfl); (case av12 => rfl); (case aw12 => rfl); intro v12 W12 hO12 hg12; have HB12 := hid ((HB.out.alloc HB.out.size _).grown hg12 (by have := HB.out.size; (try rw [World.size_alloc]); omega) (fun j hj => (HN.out.lt j hj).1)); have HN12 := hid hO12; obtain ⟨g12, cap12, n12, rfl, -⟩ := hO12.asSlice'; have kL := HKL.out _ HB12.out; have ky : W12.cell? ⟨b, o + k, none⟩ = some (.int .i64 y) := HKY.out _ HB12.out; clear hO12 hg12))
              | (at_builtin; ((with_reducible refine wpList_apI (s := ?as13) (x := ?ax13) (l := ((stI x (ids.take k)).1 ++ [x])) (B := w.heap.size) (q := W12.heap.size) y ?ag13 ?ao13 ?av13 ?aw13 (HN12.out.alloc _) (cellNewI _ _) (by have := HTL.out; (try simp only [List.length_append, List.length_singleton]); omega) (by have := HB12.out.size; (try rw [World.size_alloc]); omega) ?_); (case ag13 => rfl); (case ao13 => rfl); (case av13 => rfl); (case aw13 => rfl); intro v13 W13 hO13 hg13; have HB13 := hid ((HB12.out.alloc HB12.out.size _).grown hg13 (by have := HB12.out.size; (try rw [World.size_alloc]); omega) (fun j hj => (HN12.out.lt j hj).1)); have HN13 := hid hO13; obtain ⟨g13, cap13, n13, rfl, -⟩ := hO13.asSlice'; have kL := HKL.out _ HB13.out; have ky : W13.cell? ⟨b, o + k, none⟩ = some (.int .i64 y) := HKY.out _ HB13.out; clear hO13 hg13))
              | fail)
            go_roundw
            case rel => exact ⟨k + 1, by omega, by congr 1, by rw [HST.out, putI_b HD.out (by omega) h2], by rw [HST.out, putI_b HD.out (by omega) h2]; exact HN13.out, HB13.out⟩
            case measure => simp [RowKit.intOf]; omega
        · have h2 : ¬ y = x := by omega
          go_wp2_with (first
            | (at_builtin; ((with_reducible refine wpList_apI (s := ?as14) (x := ?ax14) (l := (stI x (ids.take k)).1) (B := w.heap.size) (q := wr.heap.size) y ?ag14 ?ao14 ?av14 ?aw14 (HN.out.alloc _) (cellNewI _ _) (by have := HTL.out; (try simp only [List.length_append, List.length_singleton]); omega) (by have := HB.out.size; (try rw [World.size_alloc]); omega) ?_); (case ag14 => rfl); (case ao14 => rfl); (case av14 => rfl); (case aw14 => rfl); intro v14 W14 hO14 hg14; have HB14 := hid ((HB.out.alloc HB.out.size _).grown hg14 (by have := HB.out.size; (try rw [World.size_alloc]); omega) (fun j hj => (HN.out.lt j hj).1)); have HN14 := hid hO14; obtain ⟨g14, cap14, n14, rfl, -⟩ := hO14.asSlice'; have kL := HKL.out _ HB14.out; have ky : W14.cell? ⟨b, o + k, none⟩ = some (.int .i64 y) := HKY.out _ HB14.out; clear hO14 hg14))
            | fail)
          go_roundw
          case rel => exact ⟨k + 1, by omega, by congr 1, by rw [HST.out, putI_c HD.out (by omega) h2], by rw [HST.out, putI_c HD.out (by omega) h2]; exact HN14.out, HB14.out⟩
          case measure => simp [RowKit.intOf]; omega
      · have HD := hid hd
        clear hd
        by_cases h2 : y = x
        · skip
          go_wp2_with (first
            | fail)
          go_roundw
          case rel => exact ⟨k + 1, by omega, by congr 1, by rw [HST.out, putI_d HD.out h2], by rw [HST.out, putI_d HD.out h2]; exact HN.out, HB.out⟩
          case measure => simp [RowKit.intOf]; omega
        · skip
          go_wp2_with (first
            | (at_builtin; ((with_reducible refine wpList_apI (s := ?as15) (x := ?ax15) (l := (stI x (ids.take k)).1) (B := w.heap.size) (q := wr.heap.size) y ?ag15 ?ao15 ?av15 ?aw15 (HN.out.alloc _) (cellNewI _ _) (by have := HTL.out; (try simp only [List.length_append, List.length_singleton]); omega) (by have := HB.out.size; (try rw [World.size_alloc]); omega) ?_); (case ag15 => rfl); (case ao15 => rfl); (case av15 => rfl); (case aw15 => rfl); intro v15 W15 hO15 hg15; have HB15 := hid ((HB.out.alloc HB.out.size _).grown hg15 (by have := HB.out.size; (try rw [World.size_alloc]); omega) (fun j hj => (HN.out.lt j hj).1)); have HN15 := hid hO15; obtain ⟨g15, cap15, n15, rfl, -⟩ := hO15.asSlice'; have kL := HKL.out _ HB15.out; have ky : W15.cell? ⟨b, o + k, none⟩ = some (.int .i64 y) := HKY.out _ HB15.out; clear hO15 hg15))
            | fail)
          go_roundw
          case rel => exact ⟨k + 1, by omega, by congr 1, by rw [HST.out, putI_e HD.out h2], by rw [HST.out, putI_e HD.out h2]; exact HN15.out, HB15.out⟩
          case measure => simp [RowKit.intOf]; omega
    · have hkk : k = ids.length := by omega
      subst hkk
      rw [List.take_length] at HN HLN ⊢
      clear HB
      have HFZ : Hid (∀ W, Below w.heap.size w W → W.frozen? ⟨p, 3, none⟩ = false) := hid fun W hb => (HRX0.out.on hb).cells.2.2.2.2.2.2
      have fz := HFZ.out _ HBB.out
      rcases hd : (stI x ids).2 with _ | _
      · have HD := hid hd
        clear hd
        go_wp2_with (first
          | (at_builtin; ((with_reducible refine wpList_apI (s := ?as0) (x := ?ax0) (l := (stI x ids).1) (B := w.heap.size) (q := wr.heap.size) x ?ag0 ?ao0 ?av0 ?aw0 (HN.out.alloc _) (cellNewI _ _) (by have := HLN.out; omega) (by have := HBB.out.size; (try rw [World.size_alloc]); omega) ?_); (case ag0 => rfl); (case ao0 => rfl); (case av0 => rfl); (case aw0 => rfl); intro v1 W1 hO1 hg1; have HB1 := hid ((HBB.out.alloc HBB.out.size _).grown hg1 (by have := HBB.out.size; (try rw [World.size_alloc]); omega) (fun j hj => (HN.out.lt j hj).1)); have HN1 := hid hO1; obtain ⟨g1, cap1, n1, rfl, -⟩ := hO1.asSlice'; have kL := HKL.out _ HB1.out; have fz := HFZ.out _ HB1.out; clear hO1 hg1))
          | fail)
        go_end0
        obtain ⟨h1, h2⟩ := (HRX0.out.on HB1.out).set3 (own_monoB HN1.out (Nat.zero_le _))
        exact ⟨rfl, ⟨_, by rw [show placeG idZ x ids = (stI x ids).1 ++ [x] from by unfold placeG putEnd; rw [if_neg (by rw [HD.out]; simp)]]; exact h1⟩, (Tch.ofBelow HB1.out).trans h2⟩
      · have HD := hid hd
        clear hd
        go_wp2_with fail
        go_end0
        obtain ⟨h1, h2⟩ := (HRX0.out.on HBB.out).set3 (own_monoB HN.out (Nat.zero_le _))
        exact ⟨rfl, ⟨_, by rw [show placeG idZ x ids = (stI x ids).1 from by unfold placeG putEnd; rw [if_pos HD.out]]; exact h1⟩, (Tch.ofBelow HBB.out).trans h2⟩
end Go.Proofs.YtogoibigabpkhaaGreat

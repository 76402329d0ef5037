import Derived.Test.YtlehcaacfgocaaaGreatVOwnWZm
import Derived.Test.YtlehcaacfgocaaaGreatVOwn4Zm
import Derived.Test.YtlehcaacfgocaaaGreatG35
import Derived.Test.YtlehcaacfgocaaaGreatVConcatZm
namespace Go.Proofs.YtlehcaacfgocaaaGreat
set_option linter.unusedVariables false
open Go.RowKit
open Go.Lib (hid)
theorem cOwnM {w : World} {m : Ms} (hm : m.at w) (hms : m.short 1024) : Calls Tryz.prog 65 #[.agg m.m.arr] w fun e w' => e = .returned (.bool (ownB m)) ∧ Below w.heap.size w w' := by
  by_cases h0 : m.m.so = 0
  · exact cOwn0 hm hms h0
  by_cases h1 : m.m.so = 1
  · exact cOwn1 hm hms h1
  by_cases h2 : m.m.so = 2
  · exact cOwn2 hm hms h2
  by_cases h4 : m.m.so = 4
  · exact cOwn4 hm hms h4
  by_cases h5 : m.m.so = 5
  · exact cOwn5 hm hms h5
  by_cases h7 : m.m.so = 7
  · exact cOwn7 hm hms h7
  by_cases h8 : m.m.so = 8
  · exact cOwn8 hm hms h8
  exact cOwnE hm hms h0 h1 h2 h4 h5 h7 h8
end Go.Proofs.YtlehcaacfgocaaaGreat
namespace Go.Proofs.YtlehcaacfgocaaaGreat
set_option linter.unusedVariables false
open Go.RowKit
open Go.Lib (hid)
theorem loadGM {ops : Array Oper} {rest : List Oper} {op : Oper} {a : Act} {w : World} {Q : Exit → Act → World → Prop} {x : Operand} {b : Nat} (m : Mg) (hgd : Region.wanted op (yielded ops a.tmps) = true) (ho : op.op = .load 50 x)
    (hx : a.eval x = .pointer (some ⟨b, 0, none⟩)) (hc : OM w b m) (h : wpList Tryz.prog ops Q rest (a.put op.dst (.agg m.arr)) w) : wpList Tryz.prog ops Q (op :: rest) a w :=
  BigFrame.wpList_want hgd fun _ hK => wp_load_mid 50 x ho b 0 hx m.list _ hc.range Tryz.underlying50 rfl (infoM m) (hK _ _ h)
theorem Sl.one {w : World} {c : C7} {T : TypeId} : Sl (w.alloc (.cells #[.int .i64 c.i, .int .i64 c.k, .int .i64 c.s, .int .i64 c.t, .int .i64 c.d, .int .i64 c.p, .int .i64 c.q] T)) (.slice (some ⟨w.heap.size, 0, none⟩) 1 1) [c] := by
  refine ⟨w.heap.size, 0, 1, _, rfl, fun h => by simp at h, fun _ => rfl, ?_, fun _ => by simp⟩
  intro j d hd f v hv
  match j, hd with
  | 0, hd =>
    obtain rfl := Option.some.inj hd
    rw [World.cell?_alloc_new, Nat.zero_add, Nat.zero_mul, Nat.zero_add, List.getElem?_toArray]
    exact hv
  | j + 1, hd => simp at hd
set_option maxHeartbeats 16000000 in
set_option maxRecDepth 100000 in
theorem cRightM {w : World} {m : Ms} (hm : m.at w) (hms : m.short 1024) : Calls Tryz.prog 37 #[.agg m.m.arr] w fun e w' => e = .returned (.bool (rightM m)) ∧ Below w.heap.size w w' := by
  have HB := hid (laid1_b w (.cells m.m.arr 50))
  have HM : Hid (OM (w.alloc (.cells m.m.arr 50)) w.heap.size m.m) := hid (laid1_0 w _)
  obtain ⟨so, hso⟩ : ∃ z, z = m.m.so := ⟨_, rfl⟩
  obtain ⟨fr, hfr⟩ : ∃ z, z = m.m.fr := ⟨_, rfl⟩
  obtain ⟨tt, htt⟩ : ∃ z, z = m.m.tt := ⟨_, rfl⟩
  obtain ⟨bal, hbal⟩ : ∃ z, z = m.m.bal := ⟨_, rfl⟩
  obtain ⟨r1, h1⟩ : ∃ z, z = inB so 9 := ⟨_, rfl⟩
  obtain ⟨r2, h2⟩ : ∃ z, z = inB fr 9 := ⟨_, rfl⟩
  obtain ⟨r3, h3⟩ : ∃ z, z = inB tt 9 := ⟨_, rfl⟩
  obtain ⟨r4, h4⟩ : ∃ z, z = withinB bal 1048576 := ⟨_, rfl⟩
  obtain ⟨r5, h5⟩ : ∃ z, z = m.m.c.ok := ⟨_, rfl⟩
  obtain ⟨r6, h6⟩ : ∃ z, z = ownB m := ⟨_, rfl⟩
  have HR : Hid (rightM m = (r1 && (r2 && (r3 && (r4 && (r5 && r6)))))) := hid (by unfold rightM; subst h1 h2 h3 h4 h5 h6 hso hfr htt hbal; rfl)
  have H1 := hid (fun W => cSortW so W)
  rw [← h1] at H1
  have H2 := hid (fun W => cReplicaW fr W)
  rw [← h2] at H2
  have H3 := hid (fun W => cReplicaW tt W)
  rw [← h3] at H3
  have H4 := hid (fun W => cBallotW bal W)
  rw [← h4] at H4
  have H5 : Hid (∀ W : World, Calls Tryz.prog 64 #[.slice (some ⟨W.heap.size, 0, none⟩) 1 1] (W.alloc (.cells #[.int .i64 m.m.c.i, .int .i64 m.m.c.k, .int .i64 m.m.c.s, .int .i64 m.m.c.t, .int .i64 m.m.c.d, .int .i64 m.m.c.p, .int .i64 m.m.c.q] 45)) fun e w' => e = .returned (.bool r5) ∧ Below (W.alloc (.cells #[.int .i64 m.m.c.i, .int .i64 m.m.c.k, .int .i64 m.m.c.s, .int .i64 m.m.c.t, .int .i64 m.m.c.d, .int .i64 m.m.c.p, .int .i64 m.m.c.q] 45)).heap.size (W.alloc (.cells #[.int .i64 m.m.c.i, .int .i64 m.m.c.k, .int .i64 m.m.c.s, .int .i64 m.m.c.t, .int .i64 m.m.c.d, .int .i64 m.m.c.p, .int .i64 m.m.c.q] 45)) w') := hid fun W => by
    have := cRight' (Sl.one (w := W) (c := m.m.c) (T := 45)) (by simp)
    rw [show ([m.m.c] : List C7).all C7.ok = r5 by rw [h5]; simp] at this
    exact this
  have H6 := hid (fun W (hB : Below w.heap.size w W) => cOwnM (w := W) (hm.on hB) hms)
  rw [← h6] at H6
  have HSO := hid hso
  have HFR := hid hfr
  have HTT := hid htt
  have HBAL := hid hbal
  clear h1 h2 h3 h4 h5 h6 hso hfr htt hbal hm hms
  go_enter Tryz.func37, Tryz.ntmps37
  have tok : Hid (0 = 0) := hid rfl
  rcases r1 with _ | _
  · go_wp2_with (first
      | (clear tok; (with_reducible refine opaqueW (w.alloc (.cells m.m.arr 50)) ?_); intro W0 hW; rw [← hW] at HB HM; clear hW; have c0 : W0.cell? ⟨w.heap.size, 0, none⟩ = some (.int .i64 so) := (by rw [HSO.out]; exact HM.out.cell (m := m.m) (j := 0) rfl); have c1 : W0.cell? ⟨w.heap.size, 1, none⟩ = some (.int .i64 fr) := (by rw [HFR.out]; exact HM.out.cell (m := m.m) (j := 1) rfl); have c2 : W0.cell? ⟨w.heap.size, 2, none⟩ = some (.int .i64 tt) := (by rw [HTT.out]; exact HM.out.cell (m := m.m) (j := 2) rfl); have c3 : W0.cell? ⟨w.heap.size, 3, none⟩ = some (.int .i64 bal) := (by rw [HBAL.out]; exact HM.out.cell (m := m.m) (j := 3) rfl); have c4 : W0.cell? ⟨w.heap.size, 4, none⟩ = some (.int .i64 m.m.c.i) := HM.out.cell (m := m.m) (j := 4) rfl; have c5 : W0.cell? ⟨w.heap.size, 5, none⟩ = some (.int .i64 m.m.c.k) := HM.out.cell (m := m.m) (j := 5) rfl; have c6 : W0.cell? ⟨w.heap.size, 6, none⟩ = some (.int .i64 m.m.c.s) := HM.out.cell (m := m.m) (j := 6) rfl; have c7 : W0.cell? ⟨w.heap.size, 7, none⟩ = some (.int .i64 m.m.c.t) := HM.out.cell (m := m.m) (j := 7) rfl; have c8 : W0.cell? ⟨w.heap.size, 8, none⟩ = some (.int .i64 m.m.c.d) := HM.out.cell (m := m.m) (j := 8) rfl; have c9 : W0.cell? ⟨w.heap.size, 9, none⟩ = some (.int .i64 m.m.c.p) := HM.out.cell (m := m.m) (j := 9) rfl; have c10 : W0.cell? ⟨w.heap.size, 10, none⟩ = some (.int .i64 m.m.c.q) := HM.out.cell (m := m.m) (j := 10) rfl)
      | (go_at_call 61; refine (H1.out _).mono ?_; rintro z wq ⟨rfl, rfl⟩)
      | fail)
    go_ret
    rw [HR.out]
    exact ⟨rfl, HB.out⟩
  · rcases r2 with _ | _
    · go_wp2_with (first
        | (clear tok; (with_reducible refine opaqueW (w.alloc (.cells m.m.arr 50)) ?_); intro W0 hW; rw [← hW] at HB HM; clear hW; have c0 : W0.cell? ⟨w.heap.size, 0, none⟩ = some (.int .i64 so) := (by rw [HSO.out]; exact HM.out.cell (m := m.m) (j := 0) rfl); have c1 : W0.cell? ⟨w.heap.size, 1, none⟩ = some (.int .i64 fr) := (by rw [HFR.out]; exact HM.out.cell (m := m.m) (j := 1) rfl); have c2 : W0.cell? ⟨w.heap.size, 2, none⟩ = some (.int .i64 tt) := (by rw [HTT.out]; exact HM.out.cell (m := m.m) (j := 2) rfl); have c3 : W0.cell? ⟨w.heap.size, 3, none⟩ = some (.int .i64 bal) := (by rw [HBAL.out]; exact HM.out.cell (m := m.m) (j := 3) rfl); have c4 : W0.cell? ⟨w.heap.size, 4, none⟩ = some (.int .i64 m.m.c.i) := HM.out.cell (m := m.m) (j := 4) rfl; have c5 : W0.cell? ⟨w.heap.size, 5, none⟩ = some (.int .i64 m.m.c.k) := HM.out.cell (m := m.m) (j := 5) rfl; have c6 : W0.cell? ⟨w.heap.size, 6, none⟩ = some (.int .i64 m.m.c.s) := HM.out.cell (m := m.m) (j := 6) rfl; have c7 : W0.cell? ⟨w.heap.size, 7, none⟩ = some (.int .i64 m.m.c.t) := HM.out.cell (m := m.m) (j := 7) rfl; have c8 : W0.cell? ⟨w.heap.size, 8, none⟩ = some (.int .i64 m.m.c.d) := HM.out.cell (m := m.m) (j := 8) rfl; have c9 : W0.cell? ⟨w.heap.size, 9, none⟩ = some (.int .i64 m.m.c.p) := HM.out.cell (m := m.m) (j := 9) rfl; have c10 : W0.cell? ⟨w.heap.size, 10, none⟩ = some (.int .i64 m.m.c.q) := HM.out.cell (m := m.m) (j := 10) rfl)
        | (go_at_call 61; refine (H1.out _).mono ?_; rintro z wq ⟨rfl, rfl⟩)
        | (go_at_call 62; first | (with_reducible refine (H2.out _).mono ?_; rintro z wq ⟨rfl, rfl⟩) | (with_reducible refine (H3.out _).mono ?_; rintro z wq ⟨rfl, rfl⟩))
        | fail)
      go_ret
      rw [HR.out]
      exact ⟨rfl, HB.out⟩
    · rcases r3 with _ | _
      · go_wp2_with (first
          | (clear tok; (with_reducible refine opaqueW (w.alloc (.cells m.m.arr 50)) ?_); intro W0 hW; rw [← hW] at HB HM; clear hW; have c0 : W0.cell? ⟨w.heap.size, 0, none⟩ = some (.int .i64 so) := (by rw [HSO.out]; exact HM.out.cell (m := m.m) (j := 0) rfl); have c1 : W0.cell? ⟨w.heap.size, 1, none⟩ = some (.int .i64 fr) := (by rw [HFR.out]; exact HM.out.cell (m := m.m) (j := 1) rfl); have c2 : W0.cell? ⟨w.heap.size, 2, none⟩ = some (.int .i64 tt) := (by rw [HTT.out]; exact HM.out.cell (m := m.m) (j := 2) rfl); have c3 : W0.cell? ⟨w.heap.size, 3, none⟩ = some (.int .i64 bal) := (by rw [HBAL.out]; exact HM.out.cell (m := m.m) (j := 3) rfl); have c4 : W0.cell? ⟨w.heap.size, 4, none⟩ = some (.int .i64 m.m.c.i) := HM.out.cell (m := m.m) (j := 4) rfl; have c5 : W0.cell? ⟨w.heap.size, 5, none⟩ = some (.int .i64 m.m.c.k) := HM.out.cell (m := m.m) (j := 5) rfl; have c6 : W0.cell? ⟨w.heap.size, 6, none⟩ = some (.int .i64 m.m.c.s) := HM.out.cell (m := m.m) (j := 6) rfl; have c7 : W0.cell? ⟨w.heap.size, 7, none⟩ = some (.int .i64 m.m.c.t) := HM.out.cell (m := m.m) (j := 7) rfl; have c8 : W0.cell? ⟨w.heap.size, 8, none⟩ = some (.int .i64 m.m.c.d) := HM.out.cell (m := m.m) (j := 8) rfl; have c9 : W0.cell? ⟨w.heap.size, 9, none⟩ = some (.int .i64 m.m.c.p) := HM.out.cell (m := m.m) (j := 9) rfl; have c10 : W0.cell? ⟨w.heap.size, 10, none⟩ = some (.int .i64 m.m.c.q) := HM.out.cell (m := m.m) (j := 10) rfl)
          | (go_at_call 61; refine (H1.out _).mono ?_; rintro z wq ⟨rfl, rfl⟩)
          | (go_at_call 62; first | (with_reducible refine (H2.out _).mono ?_; rintro z wq ⟨rfl, rfl⟩) | (with_reducible refine (H3.out _).mono ?_; rintro z wq ⟨rfl, rfl⟩))
          | fail)
        go_ret
        rw [HR.out]
        exact ⟨rfl, HB.out⟩
      · rcases r4 with _ | _
        · go_wp2_with (first
            | (clear tok; (with_reducible refine opaqueW (w.alloc (.cells m.m.arr 50)) ?_); intro W0 hW; rw [← hW] at HB HM; clear hW; have c0 : W0.cell? ⟨w.heap.size, 0, none⟩ = some (.int .i64 so) := (by rw [HSO.out]; exact HM.out.cell (m := m.m) (j := 0) rfl); have c1 : W0.cell? ⟨w.heap.size, 1, none⟩ = some (.int .i64 fr) := (by rw [HFR.out]; exact HM.out.cell (m := m.m) (j := 1) rfl); have c2 : W0.cell? ⟨w.heap.size, 2, none⟩ = some (.int .i64 tt) := (by rw [HTT.out]; exact HM.out.cell (m := m.m) (j := 2) rfl); have c3 : W0.cell? ⟨w.heap.size, 3, none⟩ = some (.int .i64 bal) := (by rw [HBAL.out]; exact HM.out.cell (m := m.m) (j := 3) rfl); have c4 : W0.cell? ⟨w.heap.size, 4, none⟩ = some (.int .i64 m.m.c.i) := HM.out.cell (m := m.m) (j := 4) rfl; have c5 : W0.cell? ⟨w.heap.size, 5, none⟩ = some (.int .i64 m.m.c.k) := HM.out.cell (m := m.m) (j := 5) rfl; have c6 : W0.cell? ⟨w.heap.size, 6, none⟩ = some (.int .i64 m.m.c.s) := HM.out.cell (m := m.m) (j := 6) rfl; have c7 : W0.cell? ⟨w.heap.size, 7, none⟩ = some (.int .i64 m.m.c.t) := HM.out.cell (m := m.m) (j := 7) rfl; have c8 : W0.cell? ⟨w.heap.size, 8, none⟩ = some (.int .i64 m.m.c.d) := HM.out.cell (m := m.m) (j := 8) rfl; have c9 : W0.cell? ⟨w.heap.size, 9, none⟩ = some (.int .i64 m.m.c.p) := HM.out.cell (m := m.m) (j := 9) rfl; have c10 : W0.cell? ⟨w.heap.size, 10, none⟩ = some (.int .i64 m.m.c.q) := HM.out.cell (m := m.m) (j := 10) rfl)
            | (go_at_call 61; refine (H1.out _).mono ?_; rintro z wq ⟨rfl, rfl⟩)
            | (go_at_call 62; first | (with_reducible refine (H2.out _).mono ?_; rintro z wq ⟨rfl, rfl⟩) | (with_reducible refine (H3.out _).mono ?_; rintro z wq ⟨rfl, rfl⟩))
            | (go_at_call 63; refine (H4.out _).mono ?_; rintro z wq ⟨rfl, rfl⟩)
            | fail)
          go_ret
          rw [HR.out]
          exact ⟨rfl, HB.out⟩
        · rcases r5 with _ | _
          · go_wp2_with (first
              | (clear tok; (with_reducible refine opaqueW (w.alloc (.cells m.m.arr 50)) ?_); intro W0 hW; rw [← hW] at HB HM; clear hW; have c0 : W0.cell? ⟨w.heap.size, 0, none⟩ = some (.int .i64 so) := (by rw [HSO.out]; exact HM.out.cell (m := m.m) (j := 0) rfl); have c1 : W0.cell? ⟨w.heap.size, 1, none⟩ = some (.int .i64 fr) := (by rw [HFR.out]; exact HM.out.cell (m := m.m) (j := 1) rfl); have c2 : W0.cell? ⟨w.heap.size, 2, none⟩ = some (.int .i64 tt) := (by rw [HTT.out]; exact HM.out.cell (m := m.m) (j := 2) rfl); have c3 : W0.cell? ⟨w.heap.size, 3, none⟩ = some (.int .i64 bal) := (by rw [HBAL.out]; exact HM.out.cell (m := m.m) (j := 3) rfl); have c4 : W0.cell? ⟨w.heap.size, 4, none⟩ = some (.int .i64 m.m.c.i) := HM.out.cell (m := m.m) (j := 4) rfl; have c5 : W0.cell? ⟨w.heap.size, 5, none⟩ = some (.int .i64 m.m.c.k) := HM.out.cell (m := m.m) (j := 5) rfl; have c6 : W0.cell? ⟨w.heap.size, 6, none⟩ = some (.int .i64 m.m.c.s) := HM.out.cell (m := m.m) (j := 6) rfl; have c7 : W0.cell? ⟨w.heap.size, 7, none⟩ = some (.int .i64 m.m.c.t) := HM.out.cell (m := m.m) (j := 7) rfl; have c8 : W0.cell? ⟨w.heap.size, 8, none⟩ = some (.int .i64 m.m.c.d) := HM.out.cell (m := m.m) (j := 8) rfl; have c9 : W0.cell? ⟨w.heap.size, 9, none⟩ = some (.int .i64 m.m.c.p) := HM.out.cell (m := m.m) (j := 9) rfl; have c10 : W0.cell? ⟨w.heap.size, 10, none⟩ = some (.int .i64 m.m.c.q) := HM.out.cell (m := m.m) (j := 10) rfl)
              | (go_at_call 61; refine (H1.out _).mono ?_; rintro z wq ⟨rfl, rfl⟩)
              | (go_at_call 62; first | (with_reducible refine (H2.out _).mono ?_; rintro z wq ⟨rfl, rfl⟩) | (with_reducible refine (H3.out _).mono ?_; rintro z wq ⟨rfl, rfl⟩))
              | (go_at_call 63; refine (H4.out _).mono ?_; rintro z wq ⟨rfl, rfl⟩)
              | (go_at_call 64; refine (H5.out W0).mono ?_; rintro z w5 ⟨rfl, hB⟩; have hb0 : Below W0.heap.size W0 w5 := (laid1_b W0 _).trans (hB.mono (by simp)); have HB5 := hid (HB.out.trans (hb0.mono HB.out.size)); have HM5 : Hid (OM w5 w.heap.size m.m) := hid (heapB HM.out hb0 (Array.getElem?_eq_some_iff.1 HM.out).1); clear hB hb0)
              | fail)
            go_ret
            rw [HR.out]
            exact ⟨rfl, HB5.out⟩
          · go_wp2_with (first
              | (clear tok; (with_reducible refine opaqueW (w.alloc (.cells m.m.arr 50)) ?_); intro W0 hW; rw [← hW] at HB HM; clear hW; have c0 : W0.cell? ⟨w.heap.size, 0, none⟩ = some (.int .i64 so) := (by rw [HSO.out]; exact HM.out.cell (m := m.m) (j := 0) rfl); have c1 : W0.cell? ⟨w.heap.size, 1, none⟩ = some (.int .i64 fr) := (by rw [HFR.out]; exact HM.out.cell (m := m.m) (j := 1) rfl); have c2 : W0.cell? ⟨w.heap.size, 2, none⟩ = some (.int .i64 tt) := (by rw [HTT.out]; exact HM.out.cell (m := m.m) (j := 2) rfl); have c3 : W0.cell? ⟨w.heap.size, 3, none⟩ = some (.int .i64 bal) := (by rw [HBAL.out]; exact HM.out.cell (m := m.m) (j := 3) rfl); have c4 : W0.cell? ⟨w.heap.size, 4, none⟩ = some (.int .i64 m.m.c.i) := HM.out.cell (m := m.m) (j := 4) rfl; have c5 : W0.cell? ⟨w.heap.size, 5, none⟩ = some (.int .i64 m.m.c.k) := HM.out.cell (m := m.m) (j := 5) rfl; have c6 : W0.cell? ⟨w.heap.size, 6, none⟩ = some (.int .i64 m.m.c.s) := HM.out.cell (m := m.m) (j := 6) rfl; have c7 : W0.cell? ⟨w.heap.size, 7, none⟩ = some (.int .i64 m.m.c.t) := HM.out.cell (m := m.m) (j := 7) rfl; have c8 : W0.cell? ⟨w.heap.size, 8, none⟩ = some (.int .i64 m.m.c.d) := HM.out.cell (m := m.m) (j := 8) rfl; have c9 : W0.cell? ⟨w.heap.size, 9, none⟩ = some (.int .i64 m.m.c.p) := HM.out.cell (m := m.m) (j := 9) rfl; have c10 : W0.cell? ⟨w.heap.size, 10, none⟩ = some (.int .i64 m.m.c.q) := HM.out.cell (m := m.m) (j := 10) rfl)
              | (go_at_call 61; refine (H1.out _).mono ?_; rintro z wq ⟨rfl, rfl⟩)
              | (go_at_call 62; first | (with_reducible refine (H2.out _).mono ?_; rintro z wq ⟨rfl, rfl⟩) | (with_reducible refine (H3.out _).mono ?_; rintro z wq ⟨rfl, rfl⟩))
              | (go_at_call 63; refine (H4.out _).mono ?_; rintro z wq ⟨rfl, rfl⟩)
              | (go_at_call 64; refine (H5.out W0).mono ?_; rintro z w5 ⟨rfl, hB⟩; have hb0 : Below W0.heap.size W0 w5 := (laid1_b W0 _).trans (hB.mono (by simp)); have HB5 := hid (HB.out.trans (hb0.mono HB.out.size)); have HM5 : Hid (OM w5 w.heap.size m.m) := hid (heapB HM.out hb0 (Array.getElem?_eq_some_iff.1 HM.out).1); clear hB hb0)
              | ((with_reducible refine loadGM (x := ?lx) (b := w.heap.size) m.m ?lg ?lo ?lxx ?lc ?lh); (case lo => rfl); (case lg => rfl); (case lxx => rfl); (case lc => exact HM5.out))
              | (go_at_call 65; refine (H6.out w5 HB5.out).mono ?_; rintro z w6 ⟨rfl, hB⟩; have HB6 := hid (HB5.out.trans (hB.mono HB5.out.size)); clear hB)
              | fail)
            go_ret
            rw [HR.out]
            exact ⟨rfl, HB6.out⟩
def takerV (q : Nat) (so : Int) : Value :=
  if so = 0 then .func (.func 66) #[ptr q] #[] else if so = 3 then .func (.func 67) #[ptr q] #[] else if so = 5 then .func (.func 68) #[ptr q] #[] else if so = 7 then .func (.func 69) #[ptr q] #[] else .nilFunc
set_option maxHeartbeats 1600000 in
set_option maxRecDepth 100000 in
theorem cTakerOf (q : Nat) (so : Int) (w : World) : Calls Tryz.prog 38 #[ptr q, .int .i64 so] w fun e w' => e = .returned (takerV q so) ∧ w = w' := by
  by_cases h0 : so = 0
  · subst h0
    go_enter Tryz.func38, Tryz.ntmps38
    go_wp2
    go_ret
    exact ⟨rfl, rfl⟩
  · have g0 : (so == 0) = false := by simpa using h0
    by_cases h3 : so = 3
    · subst h3
      go_enter Tryz.func38, Tryz.ntmps38
      go_wp2
      go_ret
      exact ⟨rfl, rfl⟩
    · have g3 : (so == 3) = false := by simpa using h3
      by_cases h5 : so = 5
      · subst h5
        go_enter Tryz.func38, Tryz.ntmps38
        go_wp2
        go_ret
        exact ⟨rfl, rfl⟩
      · have g5 : (so == 5) = false := by simpa using h5
        by_cases h7 : so = 7
        · subst h7
          go_enter Tryz.func38, Tryz.ntmps38
          go_wp2
          go_ret
          exact ⟨rfl, rfl⟩
        · have g7 : (so == 7) = false := by simpa using h7
          have HE : Hid (takerV q so = .nilFunc) := hid (by unfold takerV; rw [if_neg h0, if_neg h3, if_neg h5, if_neg h7])
          clear h0 h3 h5 h7
          go_enter Tryz.func38, Tryz.ntmps38
          go_wp2
          go_ret
          rw [HE.out]
          exact ⟨rfl, rfl⟩
set_option maxHeartbeats 1600000 in
set_option maxRecDepth 100000 in
theorem cOver {w : World} {B : Bd} {q x b b2 N : Nat} {nd : Int} {s : Sd} {wv : Value} {ws : List Ms} (h : Vo w B q x b b2 N nd s wv ws) : Calls Tryz.prog 15 #[ptr q] w fun e w' => e = .returned (.bool s.ov) ∧ w = w' := by
  obtain ⟨n, ids, hn, hv⟩ := h.ix
  have k0 := hv.cells.1
  have k2 := hv.cells.2.2.1
  obtain ⟨ov, ho⟩ : ∃ z, z = s.ov := ⟨_, rfl⟩
  rw [← ho] at k2 ⊢
  clear h hv hn ho
  rcases ov with _ | _
  · go_enter Tryz.func15, Tryz.ntmps15
    go_wp2
    go_ret
    exact ⟨rfl, rfl⟩
  · go_enter Tryz.func15, Tryz.ntmps15
    go_wp2
    go_ret
    exact ⟨rfl, rfl⟩
end Go.Proofs.YtlehcaacfgocaaaGreat
namespace Go.Proofs.YtlehcaacfgocaaaGreat
set_option linter.unusedVariables false
open Go.RowKit
open Go.Lib (hid)
theorem cLearnV {w : World} {B : Bd} {q x b b2 N : Nat} {nd : Int} {s : Sd} {wv : Value} {ws : List Ms} (h : Vo w B q x b b2 N nd s wv ws) {v : Value} {cs : List C7} (hv : Sl w v cs) (hcs : cs.length ≤ 1000) (hN : N + cs.length ≤ 10000) {r : Int} (hr : r = learnE s.xs cs) :
    Calls Tryz.prog 39 #[ptr x, v] w fun e w' => e = .returned (.int .i64 r) ∧ Vo w' B q x b b2 (N + cs.length) nd (if r = 0 then learnS s cs else s) wv ws ∧ Tch (TI x b b2) w w' := by
  obtain ⟨n, ids, hn, hV⟩ := h.ix
  refine (cLearn hV.ix (by omega) hv hcs hr).mono ?_
  rintro e w' ⟨rfl, hI, hT⟩
  refine ⟨rfl, ?_, hT⟩
  have hTV : Tch (TV q x b b2) w w' := tch_i hT
  by_cases h0 : r = 0
  · rw [if_pos h0] at hI ⊢
    have hx := hV.idx hT hI
    refine ⟨⟨n + cs.length, _, by omega, hx⟩, ?_, fun y hy => ?_, fun y hy => ?_, h.cb, fun m hm => h.ms hTV (h.wa m hm), fun y hy => ?_, h.wl⟩
    · have := fresh_len s.xs cs
      have := h.len
      simp [learnS]; omega
    · rcases List.mem_append.1 hy with hy | hy
      · exact h.en hTV (h.all y hy)
      · obtain ⟨c, _, rfl⟩ := fresh_new hy
        exact ⟨nilS w', nilS w', nilS w'⟩
    · rcases List.mem_append.1 hy with hy | hy
      · exact h.sh y hy
      · obtain ⟨c, _, rfl⟩ := fresh_new hy
        exact ⟨by simp, by simp, by simp⟩
    · rcases List.mem_append.1 hy with hy | hy
      · exact h.lo y hy
      · obtain ⟨c, _, rfl⟩ := fresh_new hy
        exact ⟨lowNil _ _, lowNil _ _, lowNil _ _⟩
  · rw [if_neg h0] at hI ⊢
    exact (h.step hTV (hV.idx hT hI) hn h.cb).mono (by omega)
theorem cSeeV {w : World} {B : Bd} {q x b b2 N : Nat} {nd : Int} {s : Sd} {wv : Value} {ws : List Ms} (h : Vo w B q x b b2 N nd s wv ws) (t : Int) :
    Calls Tryz.prog 32 #[ptr x, .int .i64 t] w fun e w' => e = .returned (.tuple #[]) ∧ Vo w' B q x b b2 N nd (seeS s t) wv ws ∧ Tch (TI x b b2) w w' := by
  obtain ⟨n, ids, hn, hV⟩ := h.ix
  refine (cSee hV.ix t).mono ?_
  rintro e w' ⟨rfl, hI, hT⟩
  have hT' : Tch (TI x b b2) w w' := hT.mono fun k hk => .inl hk
  exact ⟨rfl, h.step (tch_i hT') (hV.idx hT' hI) hn (see_bd h.cb), hT'⟩
theorem run_eqNN (W : World) : Sem.run Tryz.prog (binOp .eql 91 .nilFunc .nilFunc) W = .ok (.bool true) W := by kernel_rfl
theorem run_eqFN (g : FuncId) (q : Nat) (W : World) : Sem.run Tryz.prog (binOp .eql 91 (.func (.func g) #[ptr q] #[]) .nilFunc) W = .ok (.bool false) W := by kernel_rfl
def TakesP (g : FuncId) (q : Nat) (m : Ms) : Prop :=
    ∀ (w : World) (B : Bd) (x b b2 N : Nat) (nd : Int) (s : Sd) (wv : Value) (ws : List Ms), Vo w B q x b b2 N nd s wv ws → N + 3 + ws.length ≤ 20000 → Gd s → (∀ m ∈ ws, Wt s m) → B.top ≤ w.heap.size → ws.length ≤ 900 → m.at w → m.short 1024 → rightM m = true → m.low B → ∀ y : En, y.at w → y.low B → PutOk s y → (m.m.so ≠ 7 → ¬ m.m.bal < y.e.pr) →
      Calls Tryz.prog g #[ptr q, .agg m.m.arr, .agg y.e.arr] w (OutF w B q x b b2 (N + 2 + ws.length) nd wv (takeF nd s ws m y))
theorem cTake {q : Nat} {m : Ms} (ht : takesB m.m.so = true) : ∃ g : FuncId, takerV q m.m.so = .func (.func g) #[ptr q] #[] ∧ (∀ args W, (callFunc g args).run Tryz.prog W = .ok (.enter g args) W) ∧ TakesP g q m := by
  unfold takesB at ht
  simp only [Bool.or_eq_true, decide_eq_true_eq] at ht
  rcases ht with h0 | h3 | h5 | h7
  · refine ⟨66, by unfold takerV; rw [if_pos h0], enters_of Tryz.func66 (by kernel_rfl) rfl, ?_⟩
    intro w B x b b2 N nd s wv ws h hN hg hw hB hl hm hms hr hml y hy hyl ok hp
    refine (cProposeV h (by omega) hm hms (by omega) hB (right_bal hr).1 (own_full hr (.inl h0)) hy hml hyl ok (hp (by omega))).mono ?_
    intro e w' hp
    have e0 : takeF nd s ws m y = proposeF nd s ws m y := by unfold takeF; rw [if_pos h0]
    rw [e0]
    exact hp.mono (by omega)
  · refine ⟨67, by unfold takerV; rw [if_neg (by omega), if_pos h3], enters_of Tryz.func67 (by kernel_rfl) rfl, ?_⟩
    intro w B x b b2 N nd s wv ws h hN hg hw hB hl hm hms hr hml y hy hyl ok hp
    refine (cPrepare h (by omega) hm hms (right_bal hr).1 hy hml hyl ok (hp (by omega))).mono ?_
    intro e w' hp
    have e0 : takeF nd s ws m y = ((prepareF nd s m y).1, ws, (prepareF nd s m y).2) := by unfold takeF; rw [if_neg (by omega), if_pos h3]
    rw [e0]
    exact hp.toF.mono (by omega)
  · refine ⟨68, by unfold takerV; rw [if_neg (by omega), if_neg (by omega), if_pos h5], enters_of Tryz.func68 (by kernel_rfl) rfl, ?_⟩
    intro w B x b b2 N nd s wv ws h hN hg hw hB hl hm hms hr hml y hy hyl ok hp
    refine (cAcceptV h (by omega) hm hms (right_bal hr).1 (own_full hr (.inr (.inl h5))) hy hml hyl ok (hp (by omega))).mono ?_
    intro e w' hp
    have e0 : takeF nd s ws m y = ((acceptF nd s m y).1, ws, (acceptF nd s m y).2) := by unfold takeF; rw [if_neg (by omega), if_neg (by omega), if_pos h5]
    rw [e0]
    exact hp.toF.mono (by omega)
  · refine ⟨69, by unfold takerV; rw [if_neg (by omega), if_neg (by omega), if_neg (by omega), if_pos h7], enters_of Tryz.func69 (by kernel_rfl) rfl, ?_⟩
    intro w B x b b2 N nd s wv ws h hN hg hw hB hl hm hms hr hml y hy hyl ok hp
    refine (cSettle h (by omega) hg hw hB (by omega) hm hms (own_full hr (.inr (.inr h7))) hy hml hyl ok).mono ?_
    intro e w' hp
    have e0 : takeF nd s ws m y = settleF nd s ws m y := by unfold takeF; rw [if_neg (by omega), if_neg (by omega), if_neg (by omega)]
    rw [e0]
    exact hp.mono (by omega)
theorem no_take {q : Nat} {so : Int} (ht : takesB so = false) : takerV q so = .nilFunc := by
  unfold takesB at ht
  simp only [Bool.or_eq_false_iff, decide_eq_false_iff_not] at ht
  unfold takerV
  rw [if_neg ht.1, if_neg ht.2.1, if_neg ht.2.2.1, if_neg ht.2.2.2]
theorem cAnswerM {w : World} {B : Bd} {q x b b2 N : Nat} {nd : Int} {s : Sd} {wv : Value} {ws : List Ms} (h : Vo w B q x b b2 N nd s wv ws) (hN : N + 3 + ws.length ≤ 20000) (hg : Gd s) (hw : ∀ m ∈ ws, Wt s m) (hB : B.top ≤ w.heap.size) (hl : ws.length ≤ 900) {m : Ms} (hm : m.at w) (hms : m.short 1024) (hr : rightM m = true) (hml : m.low B) (hh : hasE s.xs m.m.c.i = true) {g : FuncId}
    (eg : ∀ args W, (callFunc g args).run Tryz.prog W = .ok (.enter g args) W)
    (hT : TakesP g q m) :
    Calls Tryz.prog 41 #[ptr q, .agg m.m.arr, .func (.func g) #[ptr q] #[]] w (OutF w B q x b b2 (N + 2 + ws.length) nd wv (answerT nd s ws m (lkE s.xs m.m.c.i))) := by
  have hy := lkE_has hh
  have hmem := (lkE_mem hh).1
  refine (cAnswerG (Post := OutF w B q x b b2 (N + 2 + ws.length) nd wv (takeF nd s ws m (lkE s.xs m.m.c.i))) h hy (ok_wf (right_bal hr).2) eg (fun e w' hp => by obtain ⟨v, _, _, e, _⟩ := hp; exact ⟨v, e⟩) fun hp W hBW => ?_).mono ?_
  · refine (hT _ _ _ _ _ _ _ _ _ _ (h.on hBW) hN hg hw (Nat.le_trans hB hBW.size) hl (hm.on hBW) hms hr hml _ ((h.all _ hmem).on hBW) (h.lo _ hmem) (putOk_lk hg h.sh hh) hp).mono ?_
    intro e w' hp
    exact hp.from (Tch.ofBelow hBW)
  · intro e w' hq
    unfold AnsPost at hq
    unfold answerT
    split
    · rename_i h1; rw [if_pos h1] at hq; exact hq.toF.mono (by omega)
    · rename_i h1
      rw [if_neg h1] at hq
      split
      · rename_i h2; rw [if_pos h2] at hq; exact hq.toF.mono (by omega)
      · rename_i h2; rw [if_neg h2] at hq; exact hq
theorem wp_bsC1 {o : Oper} {a : Act} {w : World} {K : Act → World → Prop} {Q : Exit → Act → World → Prop} {x : Operand} (c : C7) (ho : o.op = .buildSlice 46 1 #[(0, x)]) (hx : a.eval x = .agg c.arr7)
    (h : K (a.put o.dst (.slice (some ⟨w.heap.size, 0, none⟩) 1 1)) (w.alloc (.cells c.arr7 45))) : Oper.wp Tryz.prog o a w K Q := by
  unfold Oper.wp execOp
  simp only [ho, List.map_toArray, List.map_cons, List.map_nil, hx, Sem.run_bind, run_bs1 Tryz.underlying46 Tryz.sizeOf45 Tryz.zeroValue45 (show c.arr7.size = 7 from rfl) (by decide) (by decide) w, Result.andThen_ok]
  exact h
set_option maxRecDepth 100000 in
theorem run_bsR2 (u v : Sv) (w : World) : (Instr.buildSlice 114 2 #[(0, u.v), (1, v.v)]).run Tryz.prog w = .ok (.slice (some ⟨w.heap.size, 0, none⟩) 2 2) (w.alloc (.cells #[u.v, v.v] 46)) := by kernel_rfl
theorem wp_bsR2 {o : Oper} {a : Act} {w : World} {K : Act → World → Prop} {Q : Exit → Act → World → Prop} {x y : Operand} (u v : Sv) (ho : o.op = .buildSlice 114 2 #[(0, x), (1, y)]) (hx : a.eval x = u.v) (hy : a.eval y = v.v)
    (h : K (a.put o.dst (.slice (some ⟨w.heap.size, 0, none⟩) 2 2)) (w.alloc (.cells #[u.v, v.v] 46))) : Oper.wp Tryz.prog o a w K Q := by
  unfold Oper.wp execOp
  simp only [ho, List.map_toArray, List.map_cons, List.map_nil, hx, hy, Sem.run_bind, run_bsR2 u v w, Result.andThen_ok]
  exact h
theorem rows2 {w : World} {u v : Sv} {l k : List C7} (hu : Sl w u.v l) (hv : Sl w v.v k) : RowsC (w.alloc (.cells #[u.v, v.v] 46)) w.heap.size 0 [(u, l), (v, k)] := fun j p hp => by
  have ho := heap_alloc_new w (.cells #[u.v, v.v] 46)
  have hb := (Below.refl w.heap.size w).alloc (Nat.le_refl _) (.cells #[u.v, v.v] 46)
  rcases j with _ | _ | j
  · obtain rfl := Option.some.inj hp
    exact ⟨(cellAt' ho 0).trans rfl, hu.on hb⟩
  · obtain rfl := Option.some.inj hp
    exact ⟨(cellAt' ho 1).trans rfl, hv.on hb⟩
  · simp at hp
theorem OutF.over {w w' : World} {B : Bd} {q x b b2 N : Nat} {nd : Int} {wv v : Value} {r : Sd × List Ms × List An} (h : OutF w B q x b b2 N nd wv r (.returned v) w') : OutF w B q x b b2 N nd wv (r.1, r.2.1, []) (.returned (.slice Option.none 0 0)) w' := by
  obtain ⟨v, ls, wv', h1, h2, h3, h4, h5, h6, h7, h8⟩ := h
  exact ⟨_, [], wv', rfl, SlG.nil _ _ _, .inl ⟨rfl, rfl⟩, by simp, rfl, h6, h7, h8.1, fun k hk => .inr (.inr rfl), .inl rfl⟩
theorem OutF.ov {w w' : World} {B : Bd} {q x b b2 N : Nat} {nd : Int} {wv : Value} {r : Sd × List Ms × List An} {e : Ending} (h : OutF w B q x b b2 N nd wv r e w') : w'.cell? ⟨q, 0, Option.none⟩ = some (ptr x) ∧ w'.cell? ⟨q, 2, Option.none⟩ = some (.bool r.1.ov) := by
  obtain ⟨v, ls, wv', h1, h2, h3, h4, h5, h6, h7, h8⟩ := h
  exact ⟨h6.cell0, (cellAt' h6.ob 2).trans rfl⟩
theorem ready_gd {s : Sd} {m : Ms} (hg : Gd s) (h : learnE s.xs (m.m.c :: m.v) = 0) : Gd (readyS s m) := learn_gd hg h
theorem ready_wt {s : Sd} {m x : Ms} (h : Wt s x) : Wt (readyS s m) x := h.gr (fresh_gr _ _)
end Go.Proofs.YtlehcaacfgocaaaGreat

import Derived.Test.YtplodoindppleaaGreatVOwnWZm
import Derived.Test.YtplodoindppleaaGreatVOwn4Zm
import Derived.Test.YtplodoindppleaaGreatG05
namespace Go.Proofs.YtplodoindppleaaGreat
set_option linter.unusedVariables false
open Go.RowKit
open Go.Lib (hid)
theorem cOwnM {w : World} {m : Ms} (hm : m.at w) (hms : m.short 1024) : Calls Tryz.prog 63 #[.agg m.m.arr] w fun e w' => e = .returned (.bool (ownB m)) ∧ Below w.heap.size w w' := by
 by_cases h0 : m.m.so = 0
 · exact cOwn0 hm hms h0
 by_cases h1 : m.m.so = 1
 · exact cOwn1 hm hms h1
 by_cases h2 : m.m.so = 2
 · exact cOwn2 hm hms h2
 by_cases h4 : m.m.so = 4
 · exact cOwn4 hm hms h4
 by_cases h5 : m.m.so = 5
 · exact cOwn5 hm hms h5
 by_cases h7 : m.m.so = 7
 · exact cOwn7 hm hms h7
 by_cases h8 : m.m.so = 8
 · exact cOwn8 hm hms h8
 exact cOwnE hm hms h0 h1 h2 h4 h5 h7 h8
end Go.Proofs.YtplodoindppleaaGreat
namespace Go.Proofs.YtplodoindppleaaGreat
set_option linter.unusedVariables false
open Go.RowKit
open Go.Lib (hid)
theorem loadGM {ops : Array Oper} {rest : List Oper} {op : Oper} {a : Act} {w : World} {Q : Exit → Act → World → Prop} {x : Operand} {b : Nat} (m : Mg) (hgd : Region.wanted op (yielded ops a.tmps) = true) (ho : op.op = .load 48 x)
 (hx : a.eval x = .pointer (some ⟨b, 0, none⟩)) (hc : OM w b m) (h : wpList Tryz.prog ops Q rest (a.put op.dst (.agg m.arr)) w) : wpList Tryz.prog ops Q (op :: rest) a w :=
 BigFrame.wpList_want hgd fun _ hK => wp_load_mid 48 x ho b 0 hx m.list _ hc.range Tryz.underlying48 rfl (infoM m) (hK _ _ h)
theorem Sl.one {w : World} {c : C7} {T : TypeId} : Sl (w.alloc (.cells #[.int .i64 c.i, .int .i64 c.k, .int .i64 c.s, .int .i64 c.t, .int .i64 c.d, .int .i64 c.p, .int .i64 c.q] T)) (.slice (some ⟨w.heap.size, 0, none⟩) 1 1) [c] := by
 refine ⟨w.heap.size, 0, 1, _, rfl, fun h => by simp at h, fun _ => rfl, ?_, fun _ => by simp⟩
 intro j d hd f v hv
 match j, hd with
 | 0, hd =>
  obtain rfl := Option.some.inj hd
  rw [World.cell?_alloc_new, Nat.zero_add, Nat.zero_mul, Nat.zero_add, List.getElem?_toArray]
  exact hv
 | j + 1, hd => simp at hd
set_option maxHeartbeats 16000000 in
set_option maxRecDepth 100000 in
theorem cRightM {w : World} {m : Ms} (hm : m.at w) (hms : m.short 1024) : Calls Tryz.prog 28 #[.agg m.m.arr] w fun e w' => e = .returned (.bool (rightM m)) ∧ Below w.heap.size w w' := by
 have HB := hid (laid1_b w (.cells m.m.arr 48))
 have HM : Hid (OM (w.alloc (.cells m.m.arr 48)) w.heap.size m.m) := hid (laid1_0 w _)
 obtain ⟨so, hso⟩ : ∃ z, z = m.m.so := ⟨_, rfl⟩
 obtain ⟨fr, hfr⟩ : ∃ z, z = m.m.fr := ⟨_, rfl⟩
 obtain ⟨tt, htt⟩ : ∃ z, z = m.m.tt := ⟨_, rfl⟩
 obtain ⟨bal, hbal⟩ : ∃ z, z = m.m.bal := ⟨_, rfl⟩
 obtain ⟨r1, h1⟩ : ∃ z, z = inB so 9 := ⟨_, rfl⟩
 obtain ⟨r2, h2⟩ : ∃ z, z = inB fr 9 := ⟨_, rfl⟩
 obtain ⟨r3, h3⟩ : ∃ z, z = inB tt 9 := ⟨_, rfl⟩
 obtain ⟨r4, h4⟩ : ∃ z, z = withinB bal 1048576 := ⟨_, rfl⟩
 obtain ⟨r5, h5⟩ : ∃ z, z = m.m.c.ok := ⟨_, rfl⟩
 obtain ⟨r6, h6⟩ : ∃ z, z = ownB m := ⟨_, rfl⟩
 have HR : Hid (rightM m = (r1 && (r2 && (r3 && (r4 && (r5 && r6)))))) := hid (by unfold rightM; subst h1 h2 h3 h4 h5 h6 hso hfr htt hbal; rfl)
 have H1 := hid (fun W => cSortW so W)
 rw [← h1] at H1
 have H2 := hid (fun W => cReplicaW fr W)
 rw [← h2] at H2
 have H3 := hid (fun W => cReplicaW tt W)
 rw [← h3] at H3
 have H4 := hid (fun W => cBallotW bal W)
 rw [← h4] at H4
 have H5 : Hid (∀ W : World, Calls Tryz.prog 62 #[.slice (some ⟨W.heap.size, 0, none⟩) 1 1] (W.alloc (.cells #[.int .i64 m.m.c.i, .int .i64 m.m.c.k, .int .i64 m.m.c.s, .int .i64 m.m.c.t, .int .i64 m.m.c.d, .int .i64 m.m.c.p, .int .i64 m.m.c.q] 42)) fun e w' => e = .returned (.bool r5) ∧ Below (W.alloc (.cells #[.int .i64 m.m.c.i, .int .i64 m.m.c.k, .int .i64 m.m.c.s, .int .i64 m.m.c.t, .int .i64 m.m.c.d, .int .i64 m.m.c.p, .int .i64 m.m.c.q] 42)).heap.size (W.alloc (.cells #[.int .i64 m.m.c.i, .int .i64 m.m.c.k, .int .i64 m.m.c.s, .int .i64 m.m.c.t, .int .i64 m.m.c.d, .int .i64 m.m.c.p, .int .i64 m.m.c.q] 42)) w') := hid fun W => by
  have := cRight' (Sl.one (w := W) (c := m.m.c) (T := 42)) (by simp)
  rw [show ([m.m.c] : List C7).all C7.ok = r5 by rw [h5]; simp] at this
  exact this
 have H6 := hid (fun W (hB : Below w.heap.size w W) => cOwnM (w := W) (hm.on hB) hms)
 rw [← h6] at H6
 have HSO := hid hso
 have HFR := hid hfr
 have HTT := hid htt
 have HBAL := hid hbal
 clear h1 h2 h3 h4 h5 h6 hso hfr htt hbal hm hms
 go_enter Tryz.func28, Tryz.ntmps28
 have tok : Hid (0 = 0) := hid rfl
 rcases r1 with _ | _
 · go_wp2_with (first
    | (clear tok; (with_reducible refine opaqueW (w.alloc (.cells m.m.arr 48)) ?_); intro W0 hW; rw [← hW] at HB HM; clear hW; have c0 : W0.cell? ⟨w.heap.size, 0, none⟩ = some (.int .i64 so) := (by rw [HSO.out]; exact HM.out.cell (m := m.m) (j := 0) rfl); have c1 : W0.cell? ⟨w.heap.size, 1, none⟩ = some (.int .i64 fr) := (by rw [HFR.out]; exact HM.out.cell (m := m.m) (j := 1) rfl); have c2 : W0.cell? ⟨w.heap.size, 2, none⟩ = some (.int .i64 tt) := (by rw [HTT.out]; exact HM.out.cell (m := m.m) (j := 2) rfl); have c3 : W0.cell? ⟨w.heap.size, 3, none⟩ = some (.int .i64 bal) := (by rw [HBAL.out]; exact HM.out.cell (m := m.m) (j := 3) rfl); have c4 : W0.cell? ⟨w.heap.size, 4, none⟩ = some (.int .i64 m.m.c.i) := HM.out.cell (m := m.m) (j := 4) rfl; have c5 : W0.cell? ⟨w.heap.size, 5, none⟩ = some (.int .i64 m.m.c.k) := HM.out.cell (m := m.m) (j := 5) rfl; have c6 : W0.cell? ⟨w.heap.size, 6, none⟩ = some (.int .i64 m.m.c.s) := HM.out.cell (m := m.m) (j := 6) rfl; have c7 : W0.cell? ⟨w.heap.size, 7, none⟩ = some (.int .i64 m.m.c.t) := HM.out.cell (m := m.m) (j := 7) rfl; have c8 : W0.cell? ⟨w.heap.size, 8, none⟩ = some (.int .i64 m.m.c.d) := HM.out.cell (m := m.m) (j := 8) rfl; have c9 : W0.cell? ⟨w.heap.size, 9, none⟩ = some (.int .i64 m.m.c.p) := HM.out.cell (m := m.m) (j := 9) rfl; have c10 : W0.cell? ⟨w.heap.size, 10, none⟩ = some (.int .i64 m.m.c.q) := HM.out.cell (m := m.m) (j := 10) rfl)
    | (go_at_call 59; refine (H1.out _).mono ?_; rintro z wq ⟨rfl, rfl⟩)
    | fail)
   go_ret
   rw [HR.out]
   exact ⟨rfl, HB.out⟩
 · rcases r2 with _ | _
   · go_wp2_with (first
      | (clear tok; (with_reducible refine opaqueW (w.alloc (.cells m.m.arr 48)) ?_); intro W0 hW; rw [← hW] at HB HM; clear hW; have c0 : W0.cell? ⟨w.heap.size, 0, none⟩ = some (.int .i64 so) := (by rw [HSO.out]; exact HM.out.cell (m := m.m) (j := 0) rfl); have c1 : W0.cell? ⟨w.heap.size, 1, none⟩ = some (.int .i64 fr) := (by rw [HFR.out]; exact HM.out.cell (m := m.m) (j := 1) rfl); have c2 : W0.cell? ⟨w.heap.size, 2, none⟩ = some (.int .i64 tt) := (by rw [HTT.out]; exact HM.out.cell (m := m.m) (j := 2) rfl); have c3 : W0.cell? ⟨w.heap.size, 3, none⟩ = some (.int .i64 bal) := (by rw [HBAL.out]; exact HM.out.cell (m := m.m) (j := 3) rfl); have c4 : W0.cell? ⟨w.heap.size, 4, none⟩ = some (.int .i64 m.m.c.i) := HM.out.cell (m := m.m) (j := 4) rfl; have c5 : W0.cell? ⟨w.heap.size, 5, none⟩ = some (.int .i64 m.m.c.k) := HM.out.cell (m := m.m) (j := 5) rfl; have c6 : W0.cell? ⟨w.heap.size, 6, none⟩ = some (.int .i64 m.m.c.s) := HM.out.cell (m := m.m) (j := 6) rfl; have c7 : W0.cell? ⟨w.heap.size, 7, none⟩ = some (.int .i64 m.m.c.t) := HM.out.cell (m := m.m) (j := 7) rfl; have c8 : W0.cell? ⟨w.heap.size, 8, none⟩ = some (.int .i64 m.m.c.d) := HM.out.cell (m := m.m) (j := 8) rfl; have c9 : W0.cell? ⟨w.heap.size, 9, none⟩ = some (.int .i64 m.m.c.p) := HM.out.cell (m := m.m) (j := 9) rfl; have c10 : W0.cell? ⟨w.heap.size, 10, none⟩ = some (.int .i64 m.m.c.q) := HM.out.cell (m := m.m) (j := 10) rfl)
      | (go_at_call 59; refine (H1.out _).mono ?_; rintro z wq ⟨rfl, rfl⟩)
      | (go_at_call 60; first | (with_reducible refine (H2.out _).mono ?_; rintro z wq ⟨rfl, rfl⟩) | (with_reducible refine (H3.out _).mono ?_; rintro z wq ⟨rfl, rfl⟩))
      | fail)
     go_ret
     rw [HR.out]
     exact ⟨rfl, HB.out⟩
   · rcases r3 with _ | _
     · go_wp2_with (first
        | (clear tok; (with_reducible refine opaqueW (w.alloc (.cells m.m.arr 48)) ?_); intro W0 hW; rw [← hW] at HB HM; clear hW; have c0 : W0.cell? ⟨w.heap.size, 0, none⟩ = some (.int .i64 so) := (by rw [HSO.out]; exact HM.out.cell (m := m.m) (j := 0) rfl); have c1 : W0.cell? ⟨w.heap.size, 1, none⟩ = some (.int .i64 fr) := (by rw [HFR.out]; exact HM.out.cell (m := m.m) (j := 1) rfl); have c2 : W0.cell? ⟨w.heap.size, 2, none⟩ = some (.int .i64 tt) := (by rw [HTT.out]; exact HM.out.cell (m := m.m) (j := 2) rfl); have c3 : W0.cell? ⟨w.heap.size, 3, none⟩ = some (.int .i64 bal) := (by rw [HBAL.out]; exact HM.out.cell (m := m.m) (j := 3) rfl); have c4 : W0.cell? ⟨w.heap.size, 4, none⟩ = some (.int .i64 m.m.c.i) := HM.out.cell (m := m.m) (j := 4) rfl; have c5 : W0.cell? ⟨w.heap.size, 5, none⟩ = some (.int .i64 m.m.c.k) := HM.out.cell (m := m.m) (j := 5) rfl; have c6 : W0.cell? ⟨w.heap.size, 6, none⟩ = some (.int .i64 m.m.c.s) := HM.out.cell (m := m.m) (j := 6) rfl; have c7 : W0.cell? ⟨w.heap.size, 7, none⟩ = some (.int .i64 m.m.c.t) := HM.out.cell (m := m.m) (j := 7) rfl; have c8 : W0.cell? ⟨w.heap.size, 8, none⟩ = some (.int .i64 m.m.c.d) := HM.out.cell (m := m.m) (j := 8) rfl; have c9 : W0.cell? ⟨w.heap.size, 9, none⟩ = some (.int .i64 m.m.c.p) := HM.out.cell (m := m.m) (j := 9) rfl; have c10 : W0.cell? ⟨w.heap.size, 10, none⟩ = some (.int .i64 m.m.c.q) := HM.out.cell (m := m.m) (j := 10) rfl)
        | (go_at_call 59; refine (H1.out _).mono ?_; rintro z wq ⟨rfl, rfl⟩)
        | (go_at_call 60; first | (with_reducible refine (H2.out _).mono ?_; rintro z wq ⟨rfl, rfl⟩) | (with_reducible refine (H3.out _).mono ?_; rintro z wq ⟨rfl, rfl⟩))
        | fail)
       go_ret
       rw [HR.out]
       exact ⟨rfl, HB.out⟩
     · rcases r4 with _ | _
       · go_wp2_with (first
          | (clear tok; (with_reducible refine opaqueW (w.alloc (.cells m.m.arr 48)) ?_); intro W0 hW; rw [← hW] at HB HM; clear hW; have c0 : W0.cell? ⟨w.heap.size, 0, none⟩ = some (.int .i64 so) := (by rw [HSO.out]; exact HM.out.cell (m := m.m) (j := 0) rfl); have c1 : W0.cell? ⟨w.heap.size, 1, none⟩ = some (.int .i64 fr) := (by rw [HFR.out]; exact HM.out.cell (m := m.m) (j := 1) rfl); have c2 : W0.cell? ⟨w.heap.size, 2, none⟩ = some (.int .i64 tt) := (by rw [HTT.out]; exact HM.out.cell (m := m.m) (j := 2) rfl); have c3 : W0.cell? ⟨w.heap.size, 3, none⟩ = some (.int .i64 bal) := (by rw [HBAL.out]; exact HM.out.cell (m := m.m) (j := 3) rfl); have c4 : W0.cell? ⟨w.heap.size, 4, none⟩ = some (.int .i64 m.m.c.i) := HM.out.cell (m := m.m) (j := 4) rfl; have c5 : W0.cell? ⟨w.heap.size, 5, none⟩ = some (.int .i64 m.m.c.k) := HM.out.cell (m := m.m) (j := 5) rfl; have c6 : W0.cell? ⟨w.heap.size, 6, none⟩ = some (.int .i64 m.m.c.s) := HM.out.cell (m := m.m) (j := 6) rfl; have c7 : W0.cell? ⟨w.heap.size, 7, none⟩ = some (.int .i64 m.m.c.t) := HM.out.cell (m := m.m) (j := 7) rfl; have c8 : W0.cell? ⟨w.heap.size, 8, none⟩ = some (.int .i64 m.m.c.d) := HM.out.cell (m := m.m) (j := 8) rfl; have c9 : W0.cell? ⟨w.heap.size, 9, none⟩ = some (.int .i64 m.m.c.p) := HM.out.cell (m := m.m) (j := 9) rfl; have c10 : W0.cell? ⟨w.heap.size, 10, none⟩ = some (.int .i64 m.m.c.q) := HM.out.cell (m := m.m) (j := 10) rfl)
          | (go_at_call 59; refine (H1.out _).mono ?_; rintro z wq ⟨rfl, rfl⟩)
          | (go_at_call 60; first | (with_reducible refine (H2.out _).mono ?_; rintro z wq ⟨rfl, rfl⟩) | (with_reducible refine (H3.out _).mono ?_; rintro z wq ⟨rfl, rfl⟩))
          | (go_at_call 61; refine (H4.out _).mono ?_; rintro z wq ⟨rfl, rfl⟩)
          | fail)
         go_ret
         rw [HR.out]
         exact ⟨rfl, HB.out⟩
       · rcases r5 with _ | _
         · go_wp2_with (first
            | (clear tok; (with_reducible refine opaqueW (w.alloc (.cells m.m.arr 48)) ?_); intro W0 hW; rw [← hW] at HB HM; clear hW; have c0 : W0.cell? ⟨w.heap.size, 0, none⟩ = some (.int .i64 so) := (by rw [HSO.out]; exact HM.out.cell (m := m.m) (j := 0) rfl); have c1 : W0.cell? ⟨w.heap.size, 1, none⟩ = some (.int .i64 fr) := (by rw [HFR.out]; exact HM.out.cell (m := m.m) (j := 1) rfl); have c2 : W0.cell? ⟨w.heap.size, 2, none⟩ = some (.int .i64 tt) := (by rw [HTT.out]; exact HM.out.cell (m := m.m) (j := 2) rfl); have c3 : W0.cell? ⟨w.heap.size, 3, none⟩ = some (.int .i64 bal) := (by rw [HBAL.out]; exact HM.out.cell (m := m.m) (j := 3) rfl); have c4 : W0.cell? ⟨w.heap.size, 4, none⟩ = some (.int .i64 m.m.c.i) := HM.out.cell (m := m.m) (j := 4) rfl; have c5 : W0.cell? ⟨w.heap.size, 5, none⟩ = some (.int .i64 m.m.c.k) := HM.out.cell (m := m.m) (j := 5) rfl; have c6 : W0.cell? ⟨w.heap.size, 6, none⟩ = some (.int .i64 m.m.c.s) := HM.out.cell (m := m.m) (j := 6) rfl; have c7 : W0.cell? ⟨w.heap.size, 7, none⟩ = some (.int .i64 m.m.c.t) := HM.out.cell (m := m.m) (j := 7) rfl; have c8 : W0.cell? ⟨w.heap.size, 8, none⟩ = some (.int .i64 m.m.c.d) := HM.out.cell (m := m.m) (j := 8) rfl; have c9 : W0.cell? ⟨w.heap.size, 9, none⟩ = some (.int .i64 m.m.c.p) := HM.out.cell (m := m.m) (j := 9) rfl; have c10 : W0.cell? ⟨w.heap.size, 10, none⟩ = some (.int .i64 m.m.c.q) := HM.out.cell (m := m.m) (j := 10) rfl)
            | (go_at_call 59; refine (H1.out _).mono ?_; rintro z wq ⟨rfl, rfl⟩)
            | (go_at_call 60; first | (with_reducible refine (H2.out _).mono ?_; rintro z wq ⟨rfl, rfl⟩) | (with_reducible refine (H3.out _).mono ?_; rintro z wq ⟨rfl, rfl⟩))
            | (go_at_call 61; refine (H4.out _).mono ?_; rintro z wq ⟨rfl, rfl⟩)
            | (go_at_call 62; refine (H5.out W0).mono ?_; rintro z w5 ⟨rfl, hB⟩; have hb0 : Below W0.heap.size W0 w5 := (laid1_b W0 _).trans (hB.mono (by simp)); have HB5 := hid (HB.out.trans (hb0.mono HB.out.size)); have HM5 : Hid (OM w5 w.heap.size m.m) := hid (heapB HM.out hb0 (Array.getElem?_eq_some_iff.1 HM.out).1); clear hB hb0)
            | fail)
           go_ret
           rw [HR.out]
           exact ⟨rfl, HB5.out⟩
         · go_wp2_with (first
            | (clear tok; (with_reducible refine opaqueW (w.alloc (.cells m.m.arr 48)) ?_); intro W0 hW; rw [← hW] at HB HM; clear hW; have c0 : W0.cell? ⟨w.heap.size, 0, none⟩ = some (.int .i64 so) := (by rw [HSO.out]; exact HM.out.cell (m := m.m) (j := 0) rfl); have c1 : W0.cell? ⟨w.heap.size, 1, none⟩ = some (.int .i64 fr) := (by rw [HFR.out]; exact HM.out.cell (m := m.m) (j := 1) rfl); have c2 : W0.cell? ⟨w.heap.size, 2, none⟩ = some (.int .i64 tt) := (by rw [HTT.out]; exact HM.out.cell (m := m.m) (j := 2) rfl); have c3 : W0.cell? ⟨w.heap.size, 3, none⟩ = some (.int .i64 bal) := (by rw [HBAL.out]; exact HM.out.cell (m := m.m) (j := 3) rfl); have c4 : W0.cell? ⟨w.heap.size, 4, none⟩ = some (.int .i64 m.m.c.i) := HM.out.cell (m := m.m) (j := 4) rfl; have c5 : W0.cell? ⟨w.heap.size, 5, none⟩ = some (.int .i64 m.m.c.k) := HM.out.cell (m := m.m) (j := 5) rfl; have c6 : W0.cell? ⟨w.heap.size, 6, none⟩ = some (.int .i64 m.m.c.s) := HM.out.cell (m := m.m) (j := 6) rfl; have c7 : W0.cell? ⟨w.heap.size, 7, none⟩ = some (.int .i64 m.m.c.t) := HM.out.cell (m := m.m) (j := 7) rfl; have c8 : W0.cell? ⟨w.heap.size, 8, none⟩ = some (.int .i64 m.m.c.d) := HM.out.cell (m := m.m) (j := 8) rfl; have c9 : W0.cell? ⟨w.heap.size, 9, none⟩ = some (.int .i64 m.m.c.p) := HM.out.cell (m := m.m) (j := 9) rfl; have c10 : W0.cell? ⟨w.heap.size, 10, none⟩ = some (.int .i64 m.m.c.q) := HM.out.cell (m := m.m) (j := 10) rfl)
            | (go_at_call 59; refine (H1.out _).mono ?_; rintro z wq ⟨rfl, rfl⟩)
            | (go_at_call 60; first | (with_reducible refine (H2.out _).mono ?_; rintro z wq ⟨rfl, rfl⟩) | (with_reducible refine (H3.out _).mono ?_; rintro z wq ⟨rfl, rfl⟩))
            | (go_at_call 61; refine (H4.out _).mono ?_; rintro z wq ⟨rfl, rfl⟩)
            | (go_at_call 62; refine (H5.out W0).mono ?_; rintro z w5 ⟨rfl, hB⟩; have hb0 : Below W0.heap.size W0 w5 := (laid1_b W0 _).trans (hB.mono (by simp)); have HB5 := hid (HB.out.trans (hb0.mono HB.out.size)); have HM5 : Hid (OM w5 w.heap.size m.m) := hid (heapB HM.out hb0 (Array.getElem?_eq_some_iff.1 HM.out).1); clear hB hb0)
            | ((with_reducible refine loadGM (x := ?lx) (b := w.heap.size) m.m ?lg ?lo ?lxx ?lc ?lh); (case lo => rfl); (case lg => rfl); (case lxx => rfl); (case lc => exact HM5.out))
            | (go_at_call 63; refine (H6.out w5 HB5.out).mono ?_; rintro z w6 ⟨rfl, hB⟩; have HB6 := hid (HB5.out.trans (hB.mono HB5.out.size)); clear hB)
            | fail)
           go_ret
           rw [HR.out]
           exact ⟨rfl, HB6.out⟩
end Go.Proofs.YtplodoindppleaaGreat

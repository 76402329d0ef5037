import Derived.Test.YtplodoindppleaaGreatG22
namespace Go.Proofs.YtplodoindppleaaGreat
set_option linter.unusedVariables false
open Go.RowKit
open Go.Lib (hid)
def ccs (k t : Int) (p : Sv) : List Value := [.int .i64 k, .int .i64 t, .slice p.a p.n p.c]
def carr (k t : Int) (p : Sv) : Array Value := #[.int .i64 k, .int .i64 t, .slice p.a p.n p.c]
abbrev zeroCc : Obj := .cells #[.int .i64 0, .int .i64 0, .slice none 0 0] 97
theorem infoCl (k t : Int) (p : Sv) : (Tryz.prog.info? 97).map (·.size) = some (ccs k t p).length := by show _ = some 3; kernel_rfl
theorem infoCl' (k t : Int) (p : Sv) : (Tryz.prog.info? 97).map (·.size) = some (carr k t p).size := by show _ = some 3; kernel_rfl
theorem carr_one (k t : Int) (p : Sv) : (carr k t p).all (·.oneCell') = true := by
 have h : ∀ u ∈ ccs k t p, u.oneCell' = true := fun v hv => by
  unfold ccs at hv; simp at hv; rcases hv with h | h | h <;> subst h <;> rfl
 exact all_oneCell_toArray h
abbrev OC (w : World) (q : Nat) (k t : Int) (p : Sv) : Prop := w.heap[q]? = some (.cells (carr k t p) 97 (0, 0))
theorem OC.range {w : World} {q : Nat} {k t : Int} {p : Sv} (h : OC w q k t p) : w.rangeAt q 0 (ccs k t p) := fun j v hv => by
 rw [Nat.zero_add, cellAt' h, ← Array.getElem?_toList]; exact hv
def RoomC (w : World) (q : Nat) : Prop := ∃ C : Array Value, w.heap[q]? = some (.cells C 97 (0, 0)) ∧ C.size = 3
theorem roomCZ (w : World) : RoomC (w.alloc zeroCc) w.heap.size := ⟨_, heap_alloc_new w _, rfl⟩
theorem RoomC.lt {w : World} {q : Nat} (h : RoomC w q) : q < w.heap.size := by
 obtain ⟨C, h1, h2⟩ := h
 exact (Array.getElem?_eq_some_iff.1 h1).1
theorem RoomC.on {w w' : World} {q : Nat} (h : RoomC w q) (hb : Below w.heap.size w w') : RoomC w' q := by
 have := h.lt
 obtain ⟨C, h1, h2⟩ := h
 exact ⟨C, heapB h1 hb this, h2⟩
theorem RoomC.no {w : World} {q : Nat} (h : RoomC w q) : ∀ k, k = q → ∀ i, 6 ≤ i → w.cell? ⟨k, i, none⟩ = none := by
 rintro k rfl i hi
 obtain ⟨C, h1, h2⟩ := h
 rw [cellAt' h1, Array.getElem?_eq_none (by omega)]
theorem SetD.updC {w W : World} {q : Nat} {v : Value} {cs : List C7} (h : SetD w v cs) (hr : RoomC w q) (hu : Upd q w W) : SetD W v cs := h.tch hu.tch fun k e cur fz hk => by
 subst e
 obtain ⟨C, h1, _⟩ := hr
 rw [h1] at hk; injection hk with hk; injection hk with _ e; exact absurd e (by decide)
theorem storeCh {ops : Array Oper} {rest : List Oper} {op : Oper} {c : Act} {w : World} {Q : Exit → Act → World → Prop} {x y : Operand} {b : Nat} (k t : Int) (p : Sv) (hgd : op.guard = none) (ho : op.op = .store 97 x y)
 (hx : c.eval x = .pointer (some ⟨b, 0, none⟩)) (hy : c.eval y = .agg (carr k t p)) (hC : RoomC w b) (h : ∀ W, OC W b k t p → Upd b w W → wpList Tryz.prog ops Q rest (c.put op.dst undef) W) : wpList Tryz.prog ops Q (op :: rest) c w := by
 obtain ⟨C, hC, hs⟩ := hC
 exact wpList_store_mid hgd 97 x y ho b 0 (carr k t p) hx hy (thereOf hC (by rw [hs]; exact Nat.le_refl _)) (infoCl' k t p) (carr_one k t p) (h _ (setsN (carr k t p) hC hs) (setsUpd w b _))
set_option maxRecDepth 100000 in
theorem run_buildCh (k t : Int) (p : Sv) (w : World) : (Instr.build 97 #[(0, .int .i64 k), (1, .agg #[.int .i64 t, .slice p.a p.n p.c])]).run Tryz.prog w = .ok (.agg (carr k t p)) w := by kernel_rfl
theorem wpList_buildCh {ops : Array Oper} {rest : List Oper} {op : Oper} {a : Act} {w : World} {Q : Exit → Act → World → Prop} {x : Operand} (k t : Int) (p : Sv) (hgd : op.guard = none) (ho : op.op = .build 97 #[(0, .const (.int .i64 k)), (1, x)])
 (h1 : a.eval x = .agg (varr t p)) (h : wpList Tryz.prog ops Q rest (a.put op.dst (.agg (carr k t p))) w) : wpList Tryz.prog ops Q (op :: rest) a w := by
 refine wpList_plain hgd fun _ hK' => ?_
 unfold Oper.wp execOp
 have hb := run_buildCh k t p w
 have hc : a.eval (.const (.int .i64 k)) = .int .i64 k := rfl
 simp only [ho, List.map_toArray, List.map_cons, List.map_nil, h1, hc, Sem.run_bind]
 rw [show varr t p = #[.int .i64 t, .slice p.a p.n p.c] from rfl, hb]
 simp only [Result.andThen_ok]
 exact hK' _ _ h
def ChooseP (w : World) (n : Int) (ls : List Ms) (e : Ending) (w' : World) : Prop := ∃ r : Sv, e = .returned (.tuple #[.agg (carr (choF n ls).k (choF n ls).t r), .int .i64 (choF n ls).e]) ∧ SetD w' r.v (choF n ls).l ∧ Below w.heap.size w w'
theorem ChooseP.of {w w' : World} {n : Int} {ls : List Ms} {c : Cho} {r : Sv} (h : choF n ls = c) (hs : SetD w' r.v c.l) (hb : Below w.heap.size w w') : ChooseP w n ls (.returned (.tuple #[.agg (carr c.k c.t r), .int .i64 c.e])) w' := by
 subst h; exact ⟨r, rfl, hs, hb⟩
theorem decF_mem {n : Int} {ls : List Ms} {z : Ms} (h : decF n ls = some z) : z ∈ ls := by
 unfold decF at h
 split at h
 · cases h
 · exact List.mem_of_find?_eq_some h
theorem acc_mem' : ∀ (ls : List Ms) (b : Option Ms) (z : Ms), ls.foldl accS b = some z → z ∈ ls ∨ b = some z
 | [], b, z, h => .inr h
 | m :: ls, b, z, h => by
  rcases acc_mem' ls _ z h with h1 | h1
  · exact .inl (List.mem_cons_of_mem _ h1)
  · unfold accS at h1
    rcases b with _ | x
    · simp only at h1
      split at h1
      · obtain rfl := Option.some.inj h1; exact .inl List.mem_cons_self
      · cases h1
    · simp only at h1
      split at h1
      · obtain rfl := Option.some.inj h1; exact .inl List.mem_cons_self
      · exact .inr h1
theorem acc_mem {ls : List Ms} {z : Ms} (h : accF ls = some z) : z ∈ ls := by
 rcases acc_mem' ls none z h with h1 | h1
 · exact h1
 · cases h1
set_option maxHeartbeats 16000000 in
set_option maxRecDepth 100000 in
theorem cChoose0 {v : Value} {ls : List Ms} {w : World} (n : Int) (h : SlM w v (mgs ls)) (hA : ∀ m ∈ ls, m.at w) (hS : ∀ m ∈ ls, m.short 1024) (hl : ls.length ≤ 40) (hpb : promB n ls = false) : Calls Tryz.prog 70 #[.int .i64 n, v] w (ChooseP w n ls) := by
 have HPB := hid hpb
 have HSL0 := hid h
 have HSH := hid hS
 clear hS
 have HLL := hid hl
 obtain ⟨b, o, cap, a, rfl, ha, hc, hb⟩ := h
 have hlm : (mgs ls).length = ls.length := by unfold mgs; rw [List.length_map]
 rw [hlm] at ha hb ⊢
 have HA := hid hA
 have HCC := hid hc
 obtain ⟨m, hm⟩ : ∃ m, m = ls.length := ⟨_, rfl⟩
 rw [← hm] at ha hb hl ⊢
 have HN := hid hm
 clear hm hA hc hlm
 have HSL : Hid (SlM w (.slice a m cap) (mgs ls)) := hid (by have e : (mgs ls).length = m := (by unfold mgs; rw [List.length_map]; exact HN.out.symm); have hs := HSL0.out; rw [e] at hs; exact hs)
 clear HSL0
 have HCP : Hid (∀ W, Below w.heap.size w W → Calls Tryz.prog 98 #[.int .i64 n, .slice a m cap] W fun e w' => e = .returned (.bool false) ∧ Below W.heap.size W w') := hid (fun W hW => (by have := cPromises n ((HSL.out).on hW) (fun x hx => (HA.out x hx).on hW) HSH.out (by have := HLL.out; omega); rw [hpb] at this; exact this))
 have HB0 : Hid (Below w.heap.size w (w.alloc zeroCc)) := hid ((Below.refl _ w).alloc (Nat.le_refl _) _)
 have HR0 : Hid (RoomC (w.alloc zeroCc) w.heap.size) := hid (roomCZ w)
 go_enter Tryz.func70, Tryz.ntmps70
 go_wp2_with (first
  | (go_at_call 98; refine (HCP.out _ HB0.out).mono ?_; rintro e w1 ⟨rfl, hB⟩; have HB1 : Hid (Below w.heap.size w w1) := hid (HB0.out.trans (hB.mono HB0.out.size)); have HR1 := hid (HR0.out.on hB); clear hB)
  | ((with_reducible refine storeCh (x := ?cx1) (y := ?cy1) (b := w.heap.size) 0 0 zS ?cg1 ?co1 ?cxx1 ?cyy1 ?cc1 ?ch1); (case cg1 => rfl); (case co1 => rfl); (case cxx1 => rfl); (case cyy1 => rfl); (case cc1 => exact HR1.out); intro WZ hO hU; have HOZ : Hid (OC WZ w.heap.size 0 0 zS) := hid hO; have HUZ := hid hU; have HBZ : Hid (Below w.heap.size w1 WZ) := hid (hU.below w.heap.size (Nat.le_refl _)); clear hO hU)
  | fail)
 refine bodyPost_ret (ret_cell_tmp rfl rfl rfl HOZ.out.range Tryz.underlying97 rfl (infoCl _ _ _)) rfl (ChooseP.of (c := ⟨0, 0, [], 1⟩) (r := zS) ?_ ?_ ?_)
 · unfold choF; rw [if_neg (by rw [HPB.out]; decide)]
 · exact SetD.nil WZ
 · exact HB1.out.trans HBZ.out
set_option maxHeartbeats 16000000 in
set_option maxRecDepth 100000 in
theorem cChooseS {v : Value} {ls : List Ms} {w : World} (n : Int) (h : SlM w v (mgs ls)) (hA : ∀ m ∈ ls, m.at w) (hS : ∀ m ∈ ls, m.short 1024) (hl : ls.length ≤ 40) (hpb : promB n ls = true) {z : Ms} (hfS : ls.find? isS = some z) (hz : z ∈ ls) : Calls Tryz.prog 70 #[.int .i64 n, v] w (ChooseP w n ls) := by
 have HPB := hid hpb
 have HFS := hid hfS
 have HZA := hid (hA z hz)
 have HZS := hid (hS z hz)
 clear hfS hz
 have HSL0 := hid h
 have HSH := hid hS
 clear hS
 have HLL := hid hl
 obtain ⟨b, o, cap, a, rfl, ha, hc, hb⟩ := h
 have hlm : (mgs ls).length = ls.length := by unfold mgs; rw [List.length_map]
 rw [hlm] at ha hb ⊢
 have HA := hid hA
 have HCC := hid hc
 obtain ⟨m, hm⟩ : ∃ m, m = ls.length := ⟨_, rfl⟩
 rw [← hm] at ha hb hl ⊢
 have HN := hid hm
 clear hm hA hc hlm
 have HSL : Hid (SlM w (.slice a m cap) (mgs ls)) := hid (by have e : (mgs ls).length = m := (by unfold mgs; rw [List.length_map]; exact HN.out.symm); have hs := HSL0.out; rw [e] at hs; exact hs)
 clear HSL0
 have HCP : Hid (∀ W, Below w.heap.size w W → Calls Tryz.prog 98 #[.int .i64 n, .slice a m cap] W fun e w' => e = .returned (.bool true) ∧ Below W.heap.size W w') := hid (fun W hW => (by have := cPromises n ((HSL.out).on hW) (fun x hx => (HA.out x hx).on hW) HSH.out (by have := HLL.out; omega); rw [hpb] at this; exact this))
 have HCS : Hid (∀ W, Below w.heap.size w W → Calls Tryz.prog 99 #[.slice a m cap] W fun e w' => FoundP (ls.find? isS) (fun m => (m.m.vt, m.m.vp)) e ∧ Below W.heap.size W w') := hid (fun W hW => cSettled ((HSL.out).on hW) (fun x hx => (HA.out x hx).on hW) (by have := HLL.out; omega))
 have HB0 : Hid (Below w.heap.size w (w.alloc zeroCc)) := hid ((Below.refl _ w).alloc (Nat.le_refl _) _)
 have HR0 : Hid (RoomC (w.alloc zeroCc) w.heap.size) := hid (roomCZ w)
 go_enter Tryz.func70, Tryz.ntmps70
 go_wp2_with (first
  | (go_at_call 98; refine (HCP.out _ HB0.out).mono ?_; rintro e w1 ⟨rfl, hB⟩; have HB1 : Hid (Below w.heap.size w w1) := hid (HB0.out.trans (hB.mono HB0.out.size)); have HR1 := hid (HR0.out.on hB); clear hB)
  | (go_at_call 99; refine (HCS.out _ HB1.out).mono ?_; rintro e w2 ⟨hf, hB⟩; have HB2 : Hid (Below w.heap.size w w2) := hid (HB1.out.trans (hB.mono HB1.out.size)); have HR2 := hid (HR1.out.on hB); clear hB; rcases hf with ⟨y, hy⟩ | hf; rotate_left; exact absurd (hf.symm.trans HFS.out) (by simp); have hyy : y = z := Option.some.inj (hy.symm.trans HFS.out); subst hyy; clear hy)
  | ((with_reducible refine storeV (x := ?wx2) (y := ?wy2) (b := w2.heap.size) y.m.vt y.m.vp ?wg2 ?wo2 ?wxx2 ?wyy2 ?wc2 ?wh2); (case wg2 => rfl); (case wo2 => rfl); (case wxx2 => rfl); (case wyy2 => rfl); (case wc2 => exact (roomVZ w2)); intro w3 hO hU; have HB3 : Hid (Below w.heap.size w w3) := hid (HB2.out.trans (((laid1_b w2 zeroVc).trans (hU.below w2.heap.size (Nat.le_refl _))).mono HB2.out.size)); have HR3 : Hid (RoomC w3 w.heap.size) := hid (HR2.out.on ((laid1_b w2 zeroVc).trans (hU.below w2.heap.size (Nat.le_refl _)))); have HVX : Hid (OV w3 w2.heap.size y.m.vt y.m.vp) := hid hO; clear hO hU)
  | ((with_reducible refine loadVl (x := ?vx3) (b := w2.heap.size) (o := 0) y.m.vt y.m.vp ?vg3 ?vo3 ?vxx3 ?vc3 ?_); (case vg3 => rfl); (case vo3 => rfl); (case vxx3 => rfl); (case vc3 => exact HVX.out.range))
  | (go_at_call 100; refine (cOwn ((HZA.out.1).on HB3.out) (Nat.le_trans HZS.out.1 (by decide))).mono ?_; rintro e w4 ⟨⟨ra, rn, rc⟩, rfl, hs, hB⟩; have HB4 : Hid (Below w.heap.size w w4) := hid (HB3.out.trans (hB.mono HB3.out.size)); have HR4 := hid (HR3.out.on hB); have HSR := hid hs; clear hs hB)
  | ((with_reducible refine wpList_buildCh (x := ?bx4) 0 y.m.vt ⟨ra, rn, rc⟩ ?bg4 ?bo4 ?be4 ?_); (case bg4 => rfl); (case bo4 => rfl); (case be4 => rfl))
  | ((with_reducible refine storeCh (x := ?cx5) (y := ?cy5) (b := w.heap.size) 0 y.m.vt ⟨ra, rn, rc⟩ ?cg5 ?co5 ?cxx5 ?cyy5 ?cc5 ?ch5); (case cg5 => rfl); (case co5 => rfl); (case cxx5 => rfl); (case cyy5 => rfl); (case cc5 => exact HR4.out); intro WZ hO hU; have HOZ : Hid (OC WZ w.heap.size 0 y.m.vt ⟨ra, rn, rc⟩) := hid hO; have HUZ := hid hU; have HBZ : Hid (Below w.heap.size w4 WZ) := hid (hU.below w.heap.size (Nat.le_refl _)); clear hO hU)
  | fail)
 refine bodyPost_ret (ret_cell_tmp rfl rfl rfl HOZ.out.range Tryz.underlying97 rfl (infoCl _ _ _)) rfl (ChooseP.of (c := ⟨0, y.m.vt, y.v, 0⟩) (r := ⟨ra, rn, rc⟩) ?_ ?_ ?_)
 · unfold choF; rw [if_pos HPB.out, HFS.out]
 · exact HSR.out.updC HR4.out HUZ.out
 · exact HB4.out.trans HBZ.out
set_option maxHeartbeats 16000000 in
set_option maxRecDepth 100000 in
theorem cChooseA {v : Value} {ls : List Ms} {w : World} (n : Int) (h : SlM w v (mgs ls)) (hA : ∀ m ∈ ls, m.at w) (hS : ∀ m ∈ ls, m.short 1024) (hl : ls.length ≤ 40) (hpb : promB n ls = true) (hfS : ls.find? isS = none) {z : Ms} (hfA : accF ls = some z) (hz : z ∈ ls) : Calls Tryz.prog 70 #[.int .i64 n, v] w (ChooseP w n ls) := by
 have HPB := hid hpb
 have HFS := hid hfS
 have HFA := hid hfA
 have HZA := hid (hA z hz)
 have HZS := hid (hS z hz)
 clear hfS hfA hz
 have HSL0 := hid h
 have HSH := hid hS
 clear hS
 have HLL := hid hl
 obtain ⟨b, o, cap, a, rfl, ha, hc, hb⟩ := h
 have hlm : (mgs ls).length = ls.length := by unfold mgs; rw [List.length_map]
 rw [hlm] at ha hb ⊢
 have HA := hid hA
 have HCC := hid hc
 obtain ⟨m, hm⟩ : ∃ m, m = ls.length := ⟨_, rfl⟩
 rw [← hm] at ha hb hl ⊢
 have HN := hid hm
 clear hm hA hc hlm
 have HSL : Hid (SlM w (.slice a m cap) (mgs ls)) := hid (by have e : (mgs ls).length = m := (by unfold mgs; rw [List.length_map]; exact HN.out.symm); have hs := HSL0.out; rw [e] at hs; exact hs)
 clear HSL0
 have HCP : Hid (∀ W, Below w.heap.size w W → Calls Tryz.prog 98 #[.int .i64 n, .slice a m cap] W fun e w' => e = .returned (.bool true) ∧ Below W.heap.size W w') := hid (fun W hW => (by have := cPromises n ((HSL.out).on hW) (fun x hx => (HA.out x hx).on hW) HSH.out (by have := HLL.out; omega); rw [hpb] at this; exact this))
 have HCS : Hid (∀ W, Below w.heap.size w W → Calls Tryz.prog 99 #[.slice a m cap] W fun e w' => FoundP (ls.find? isS) (fun m => (m.m.vt, m.m.vp)) e ∧ Below W.heap.size W w') := hid (fun W hW => cSettled ((HSL.out).on hW) (fun x hx => (HA.out x hx).on hW) (by have := HLL.out; omega))
 have HCA : Hid (∀ W, Below w.heap.size w W → Calls Tryz.prog 101 #[.slice a m cap] W fun e w' => FoundP (accF ls) (fun m => (m.m.xt, m.m.xp)) e ∧ Below W.heap.size W w') := hid (fun W hW => cAccepted ((HSL.out).on hW) (fun x hx => (HA.out x hx).on hW) (by have := HLL.out; omega))
 have HB0 : Hid (Below w.heap.size w (w.alloc zeroCc)) := hid ((Below.refl _ w).alloc (Nat.le_refl _) _)
 have HR0 : Hid (RoomC (w.alloc zeroCc) w.heap.size) := hid (roomCZ w)
 go_enter Tryz.func70, Tryz.ntmps70
 go_wp2_with (first
  | (go_at_call 98; refine (HCP.out _ HB0.out).mono ?_; rintro e w1 ⟨rfl, hB⟩; have HB1 : Hid (Below w.heap.size w w1) := hid (HB0.out.trans (hB.mono HB0.out.size)); have HR1 := hid (HR0.out.on hB); clear hB)
  | (go_at_call 99; refine (HCS.out _ HB1.out).mono ?_; rintro e w2 ⟨hf, hB⟩; have HB2 : Hid (Below w.heap.size w w2) := hid (HB1.out.trans (hB.mono HB1.out.size)); have HR2 := hid (HR1.out.on hB); clear hB; rcases hf with ⟨y, hy⟩ | hf; exact absurd (hy.symm.trans HFS.out) (by simp); clear hf)
  | ((with_reducible refine storeV (x := ?wx6) (y := ?wy6) (b := w2.heap.size) 0 zS ?wg6 ?wo6 ?wxx6 ?wyy6 ?wc6 ?wh6); (case wg6 => rfl); (case wo6 => rfl); (case wxx6 => rfl); (case wyy6 => rfl); (case wc6 => exact (roomVZ w2)); intro w3 hO hU; have HB3 : Hid (Below w.heap.size w w3) := hid (HB2.out.trans (((laid1_b w2 zeroVc).trans (hU.below w2.heap.size (Nat.le_refl _))).mono HB2.out.size)); have HR3 : Hid (RoomC w3 w.heap.size) := hid (HR2.out.on ((laid1_b w2 zeroVc).trans (hU.below w2.heap.size (Nat.le_refl _)))); clear hO hU)
  | (go_at_call 101; refine (HCA.out _ HB3.out).mono ?_; rintro e w4 ⟨hf, hB⟩; have HB4 : Hid (Below w.heap.size w w4) := hid (HB3.out.trans (hB.mono HB3.out.size)); have HR4 := hid (HR3.out.on hB); clear hB; rcases hf with ⟨y, hy⟩ | hf; rotate_left; exact absurd (hf.symm.trans HFA.out) (by simp); have hyy : y = z := Option.some.inj (hy.symm.trans HFA.out); subst hyy; clear hy)
  | ((with_reducible refine storeV (x := ?wx7) (y := ?wy7) (b := w4.heap.size) y.m.xt y.m.xp ?wg7 ?wo7 ?wxx7 ?wyy7 ?wc7 ?wh7); (case wg7 => rfl); (case wo7 => rfl); (case wxx7 => rfl); (case wyy7 => rfl); (case wc7 => exact (roomVZ w4)); intro w5 hO hU; have HB5 : Hid (Below w.heap.size w w5) := hid (HB4.out.trans (((laid1_b w4 zeroVc).trans (hU.below w4.heap.size (Nat.le_refl _))).mono HB4.out.size)); have HR5 : Hid (RoomC w5 w.heap.size) := hid (HR4.out.on ((laid1_b w4 zeroVc).trans (hU.below w4.heap.size (Nat.le_refl _)))); have HVX : Hid (OV w5 w4.heap.size y.m.xt y.m.xp) := hid hO; clear hO hU)
  | ((with_reducible refine loadVl (x := ?vx8) (b := w4.heap.size) (o := 0) y.m.xt y.m.xp ?vg8 ?vo8 ?vxx8 ?vc8 ?_); (case vg8 => rfl); (case vo8 => rfl); (case vxx8 => rfl); (case vc8 => exact HVX.out.range))
  | (go_at_call 100; refine (cOwn ((HZA.out.2.1).on HB5.out) (Nat.le_trans HZS.out.2.1 (by decide))).mono ?_; rintro e w6 ⟨⟨ra, rn, rc⟩, rfl, hs, hB⟩; have HB6 : Hid (Below w.heap.size w w6) := hid (HB5.out.trans (hB.mono HB5.out.size)); have HR6 := hid (HR5.out.on hB); have HSR := hid hs; clear hs hB)
  | ((with_reducible refine wpList_buildCh (x := ?bx9) 1 y.m.xt ⟨ra, rn, rc⟩ ?bg9 ?bo9 ?be9 ?_); (case bg9 => rfl); (case bo9 => rfl); (case be9 => rfl))
  | ((with_reducible refine storeCh (x := ?cx10) (y := ?cy10) (b := w.heap.size) 1 y.m.xt ⟨ra, rn, rc⟩ ?cg10 ?co10 ?cxx10 ?cyy10 ?cc10 ?ch10); (case cg10 => rfl); (case co10 => rfl); (case cxx10 => rfl); (case cyy10 => rfl); (case cc10 => exact HR6.out); intro WZ hO hU; have HOZ : Hid (OC WZ w.heap.size 1 y.m.xt ⟨ra, rn, rc⟩) := hid hO; have HUZ := hid hU; have HBZ : Hid (Below w.heap.size w6 WZ) := hid (hU.below w.heap.size (Nat.le_refl _)); clear hO hU)
  | fail)
 refine bodyPost_ret (ret_cell_tmp rfl rfl rfl HOZ.out.range Tryz.underlying97 rfl (infoCl _ _ _)) rfl (ChooseP.of (c := ⟨1, y.m.xt, y.a, 0⟩) (r := ⟨ra, rn, rc⟩) ?_ ?_ ?_)
 · unfold choF; rw [if_pos HPB.out, HFS.out, HFA.out]
 · exact HSR.out.updC HR6.out HUZ.out
 · exact HB6.out.trans HBZ.out
set_option maxHeartbeats 16000000 in
set_option maxRecDepth 100000 in
theorem cChooseD {v : Value} {ls : List Ms} {w : World} (n : Int) (h : SlM w v (mgs ls)) (hA : ∀ m ∈ ls, m.at w) (hS : ∀ m ∈ ls, m.short 1024) (hl : ls.length ≤ 40) (hpb : promB n ls = true) (hfS : ls.find? isS = none) (hfA : accF ls = none) {z : Ms} (hfD : decF n ls = some z) (hz : z ∈ ls) : Calls Tryz.prog 70 #[.int .i64 n, v] w (ChooseP w n ls) := by
 have HPB := hid hpb
 have HFS := hid hfS
 have HFA := hid hfA
 have HFD := hid hfD
 have HZA := hid (hA z hz)
 have HZS := hid (hS z hz)
 clear hfS hfA hfD hz
 have HSL0 := hid h
 have HSH := hid hS
 clear hS
 have HLL := hid hl
 obtain ⟨b, o, cap, a, rfl, ha, hc, hb⟩ := h
 have hlm : (mgs ls).length = ls.length := by unfold mgs; rw [List.length_map]
 rw [hlm] at ha hb ⊢
 have HA := hid hA
 have HCC := hid hc
 obtain ⟨m, hm⟩ : ∃ m, m = ls.length := ⟨_, rfl⟩
 rw [← hm] at ha hb hl ⊢
 have HN := hid hm
 clear hm hA hc hlm
 have HSL : Hid (SlM w (.slice a m cap) (mgs ls)) := hid (by have e : (mgs ls).length = m := (by unfold mgs; rw [List.length_map]; exact HN.out.symm); have hs := HSL0.out; rw [e] at hs; exact hs)
 clear HSL0
 have HCP : Hid (∀ W, Below w.heap.size w W → Calls Tryz.prog 98 #[.int .i64 n, .slice a m cap] W fun e w' => e = .returned (.bool true) ∧ Below W.heap.size W w') := hid (fun W hW => (by have := cPromises n ((HSL.out).on hW) (fun x hx => (HA.out x hx).on hW) HSH.out (by have := HLL.out; omega); rw [hpb] at this; exact this))
 have HCS : Hid (∀ W, Below w.heap.size w W → Calls Tryz.prog 99 #[.slice a m cap] W fun e w' => FoundP (ls.find? isS) (fun m => (m.m.vt, m.m.vp)) e ∧ Below W.heap.size W w') := hid (fun W hW => cSettled ((HSL.out).on hW) (fun x hx => (HA.out x hx).on hW) (by have := HLL.out; omega))
 have HCA : Hid (∀ W, Below w.heap.size w W → Calls Tryz.prog 101 #[.slice a m cap] W fun e w' => FoundP (accF ls) (fun m => (m.m.xt, m.m.xp)) e ∧ Below W.heap.size W w') := hid (fun W hW => cAccepted ((HSL.out).on hW) (fun x hx => (HA.out x hx).on hW) (by have := HLL.out; omega))
 have HCD : Hid (∀ W, Below w.heap.size w W → Calls Tryz.prog 102 #[.int .i64 n, .slice a m cap] W fun e w' => FoundP (decF n ls) (fun m => (m.m.ft, m.m.fp)) e ∧ Below W.heap.size W w') := hid (fun W hW => cDecided n ((HSL.out).on hW) (fun x hx => (HA.out x hx).on hW) HSH.out (by have := HLL.out; omega))
 have HB0 : Hid (Below w.heap.size w (w.alloc zeroCc)) := hid ((Below.refl _ w).alloc (Nat.le_refl _) _)
 have HR0 : Hid (RoomC (w.alloc zeroCc) w.heap.size) := hid (roomCZ w)
 go_enter Tryz.func70, Tryz.ntmps70
 go_wp2_with (first
  | (go_at_call 98; refine (HCP.out _ HB0.out).mono ?_; rintro e w1 ⟨rfl, hB⟩; have HB1 : Hid (Below w.heap.size w w1) := hid (HB0.out.trans (hB.mono HB0.out.size)); have HR1 := hid (HR0.out.on hB); clear hB)
  | (go_at_call 99; refine (HCS.out _ HB1.out).mono ?_; rintro e w2 ⟨hf, hB⟩; have HB2 : Hid (Below w.heap.size w w2) := hid (HB1.out.trans (hB.mono HB1.out.size)); have HR2 := hid (HR1.out.on hB); clear hB; rcases hf with ⟨y, hy⟩ | hf; exact absurd (hy.symm.trans HFS.out) (by simp); clear hf)
  | ((with_reducible refine storeV (x := ?wx11) (y := ?wy11) (b := w2.heap.size) 0 zS ?wg11 ?wo11 ?wxx11 ?wyy11 ?wc11 ?wh11); (case wg11 => rfl); (case wo11 => rfl); (case wxx11 => rfl); (case wyy11 => rfl); (case wc11 => exact (roomVZ w2)); intro w3 hO hU; have HB3 : Hid (Below w.heap.size w w3) := hid (HB2.out.trans (((laid1_b w2 zeroVc).trans (hU.below w2.heap.size (Nat.le_refl _))).mono HB2.out.size)); have HR3 : Hid (RoomC w3 w.heap.size) := hid (HR2.out.on ((laid1_b w2 zeroVc).trans (hU.below w2.heap.size (Nat.le_refl _)))); clear hO hU)
  | (go_at_call 101; refine (HCA.out _ HB3.out).mono ?_; rintro e w4 ⟨hf, hB⟩; have HB4 : Hid (Below w.heap.size w w4) := hid (HB3.out.trans (hB.mono HB3.out.size)); have HR4 := hid (HR3.out.on hB); clear hB; rcases hf with ⟨y, hy⟩ | hf; exact absurd (hy.symm.trans HFA.out) (by simp); clear hf)
  | ((with_reducible refine storeV (x := ?wx12) (y := ?wy12) (b := w4.heap.size) 0 zS ?wg12 ?wo12 ?wxx12 ?wyy12 ?wc12 ?wh12); (case wg12 => rfl); (case wo12 => rfl); (case wxx12 => rfl); (case wyy12 => rfl); (case wc12 => exact (roomVZ w4)); intro w5 hO hU; have HB5 : Hid (Below w.heap.size w w5) := hid (HB4.out.trans (((laid1_b w4 zeroVc).trans (hU.below w4.heap.size (Nat.le_refl _))).mono HB4.out.size)); have HR5 : Hid (RoomC w5 w.heap.size) := hid (HR4.out.on ((laid1_b w4 zeroVc).trans (hU.below w4.heap.size (Nat.le_refl _)))); clear hO hU)
  | (go_at_call 102; refine (HCD.out _ HB5.out).mono ?_; rintro e w6 ⟨hf, hB⟩; have HB6 : Hid (Below w.heap.size w w6) := hid (HB5.out.trans (hB.mono HB5.out.size)); have HR6 := hid (HR5.out.on hB); clear hB; rcases hf with ⟨y, hy⟩ | hf; rotate_left; exact absurd (hf.symm.trans HFD.out) (by simp); have hyy : y = z := Option.some.inj (hy.symm.trans HFD.out); subst hyy; clear hy)
  | ((with_reducible refine storeV (x := ?wx13) (y := ?wy13) (b := w6.heap.size) y.m.ft y.m.fp ?wg13 ?wo13 ?wxx13 ?wyy13 ?wc13 ?wh13); (case wg13 => rfl); (case wo13 => rfl); (case wxx13 => rfl); (case wyy13 => rfl); (case wc13 => exact (roomVZ w6)); intro w7 hO hU; have HB7 : Hid (Below w.heap.size w w7) := hid (HB6.out.trans (((laid1_b w6 zeroVc).trans (hU.below w6.heap.size (Nat.le_refl _))).mono HB6.out.size)); have HR7 : Hid (RoomC w7 w.heap.size) := hid (HR6.out.on ((laid1_b w6 zeroVc).trans (hU.below w6.heap.size (Nat.le_refl _)))); have HVX : Hid (OV w7 w6.heap.size y.m.ft y.m.fp) := hid hO; clear hO hU)
  | ((with_reducible refine loadVl (x := ?vx14) (b := w6.heap.size) (o := 0) y.m.ft y.m.fp ?vg14 ?vo14 ?vxx14 ?vc14 ?_); (case vg14 => rfl); (case vo14 => rfl); (case vxx14 => rfl); (case vc14 => exact HVX.out.range))
  | (go_at_call 100; refine (cOwn ((HZA.out.2.2).on HB7.out) (Nat.le_trans HZS.out.2.2 (by decide))).mono ?_; rintro e w8 ⟨⟨ra, rn, rc⟩, rfl, hs, hB⟩; have HB8 : Hid (Below w.heap.size w w8) := hid (HB7.out.trans (hB.mono HB7.out.size)); have HR8 := hid (HR7.out.on hB); have HSR := hid hs; clear hs hB)
  | ((with_reducible refine wpList_buildCh (x := ?bx15) 2 y.m.ft ⟨ra, rn, rc⟩ ?bg15 ?bo15 ?be15 ?_); (case bg15 => rfl); (case bo15 => rfl); (case be15 => rfl))
  | ((with_reducible refine storeCh (x := ?cx16) (y := ?cy16) (b := w.heap.size) 2 y.m.ft ⟨ra, rn, rc⟩ ?cg16 ?co16 ?cxx16 ?cyy16 ?cc16 ?ch16); (case cg16 => rfl); (case co16 => rfl); (case cxx16 => rfl); (case cyy16 => rfl); (case cc16 => exact HR8.out); intro WZ hO hU; have HOZ : Hid (OC WZ w.heap.size 2 y.m.ft ⟨ra, rn, rc⟩) := hid hO; have HUZ := hid hU; have HBZ : Hid (Below w.heap.size w8 WZ) := hid (hU.below w.heap.size (Nat.le_refl _)); clear hO hU)
  | fail)
 refine bodyPost_ret (ret_cell_tmp rfl rfl rfl HOZ.out.range Tryz.underlying97 rfl (infoCl _ _ _)) rfl (ChooseP.of (c := ⟨2, y.m.ft, y.f, 0⟩) (r := ⟨ra, rn, rc⟩) ?_ ?_ ?_)
 · unfold choF; rw [if_pos HPB.out, HFS.out, HFA.out, HFD.out]
 · exact HSR.out.updC HR8.out HUZ.out
 · exact HB8.out.trans HBZ.out
set_option maxHeartbeats 16000000 in
set_option maxRecDepth 100000 in
theorem cChooseF {v : Value} {ls : List Ms} {w : World} (n : Int) (h : SlM w v (mgs ls)) (hA : ∀ m ∈ ls, m.at w) (hS : ∀ m ∈ ls, m.short 1024) (hl : ls.length ≤ 40) (hpb : promB n ls = true) (hfS : ls.find? isS = none) (hfA : accF ls = none) (hfD : decF n ls = none) (hfe : freshE ls = 0) : Calls Tryz.prog 70 #[.int .i64 n, v] w (ChooseP w n ls) := by
 have HPB := hid hpb
 have HFS := hid hfS
 have HFA := hid hfA
 have HFD := hid hfD
 obtain ⟨fe, he⟩ : ∃ z, z = freshE ls := ⟨_, rfl⟩
 obtain ⟨ft, ht⟩ : ∃ z, z = freshT ls := ⟨_, rfl⟩
 rw [← he] at hfe
 have HFE := hid he
 have HFT := hid ht
 have HFZ := hid hfe
 have hzb : (fe != 0) = false := by simp [hfe]
 clear hfS hfA hfD hfe he ht
 have HSL0 := hid h
 have HSH := hid hS
 clear hS
 have HLL := hid hl
 obtain ⟨b, o, cap, a, rfl, ha, hc, hb⟩ := h
 have hlm : (mgs ls).length = ls.length := by unfold mgs; rw [List.length_map]
 rw [hlm] at ha hb ⊢
 have HA := hid hA
 have HCC := hid hc
 obtain ⟨m, hm⟩ : ∃ m, m = ls.length := ⟨_, rfl⟩
 rw [← hm] at ha hb hl ⊢
 have HN := hid hm
 clear hm hA hc hlm
 have HSL : Hid (SlM w (.slice a m cap) (mgs ls)) := hid (by have e : (mgs ls).length = m := (by unfold mgs; rw [List.length_map]; exact HN.out.symm); have hs := HSL0.out; rw [e] at hs; exact hs)
 clear HSL0
 have HCP : Hid (∀ W, Below w.heap.size w W → Calls Tryz.prog 98 #[.int .i64 n, .slice a m cap] W fun e w' => e = .returned (.bool true) ∧ Below W.heap.size W w') := hid (fun W hW => (by have := cPromises n ((HSL.out).on hW) (fun x hx => (HA.out x hx).on hW) HSH.out (by have := HLL.out; omega); rw [hpb] at this; exact this))
 have HCS : Hid (∀ W, Below w.heap.size w W → Calls Tryz.prog 99 #[.slice a m cap] W fun e w' => FoundP (ls.find? isS) (fun m => (m.m.vt, m.m.vp)) e ∧ Below W.heap.size W w') := hid (fun W hW => cSettled ((HSL.out).on hW) (fun x hx => (HA.out x hx).on hW) (by have := HLL.out; omega))
 have HCA : Hid (∀ W, Below w.heap.size w W → Calls Tryz.prog 101 #[.slice a m cap] W fun e w' => FoundP (accF ls) (fun m => (m.m.xt, m.m.xp)) e ∧ Below W.heap.size W w') := hid (fun W hW => cAccepted ((HSL.out).on hW) (fun x hx => (HA.out x hx).on hW) (by have := HLL.out; omega))
 have HCD : Hid (∀ W, Below w.heap.size w W → Calls Tryz.prog 102 #[.int .i64 n, .slice a m cap] W fun e w' => FoundP (decF n ls) (fun m => (m.m.ft, m.m.fp)) e ∧ Below W.heap.size W w') := hid (fun W hW => cDecided n ((HSL.out).on hW) (fun x hx => (HA.out x hx).on hW) HSH.out (by have := HLL.out; omega))
 have HCF : Hid (∀ W, Below w.heap.size w W → Calls Tryz.prog 87 #[.slice a m cap] W fun e w' => FreshD W ls e w') := hid (fun W hW => cFresh ((HSL.out).on hW) (fun x hx => (HA.out x hx).on hW) HSH.out HLL.out)
 have HB0 : Hid (Below w.heap.size w (w.alloc zeroCc)) := hid ((Below.refl _ w).alloc (Nat.le_refl _) _)
 have HR0 : Hid (RoomC (w.alloc zeroCc) w.heap.size) := hid (roomCZ w)
 go_enter Tryz.func70, Tryz.ntmps70
 go_wp2_with (first
  | (go_at_call 98; refine (HCP.out _ HB0.out).mono ?_; rintro e w1 ⟨rfl, hB⟩; have HB1 : Hid (Below w.heap.size w w1) := hid (HB0.out.trans (hB.mono HB0.out.size)); have HR1 := hid (HR0.out.on hB); clear hB)
  | (go_at_call 99; refine (HCS.out _ HB1.out).mono ?_; rintro e w2 ⟨hf, hB⟩; have HB2 : Hid (Below w.heap.size w w2) := hid (HB1.out.trans (hB.mono HB1.out.size)); have HR2 := hid (HR1.out.on hB); clear hB; rcases hf with ⟨y, hy⟩ | hf; exact absurd (hy.symm.trans HFS.out) (by simp); clear hf)
  | ((with_reducible refine storeV (x := ?wx17) (y := ?wy17) (b := w2.heap.size) 0 zS ?wg17 ?wo17 ?wxx17 ?wyy17 ?wc17 ?wh17); (case wg17 => rfl); (case wo17 => rfl); (case wxx17 => rfl); (case wyy17 => rfl); (case wc17 => exact (roomVZ w2)); intro w3 hO hU; have HB3 : Hid (Below w.heap.size w w3) := hid (HB2.out.trans (((laid1_b w2 zeroVc).trans (hU.below w2.heap.size (Nat.le_refl _))).mono HB2.out.size)); have HR3 : Hid (RoomC w3 w.heap.size) := hid (HR2.out.on ((laid1_b w2 zeroVc).trans (hU.below w2.heap.size (Nat.le_refl _)))); clear hO hU)
  | (go_at_call 101; refine (HCA.out _ HB3.out).mono ?_; rintro e w4 ⟨hf, hB⟩; have HB4 : Hid (Below w.heap.size w w4) := hid (HB3.out.trans (hB.mono HB3.out.size)); have HR4 := hid (HR3.out.on hB); clear hB; rcases hf with ⟨y, hy⟩ | hf; exact absurd (hy.symm.trans HFA.out) (by simp); clear hf)
  | ((with_reducible refine storeV (x := ?wx18) (y := ?wy18) (b := w4.heap.size) 0 zS ?wg18 ?wo18 ?wxx18 ?wyy18 ?wc18 ?wh18); (case wg18 => rfl); (case wo18 => rfl); (case wxx18 => rfl); (case wyy18 => rfl); (case wc18 => exact (roomVZ w4)); intro w5 hO hU; have HB5 : Hid (Below w.heap.size w w5) := hid (HB4.out.trans (((laid1_b w4 zeroVc).trans (hU.below w4.heap.size (Nat.le_refl _))).mono HB4.out.size)); have HR5 : Hid (RoomC w5 w.heap.size) := hid (HR4.out.on ((laid1_b w4 zeroVc).trans (hU.below w4.heap.size (Nat.le_refl _)))); clear hO hU)
  | (go_at_call 102; refine (HCD.out _ HB5.out).mono ?_; rintro e w6 ⟨hf, hB⟩; have HB6 : Hid (Below w.heap.size w w6) := hid (HB5.out.trans (hB.mono HB5.out.size)); have HR6 := hid (HR5.out.on hB); clear hB; rcases hf with ⟨y, hy⟩ | hf; exact absurd (hy.symm.trans HFD.out) (by simp); clear hf)
  | ((with_reducible refine storeV (x := ?wx19) (y := ?wy19) (b := w6.heap.size) 0 zS ?wg19 ?wo19 ?wxx19 ?wyy19 ?wc19 ?wh19); (case wg19 => rfl); (case wo19 => rfl); (case wxx19 => rfl); (case wyy19 => rfl); (case wc19 => exact (roomVZ w6)); intro w7 hO hU; have HB7 : Hid (Below w.heap.size w w7) := hid (HB6.out.trans (((laid1_b w6 zeroVc).trans (hU.below w6.heap.size (Nat.le_refl _))).mono HB6.out.size)); have HR7 : Hid (RoomC w7 w.heap.size) := hid (HR6.out.on ((laid1_b w6 zeroVc).trans (hU.below w6.heap.size (Nat.le_refl _)))); clear hO hU)
  | (go_at_call 87; refine (HCF.out _ HB7.out).mono ?_; rintro e w8 hF; obtain ⟨⟨ra, rn, rc⟩, rfl, hs, hB⟩ := hF; rw [← HFE.out, ← HFT.out]; have HB8 : Hid (Below w.heap.size w w8) := hid (HB7.out.trans (hB.mono HB7.out.size)); have HR8 := hid (HR7.out.on hB); have HSR := hid hs; clear hs hB)
  | ((with_reducible refine storeV (x := ?wx20) (y := ?wy20) (b := w8.heap.size) ft ⟨ra, rn, rc⟩ ?wg20 ?wo20 ?wxx20 ?wyy20 ?wc20 ?wh20); (case wg20 => rfl); (case wo20 => rfl); (case wxx20 => rfl); (case wyy20 => rfl); (case wc20 => exact (roomVZ w8)); intro w9 hO hU; have HB9 : Hid (Below w.heap.size w w9) := hid (HB8.out.trans (((laid1_b w8 zeroVc).trans (hU.below w8.heap.size (Nat.le_refl _))).mono HB8.out.size)); have HR9 : Hid (RoomC w9 w.heap.size) := hid (HR8.out.on ((laid1_b w8 zeroVc).trans (hU.below w8.heap.size (Nat.le_refl _)))); have HVX : Hid (OV w9 w8.heap.size ft ⟨ra, rn, rc⟩) := hid hO; have HSR2 := hid (HSR.out.on ((laid1_b w8 zeroVc).trans (hU.below w8.heap.size (Nat.le_refl _)))); clear hO hU)
  | ((with_reducible refine loadVl (x := ?vx21) (b := w8.heap.size) (o := 0) ft ⟨ra, rn, rc⟩ ?vg21 ?vo21 ?vxx21 ?vc21 ?_); (case vg21 => rfl); (case vo21 => rfl); (case vxx21 => rfl); (case vc21 => exact HVX.out.range))
  | ((with_reducible refine wpList_buildCh (x := ?bx22) 3 ft ⟨ra, rn, rc⟩ ?bg22 ?bo22 ?be22 ?_); (case bg22 => rfl); (case bo22 => rfl); (case be22 => rfl))
  | ((with_reducible refine storeCh (x := ?cx23) (y := ?cy23) (b := w.heap.size) 3 ft ⟨ra, rn, rc⟩ ?cg23 ?co23 ?cxx23 ?cyy23 ?cc23 ?ch23); (case cg23 => rfl); (case co23 => rfl); (case cxx23 => rfl); (case cyy23 => rfl); (case cc23 => exact HR9.out); intro WZ hO hU; have HOZ : Hid (OC WZ w.heap.size 3 ft ⟨ra, rn, rc⟩) := hid hO; have HUZ := hid hU; have HBZ : Hid (Below w.heap.size w9 WZ) := hid (hU.below w.heap.size (Nat.le_refl _)); clear hO hU)
  | fail)
 refine bodyPost_ret (ret_cell_tmp rfl rfl rfl HOZ.out.range Tryz.underlying97 rfl (infoCl _ _ _)) rfl (ChooseP.of (c := ⟨3, ft, freshL ls, 0⟩) (r := ⟨ra, rn, rc⟩) ?_ ?_ ?_)
 · unfold choF; rw [if_pos HPB.out, HFS.out]; show (match accF ls with | some m => _ | none => _) = _; rw [HFA.out]; show (match decF n ls with | some m => _ | none => _) = _; rw [HFD.out]; show (if freshE ls = 0 then _ else _) = _; rw [if_pos (by rw [← HFE.out]; exact HFZ.out), HFT.out]
 · exact HSR2.out.updC HR9.out HUZ.out
 · exact HB9.out.trans HBZ.out
set_option maxHeartbeats 16000000 in
set_option maxRecDepth 100000 in
theorem cChooseE {v : Value} {ls : List Ms} {w : World} (n : Int) (h : SlM w v (mgs ls)) (hA : ∀ m ∈ ls, m.at w) (hS : ∀ m ∈ ls, m.short 1024) (hl : ls.length ≤ 40) (hpb : promB n ls = true) (hfS : ls.find? isS = none) (hfA : accF ls = none) (hfD : decF n ls = none) (hfe : freshE ls ≠ 0) : Calls Tryz.prog 70 #[.int .i64 n, v] w (ChooseP w n ls) := by
 have HPB := hid hpb
 have HFS := hid hfS
 have HFA := hid hfA
 have HFD := hid hfD
 obtain ⟨fe, he⟩ : ∃ z, z = freshE ls := ⟨_, rfl⟩
 obtain ⟨ft, ht⟩ : ∃ z, z = freshT ls := ⟨_, rfl⟩
 rw [← he] at hfe
 have HFE := hid he
 have HFT := hid ht
 have HFZ := hid hfe
 have hzb : (fe != 0) = true := by simpa using hfe
 clear hfS hfA hfD hfe he ht
 have HSL0 := hid h
 have HSH := hid hS
 clear hS
 have HLL := hid hl
 obtain ⟨b, o, cap, a, rfl, ha, hc, hb⟩ := h
 have hlm : (mgs ls).length = ls.length := by unfold mgs; rw [List.length_map]
 rw [hlm] at ha hb ⊢
 have HA := hid hA
 have HCC := hid hc
 obtain ⟨m, hm⟩ : ∃ m, m = ls.length := ⟨_, rfl⟩
 rw [← hm] at ha hb hl ⊢
 have HN := hid hm
 clear hm hA hc hlm
 have HSL : Hid (SlM w (.slice a m cap) (mgs ls)) := hid (by have e : (mgs ls).length = m := (by unfold mgs; rw [List.length_map]; exact HN.out.symm); have hs := HSL0.out; rw [e] at hs; exact hs)
 clear HSL0
 have HCP : Hid (∀ W, Below w.heap.size w W → Calls Tryz.prog 98 #[.int .i64 n, .slice a m cap] W fun e w' => e = .returned (.bool true) ∧ Below W.heap.size W w') := hid (fun W hW => (by have := cPromises n ((HSL.out).on hW) (fun x hx => (HA.out x hx).on hW) HSH.out (by have := HLL.out; omega); rw [hpb] at this; exact this))
 have HCS : Hid (∀ W, Below w.heap.size w W → Calls Tryz.prog 99 #[.slice a m cap] W fun e w' => FoundP (ls.find? isS) (fun m => (m.m.vt, m.m.vp)) e ∧ Below W.heap.size W w') := hid (fun W hW => cSettled ((HSL.out).on hW) (fun x hx => (HA.out x hx).on hW) (by have := HLL.out; omega))
 have HCA : Hid (∀ W, Below w.heap.size w W → Calls Tryz.prog 101 #[.slice a m cap] W fun e w' => FoundP (accF ls) (fun m => (m.m.xt, m.m.xp)) e ∧ Below W.heap.size W w') := hid (fun W hW => cAccepted ((HSL.out).on hW) (fun x hx => (HA.out x hx).on hW) (by have := HLL.out; omega))
 have HCD : Hid (∀ W, Below w.heap.size w W → Calls Tryz.prog 102 #[.int .i64 n, .slice a m cap] W fun e w' => FoundP (decF n ls) (fun m => (m.m.ft, m.m.fp)) e ∧ Below W.heap.size W w') := hid (fun W hW => cDecided n ((HSL.out).on hW) (fun x hx => (HA.out x hx).on hW) HSH.out (by have := HLL.out; omega))
 have HCF : Hid (∀ W, Below w.heap.size w W → Calls Tryz.prog 87 #[.slice a m cap] W fun e w' => FreshD W ls e w') := hid (fun W hW => cFresh ((HSL.out).on hW) (fun x hx => (HA.out x hx).on hW) HSH.out HLL.out)
 have HB0 : Hid (Below w.heap.size w (w.alloc zeroCc)) := hid ((Below.refl _ w).alloc (Nat.le_refl _) _)
 have HR0 : Hid (RoomC (w.alloc zeroCc) w.heap.size) := hid (roomCZ w)
 go_enter Tryz.func70, Tryz.ntmps70
 go_wp2_with (first
  | (go_at_call 98; refine (HCP.out _ HB0.out).mono ?_; rintro e w1 ⟨rfl, hB⟩; have HB1 : Hid (Below w.heap.size w w1) := hid (HB0.out.trans (hB.mono HB0.out.size)); have HR1 := hid (HR0.out.on hB); clear hB)
  | (go_at_call 99; refine (HCS.out _ HB1.out).mono ?_; rintro e w2 ⟨hf, hB⟩; have HB2 : Hid (Below w.heap.size w w2) := hid (HB1.out.trans (hB.mono HB1.out.size)); have HR2 := hid (HR1.out.on hB); clear hB; rcases hf with ⟨y, hy⟩ | hf; exact absurd (hy.symm.trans HFS.out) (by simp); clear hf)
  | ((with_reducible refine storeV (x := ?wx24) (y := ?wy24) (b := w2.heap.size) 0 zS ?wg24 ?wo24 ?wxx24 ?wyy24 ?wc24 ?wh24); (case wg24 => rfl); (case wo24 => rfl); (case wxx24 => rfl); (case wyy24 => rfl); (case wc24 => exact (roomVZ w2)); intro w3 hO hU; have HB3 : Hid (Below w.heap.size w w3) := hid (HB2.out.trans (((laid1_b w2 zeroVc).trans (hU.below w2.heap.size (Nat.le_refl _))).mono HB2.out.size)); have HR3 : Hid (RoomC w3 w.heap.size) := hid (HR2.out.on ((laid1_b w2 zeroVc).trans (hU.below w2.heap.size (Nat.le_refl _)))); clear hO hU)
  | (go_at_call 101; refine (HCA.out _ HB3.out).mono ?_; rintro e w4 ⟨hf, hB⟩; have HB4 : Hid (Below w.heap.size w w4) := hid (HB3.out.trans (hB.mono HB3.out.size)); have HR4 := hid (HR3.out.on hB); clear hB; rcases hf with ⟨y, hy⟩ | hf; exact absurd (hy.symm.trans HFA.out) (by simp); clear hf)
  | ((with_reducible refine storeV (x := ?wx25) (y := ?wy25) (b := w4.heap.size) 0 zS ?wg25 ?wo25 ?wxx25 ?wyy25 ?wc25 ?wh25); (case wg25 => rfl); (case wo25 => rfl); (case wxx25 => rfl); (case wyy25 => rfl); (case wc25 => exact (roomVZ w4)); intro w5 hO hU; have HB5 : Hid (Below w.heap.size w w5) := hid (HB4.out.trans (((laid1_b w4 zeroVc).trans (hU.below w4.heap.size (Nat.le_refl _))).mono HB4.out.size)); have HR5 : Hid (RoomC w5 w.heap.size) := hid (HR4.out.on ((laid1_b w4 zeroVc).trans (hU.below w4.heap.size (Nat.le_refl _)))); clear hO hU)
  | (go_at_call 102; refine (HCD.out _ HB5.out).mono ?_; rintro e w6 ⟨hf, hB⟩; have HB6 : Hid (Below w.heap.size w w6) := hid (HB5.out.trans (hB.mono HB5.out.size)); have HR6 := hid (HR5.out.on hB); clear hB; rcases hf with ⟨y, hy⟩ | hf; exact absurd (hy.symm.trans HFD.out) (by simp); clear hf)
  | ((with_reducible refine storeV (x := ?wx26) (y := ?wy26) (b := w6.heap.size) 0 zS ?wg26 ?wo26 ?wxx26 ?wyy26 ?wc26 ?wh26); (case wg26 => rfl); (case wo26 => rfl); (case wxx26 => rfl); (case wyy26 => rfl); (case wc26 => exact (roomVZ w6)); intro w7 hO hU; have HB7 : Hid (Below w.heap.size w w7) := hid (HB6.out.trans (((laid1_b w6 zeroVc).trans (hU.below w6.heap.size (Nat.le_refl _))).mono HB6.out.size)); have HR7 : Hid (RoomC w7 w.heap.size) := hid (HR6.out.on ((laid1_b w6 zeroVc).trans (hU.below w6.heap.size (Nat.le_refl _)))); clear hO hU)
  | (go_at_call 87; refine (HCF.out _ HB7.out).mono ?_; rintro e w8 hF; obtain ⟨⟨ra, rn, rc⟩, rfl, hs, hB⟩ := hF; rw [← HFE.out, ← HFT.out]; have HB8 : Hid (Below w.heap.size w w8) := hid (HB7.out.trans (hB.mono HB7.out.size)); have HR8 := hid (HR7.out.on hB); have HSR := hid hs; clear hs hB)
  | ((with_reducible refine storeV (x := ?wx27) (y := ?wy27) (b := w8.heap.size) ft ⟨ra, rn, rc⟩ ?wg27 ?wo27 ?wxx27 ?wyy27 ?wc27 ?wh27); (case wg27 => rfl); (case wo27 => rfl); (case wxx27 => rfl); (case wyy27 => rfl); (case wc27 => exact (roomVZ w8)); intro w9 hO hU; have HB9 : Hid (Below w.heap.size w w9) := hid (HB8.out.trans (((laid1_b w8 zeroVc).trans (hU.below w8.heap.size (Nat.le_refl _))).mono HB8.out.size)); have HR9 : Hid (RoomC w9 w.heap.size) := hid (HR8.out.on ((laid1_b w8 zeroVc).trans (hU.below w8.heap.size (Nat.le_refl _)))); have HVX : Hid (OV w9 w8.heap.size ft ⟨ra, rn, rc⟩) := hid hO; have HSR2 := hid (HSR.out.on ((laid1_b w8 zeroVc).trans (hU.below w8.heap.size (Nat.le_refl _)))); clear hO hU)
  | ((with_reducible refine storeCh (x := ?cx28) (y := ?cy28) (b := w.heap.size) 0 0 zS ?cg28 ?co28 ?cxx28 ?cyy28 ?cc28 ?ch28); (case cg28 => rfl); (case co28 => rfl); (case cxx28 => rfl); (case cyy28 => rfl); (case cc28 => exact HR9.out); intro WZ hO hU; have HOZ : Hid (OC WZ w.heap.size 0 0 zS) := hid hO; have HUZ := hid hU; have HBZ : Hid (Below w.heap.size w9 WZ) := hid (hU.below w.heap.size (Nat.le_refl _)); clear hO hU)
  | fail)
 refine bodyPost_ret (ret_cell_tmp rfl rfl rfl HOZ.out.range Tryz.underlying97 rfl (infoCl _ _ _)) rfl (ChooseP.of (c := ⟨0, 0, [], fe⟩) (r := zS) ?_ ?_ ?_)
 · unfold choF; rw [if_pos HPB.out, HFS.out]; show (match accF ls with | some m => _ | none => _) = _; rw [HFA.out]; show (match decF n ls with | some m => _ | none => _) = _; rw [HFD.out]; show (if freshE ls = 0 then _ else _) = _; rw [if_neg (by rw [← HFE.out]; exact HFZ.out), HFE.out]
 · exact SetD.nil WZ
 · exact HB9.out.trans HBZ.out
theorem cChoose {v : Value} {ls : List Ms} {w : World} (n : Int) (h : SlM w v (mgs ls)) (hA : ∀ m ∈ ls, m.at w) (hS : ∀ m ∈ ls, m.short 1024) (hl : ls.length ≤ 40) : Calls Tryz.prog 70 #[.int .i64 n, v] w (ChooseP w n ls) := by
 rcases hp : promB n ls with _ | _
 · exact cChoose0 n h hA hS hl hp
 · rcases hs : ls.find? isS with _ | z
   · rcases ha : accF ls with _ | z
     · rcases hd : decF n ls with _ | z
       · by_cases hf : freshE ls = 0
         · exact cChooseF n h hA hS hl hp hs ha hd hf
         · exact cChooseE n h hA hS hl hp hs ha hd hf
       · exact cChooseD n h hA hS hl hp hs ha hd (decF_mem hd)
     · exact cChooseA n h hA hS hl hp hs ha (acc_mem ha)
   · exact cChooseS n h hA hS hl hp hs (List.mem_of_find?_eq_some hs)
end Go.Proofs.YtplodoindppleaaGreat

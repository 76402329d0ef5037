import Derived.Test.YtpkkmfppdhjpkaaGreatGa41
import Derived.Test.YtpkkmfppdhjpkaaGreatAlive6M
import Derived.Test.YtpkkmfppdhjpkaaGreatGa43
import Derived.Test.YtpkkmfppdhjpkaaGreatGa33
/- The live question. -/
namespace Go.Proofs.YtpkkmfppdhjpkaaGreat
set_option linter.unusedVariables false
open Go.RowKit Go.Maps
open Go.Lib (hid)

theorem putAll_pos : ∀ l : List Int, l.length ≤ (putAll l).length
  | [] => Nat.zero_le _
  | x :: l => by
    have := putAll_pos l
    have h := List.length_pos_iff.2 (oneN_ne x.toNat)
    unfold putAll at *
    rw [List.flatMap_cons, List.length_append, List.length_cons]
    omega
theorem value_small {t : Int} (h : 0 ≤ t ∧ t ≤ 1099511627776) : (valueBytes t []).length ≤ 12 := by
  unfold valueBytes cmdsBytes cmdsB
  rw [List.length_append, List.length_append]
  have h1 := oneN_six (n := t.toNat) (by omega)
  have h2 := oneN_six (n := ([] : List C7).length) (by simp)
  simp only [List.flatMap_nil, List.length_nil] at *
  omega
theorem rec_small {c : Nat} {x : En} (hr : x.right = true) (hf : x.f = []) (ha : x.a = []) (hv : x.v = []) (hc : c ≤ 65535) : 4 ≤ (recB c x).length ∧ (recB c x).length ≤ 200 := by
  have hF := right_fine hr
  have h0 := bytes_most hF.c
  have p1 := oneN_six (n := c) (by omega)
  have p0 := List.length_pos_iff.2 (oneN_ne c)
  have v1 := value_small hF.f.2
  have v2 := value_small hF.a.2
  have v3 := value_small hF.v.2
  have q3 := putAll_len [x.e.pr, x.e.lo, x.e.hi] (List.all_eq_true.2 fun y hy => in40_true.2 (FineE.three hF y hy))
  have r3 := putAll_pos [x.e.pr, x.e.lo, x.e.hi]
  have q1 := putAll_len [x.e.ab] (List.all_eq_true.2 fun y hy => in40_true.2 (FineE.one hF y hy))
  have q2 := putAll_len [markI x.e.fr, markI x.e.dn] (List.all_eq_true.2 fun y hy => in40_true.2 (marks_two x.e.fr x.e.dn y hy))
  unfold recB entB
  rw [hf, ha, hv]
  simp only [List.length_append, cmdsB_one, List.length_cons, List.length_nil] at *
  omega
abbrev bE : Ev := { newE aC with pr := 5 }
abbrev X1 : En := ⟨newE aC, [], [], []⟩
abbrev X2 : En := ⟨bE, [], [], []⟩
theorem X1_right : X1.right = true := by decide
theorem X2_right : X2.right = true := by decide
theorem nilSl (W : World) : Sl W (⟨none, 0, 0⟩ : Sv).v [] := (Own.nil W 0).sl
theorem X1_at (W : World) : X1.at W := ⟨nilSl W, nilSl W, nilSl W⟩
theorem X2_at (W : World) : X2.at W := ⟨nilSl W, nilSl W, nilSl W⟩
theorem X_short {e : Ev} : En.short 80 ⟨e, [], [], []⟩ := ⟨by simp, by simp, by simp⟩
theorem aProm (W : World) : Calls Tryz.prog 18 #[.agg (newE aC).arr, .int .i64 5] W fun x w' => x = .returned (.tuple #[.agg bE.arr, .int .i64 0]) ∧ Below W.heap.size W w' := cPromise (newE aC) 5 W
theorem fine2 : FineR [(3, X1), (4, X2)] := fun k r hk => by
  rcases k with _ | _ | k
  · simp at hk; subst hk; exact ⟨X1_right, X_short, by decide, by decide⟩
  · simp at hk; subst hk; exact ⟨X2_right, X_short, by decide, by decide⟩
  · simp at hk
theorem alive_scan : ∃ kk, crashN (logB [(3, X1), (4, X2)]).length (logB [(3, X1)]).length 9 = kk ∧ kk ≤ (logB [(3, X1), (4, X2)]).length ∧ scanN ((logB [(3, X1), (4, X2)]).take kk) = ([recB 3 X1], (logB [(3, X1)]).length) ∧ (logB [(3, X1)]).length ≤ kk := by
  obtain ⟨n, h1, h2, _, h4, h5, h6, h7⟩ := crash_log fine2 (m := 1) (by decide) 9
  have s2 := rec_small (c := 4) X2_right rfl rfl rfl (by decide)
  have hl : (logB [(3, X1), (4, X2)]).length = (logB [(3, X1)]).length + ((recB 4 X2).length + 6) := by
    have := logB_snoc [(3, X1)] (4, X2)
    rw [show [(3, X1)] ++ [(4, X2)] = [(3, X1), (4, X2)] from rfl] at this
    rw [this, List.length_append, frame_len]
  obtain rfl : n = 1 := by
    have h1' : n ≤ 2 := h1
    rcases Nat.lt_or_ge n 2 with h | h
    · omega
    · obtain rfl : n = 2 := by omega
      have e : ([(3, X1), (4, X2)] : List (Nat × En)).take 2 = [(3, X1), (4, X2)] := rfl
      have e1 : ([(3, X1), (4, X2)] : List (Nat × En)).take 1 = [(3, X1)] := rfl
      rw [e, e1] at h6
      unfold crashN at h6
      omega
  exact ⟨_, rfl, h4, h5, h6⟩
theorem kept_one (y : En) : keptE [y] = [y.e] := by
  unfold keptE
  have := kept_snoc En.id [] y
  rw [List.nil_append] at this
  rw [this]; rfl

set_option maxHeartbeats 8000000 in
set_option maxRecDepth 100000 in
theorem jAlive (w : World) : Calls Tryz.prog 5 #[] w fun z w' => z = .returned (.bool true) ∧ Below w.heap.size w w' := by
  have hN := cNew_yes 1000 rfl w
  have hA := a_new
  have hP := aProm
  have sm1 := rec_small (c := 3) X1_right rfl rfl rfl (by decide)
  have sm2 := rec_small (c := 4) X2_right rfl rfl rfl (by decide)
  have SM := hid (And.intro sm1 sm2)
  clear sm1 sm2
  go_enter Tryz.func5, Tryz.ntmps5
  go_wp2_with fail
  go_at_call 6
  refine hN.mono ?_
  rintro z w1 ⟨rfl, hD, hB⟩
  have HB1 := hid hB
  have hO := cJOpen (rs := []) (l := []) (whole := 0) (B := w.heap.size) hD (OwnB.nil _ _) (by simp) (by simpa using scan_nil) (by simp) (by simp) (fun k r h => by simp at h)
  clear hN hD hB
  go_wp2_with fail
  go_at_call 7
  refine hO.mono ?_
  rintro z w2 ⟨j, b, xs, rfl, hj, hm, ⟨v, hd, hv⟩, hct, hat, hT, hj0, hb0⟩
  obtain rfl : xs = [] := by simpa using hct
  have hsz1 := HB1.out.size
  have HJ : Hid (JSt w2 w.heap.size j w.heap.size b 0 1000 (0 : Nat) [] 0 (logB [])) := hid ⟨hj, hm, ⟨v, hd, by simpa [logB_nil] using hv⟩, by omega, by omega, Nat.le_refl _⟩
  have HB2 : Hid (Below w.heap.size w w2) := hid (HB1.out.trans (hT.below (fun k e => by omega) hsz1))
  clear hO hj hm hd hv hct hat hT hj0 hb0 hsz1 HB1
  go_wp2_with fail
  go_at_call 17
  refine (hA _).mono ?_
  rintro z w3 ⟨rfl, hB⟩
  have HJ3 := hid (HJ.out.on hB)
  have HB3 := hid (HB2.out.trans (hB.mono HB2.out.size))
  have hroom : Room (w3.alloc zeroEc) w3.heap.size 48 := ⟨_, heap_alloc_new w3 zeroEc, rfl⟩
  clear hB HJ HB2 hA
  go_wp2_with (first
    | ((with_reducible refine uponStore (e := newE aC) (q := w3.heap.size) (T := 48) hroom ?_); intro w4 hO hU; have hb : Below w3.heap.size w3 w4 := ((Below.refl _ w3).alloc (Nat.le_refl _) _).trans (hU.below _ (Nat.le_refl _)); have HJ4 := hid (HJ3.out.on hb); have HB4 := hid (HB3.out.trans (hb.mono HB3.out.size)); have HA4 := hid hO; clear hO hU hb)
    | ((with_reducible refine loadC (x := ?cx1) (b := ?cb1) (T := 48) (newE aC) ?cg1 ?co1 ?cxx1 ?cc1 ?_); (case cg1 => rfl); (case co1 => rfl); (case cxx1 => rfl); (case cc1 => exact HA4.out))
    | fail)
  go_at_call 18
  refine (hP _).mono ?_
  rintro z w5 ⟨rfl, hB⟩
  have HJ5 := hid (HJ4.out.on hB)
  have HB5 := hid (HB4.out.trans (hB.mono HB4.out.size))
  have HA5 := hid (heapB HA4.out hB (Array.getElem?_eq_some_iff.1 HA4.out).1)
  have hroom : Room (w5.alloc zeroEc) w5.heap.size 48 := ⟨_, heap_alloc_new w5 zeroEc, rfl⟩
  clear hB HJ3 HB3 HJ4 HB4 HA4 hP
  go_wp2_with (first
    | ((with_reducible refine uponStore (e := bE) (q := w5.heap.size) (T := 48) hroom ?_); intro w6 hO hU; have hb : Below w5.heap.size w5 w6 := ((Below.refl _ w5).alloc (Nat.le_refl _) _).trans (hU.below _ (Nat.le_refl _)); have HJ6 := hid (HJ5.out.on hb); have HB6 := hid (HB5.out.trans (hb.mono HB5.out.size)); have HA6 := hid (heapB HA5.out hb (Array.getElem?_eq_some_iff.1 HA5.out).1); have HC6 := hid hO; clear hO hU hb)
    | ((with_reducible refine loadC (x := ?cx2) (b := ?cb2) (T := 48) (newE aC) ?cg2 ?co2 ?cxx2 ?cc2 ?_); (case cg2 => rfl); (case co2 => rfl); (case cxx2 => rfl); (case cc2 => exact HA6.out))
    | ((with_reducible refine wpList_bsE (x := ?bx3) (newE aC) ?bg3 ?bo3 ?bv3 ?_); (case bg3 => rfl); (case bo3 => rfl); (case bv3 => rfl); intro w7 hO hB; have HJ7 := hid (HJ6.out.on hB); have HB7 := hid (HB6.out.trans (hB.mono HB6.out.size)); have HC7 := hid (heapB HC6.out hB (Array.getElem?_eq_some_iff.1 HC6.out).1); have HQ7 := hid hO; clear hO hB)
    | fail)
  go_at_call 11
  have l1 : (logB [] ++ frameB (recB 3 X1)).length ≤ 206 := by rw [logB_nil, List.nil_append, frame_len]; have := SM.out.1.2; omega
  refine (cJPut (c := 3) (x := X1) HJ7.out HB7.out.size HQ7.out (X1_at _) X1_right X_short (by decide) (by decide) (by decide) (by decide) (by omega) (by omega)).mono ?_
  rintro z w8 ⟨rfl, hJ, hB, hK⟩
  rw [← logB_snoc [] (3, X1)] at hJ
  have HJ8 := hid hJ
  have HB8 := hid (HB7.out.trans hB)
  have HC8 := hid (show Ob w8 w5.heap.size 48 bE from hK _ _ HC7.out)
  have hS := cSyncS hJ
  clear hJ hB hK l1 HJ5 HB5 HA5 HJ6 HB6 HA6 HC6 HJ7 HB7 HC7 HQ7
  go_wp2_with fail
  go_at_call 10
  refine hS.mono ?_
  rintro z w9 ⟨rfl, hJ, hB, hK⟩
  have HJ9 := hid hJ
  have HB9 := hid (HB8.out.trans hB)
  have HC9 := hid (show Ob w9 w5.heap.size 48 bE from hK _ _ HC8.out)
  clear hJ hB hK hS HJ8 HB8 HC8
  go_wp2_with (first
    | ((with_reducible refine loadC (x := ?cx4) (b := ?cb4) (T := 48) bE ?cg4 ?co4 ?cxx4 ?cc4 ?_); (case cg4 => rfl); (case co4 => rfl); (case cxx4 => rfl); (case cc4 => exact HC9.out))
    | ((with_reducible refine wpList_bsE (x := ?bx5) bE ?bg5 ?bo5 ?bv5 ?_); (case bg5 => rfl); (case bo5 => rfl); (case bv5 => rfl); intro wa hO hB; have HJa := hid (HJ9.out.on hB); have HBa := hid (HB9.out.trans (hB.mono HB9.out.size)); have HQa := hid hO; clear hO hB)
    | fail)
  go_at_call 11
  have l1 : (logB ([] ++ [(3, X1)]) ++ frameB (recB 4 X2)).length ≤ 412 := by rw [logB_snoc, logB_nil, List.nil_append, List.length_append, frame_len, frame_len]; have e : (recB ((3, X1) : Nat × En).1 ((3, X1) : Nat × En).2).length = (recB 3 X1).length := rfl; have := SM.out.1.2; have := SM.out.2.2; omega
  refine (cJPut (c := 4) (x := X2) HJa.out HBa.out.size HQa.out (X2_at _) X2_right X_short (by decide) (by decide) (by decide) (by decide) (by omega) (by omega)).mono ?_
  rintro z wb ⟨rfl, hJ, hB, -⟩
  have hLb : (logB [(3, X1), (4, X2)]).length ≤ 412 := by
    have := logB_snoc [(3, X1)] (4, X2)
    rw [show [(3, X1)] ++ [(4, X2)] = [(3, X1), (4, X2)] from rfl] at this
    rw [this]; exact l1
  rw [← logB_snoc ([] ++ [(3, X1)]) (4, X2)] at hJ
  obtain ⟨kk, hkk, hk1, hk2, hk3⟩ := alive_scan
  have hS := cCrashS (s := (logB [(3, X1)]).length) (log := logB [(3, X1), (4, X2)]) hJ (by have := hk1; omega) (by omega) 9
  rw [hkk] at hS
  have HBb := hid (HBa.out.trans hB)
  have HKK := hid (And.intro hk1 (And.intro hk2 hk3))
  have HLb := hid hLb
  clear hJ hB l1 hLb hkk hk1 hk2 hk3 HJa HBa HQa HJ9 HB9 HC9
  go_wp2_with fail
  go_at_call 12
  refine hS.mono ?_
  rintro z wc ⟨rfl, ⟨vc, hdc, hvc⟩, hB⟩
  have HBc := hid (HBb.out.trans hB)
  have hO := cJOpen (rs := [(3, X1)]) hdc hvc (by rw [List.length_take]; have := HLb.out; omega) HKK.out.2.1 (by rw [List.length_take]; have := HKK.out; omega) (by simp) (by
    have := fine2.take 1
    exact this)
  clear hS hdc hvc hB HBb
  go_wp2_with fail
  go_at_call 7
  refine hO.mono ?_
  rintro z wd ⟨j', b', ys, rfl, hj, hm, -, hct, hat, hT, -, -⟩
  have HBd : Hid (Below w.heap.size w wd) := hid (HBc.out.trans (hT.below (fun k e => by omega) HBc.out.size))
  obtain ⟨y, rfl⟩ : ∃ y, ys = [y] := by
    rcases ys with _ | ⟨y, _ | ⟨z, ys⟩⟩
    · simp at hct
    · exact ⟨y, rfl⟩
    · simp at hct
  have hy : y.ct = X1.ct := by simpa using hct
  have hy0 : y.e.pr = 0 := congrArg (fun t : Ev × List C7 × List C7 × List C7 => t.1.pr) hy
  have hK := cKept hj hm (by simp) (by simp)
  rw [kept_one] at hK
  have HY0 := hid hy0
  clear hO hj hm hct hat hT hy hy0 HBc HKK HLb SM
  go_wp2_with fail
  go_at_call 13
  refine hK.mono ?_
  rintro z we ⟨vk, rfl, hS, hB⟩
  obtain ⟨bk, ok, ck, ak, rfl, hak, hrow, _⟩ := hS
  obtain rfl : ak = some ⟨bk, ok, none⟩ := hak (by simp)
  have k7 : we.cell? ⟨bk, ok + 7, none⟩ = some (.int .i64 0) := by
    have := hrow 0 y.e rfl 7 _ rfl
    rw [HY0.out] at this
    simpa using this
  have HBe := hid (HBd.out.trans (hB.mono HBd.out.size))
  have hl1 : ([y.e] : List Ev).length = 1 := rfl
  have hlc : lastC [(3, X1)] = 3 := rfl
  rw [hl1, hlc]
  clear hK hrow hak hB HBd HY0 hl1 hlc
  go_wp2_with fail
  go_ret
  exact ⟨rfl, HBe.out⟩
end Go.Proofs.YtpkkmfppdhjpkaaGreat
/- The document's records, built and put one behind the other. -/
namespace Go.Proofs.YtpkkmfppdhjpkaaGreat
set_option linter.unusedVariables false
open Go.RowKit
open Go.Lib (hid)

theorem fill_nil (place : Nat → Option (Nat × Nat)) (cells : Array Value) : Instr.fill place cells [] = some cells := by rw [Instr.fill]
theorem fill_cons {place : Nat → Option (Nat × Nat)} {cells : Array Value} {i off size : Nat} {v : Value} {rest : List (Nat × Value)} (hp : place i = some (off, size)) (h1 : v.cells.size = size) (h2 : off + v.cells.size ≤ cells.size) :
    Instr.fill place cells ((i, v) :: rest) = Instr.fill place (v.cells.zipIdx.foldl (fun cs (p : Value × Nat) => cs.setIfInBounds (off + p.2) p.1) cells) rest := by
  rw [Instr.fill, hp]
  simp only
  rw [if_neg (by simp [h1]; omega)]
theorem run_buildR (e : Ev) (i : Int) (w : World) : (Instr.build 54 #[(0, .int .i64 i), (1, .agg e.arr)]).run Tryz.prog w = .ok (.agg (#[.int .i64 i] ++ e.arr)) w := by
  have hm : Sem.run Tryz.prog (Array.mapM (fun f : Field => do let d ← sizeOf f.type; pure (f.offset, d)) #[{ name := "Clock", type := 3, offset := 0, embedded := false, tag := "", pkgPath := "", byteOffset := 0 }, { name := "E", type := 44, offset := 1, embedded := false, tag := "", pkgPath := "", byteOffset := 8 }]) w = .ok #[(0, 1), (1, 19)] w := by kernel_rfl
  unfold Instr.build
  simp only [Sem.run_bind, Tryz.zeroValue54 w, Result.andThen_ok, run_underlying Tryz.underlying54]
  rw [hm]
  simp only [Result.andThen_ok]
  have hf : Instr.fill (fun x => (#[(0, 1), (1, 19)] : Array (Nat × Nat))[x]?) (Value.agg (#[.int .i64 0] ++ zE.arr)).cells [(0, .int .i64 i), (1, .agg e.arr)] = some (#[.int .i64 i] ++ e.arr) := by
    have s1 : (Value.agg (#[.int .i64 0] ++ zE.arr)).cells.size = 20 := rfl
    rw [fill_cons (off := 0) (size := 1) rfl rfl (by rw [s1]; exact (by decide : 0 + 1 ≤ 20))]
    obtain ⟨A, hA⟩ : ∃ A, A = (Value.int .i64 i).cells.zipIdx.foldl (fun cs (p : Value × Nat) => cs.setIfInBounds (0 + p.2) p.1) (Value.agg (#[.int .i64 0] ++ zE.arr)).cells := ⟨_, rfl⟩
    have a1 : A.size = 20 := by rw [hA]; rfl
    have a2 : A[0]? = some (.int .i64 i) := by rw [hA]; rfl
    have a3 : (Value.agg e.arr).cells = e.arr := rfl
    rw [← hA, fill_cons (off := 1) (size := 19) rfl (by rw [a3, Ev.size]) (by rw [a3, Ev.size, a1]; decide), fill_nil, a3, fill_tail (.int .i64 i) e.arr A (by rw [a1, Ev.size]) a2]
  have hz : (Value.agg (#[Value.int .i64 0] ++ zE.arr)).cells = (Value.agg #[Value.int IntKind.i64 0, Value.int IntKind.i64 0, Value.int IntKind.i64 0, Value.int IntKind.i64 0, Value.int IntKind.i64 0, Value.int IntKind.i64 0, Value.int IntKind.i64 0, Value.int IntKind.i64 0, Value.int IntKind.i64 0, Value.int IntKind.i64 0, Value.int IntKind.i64 0, Value.int IntKind.i64 0, Value.slice none 0 0, Value.int IntKind.i64 0, Value.int IntKind.i64 0, Value.slice none 0 0, Value.bool false, Value.bool false, Value.int IntKind.i64 0, Value.slice none 0 0]).cells := rfl
  rw [hz] at hf
  rw [hf]
  rfl
theorem wpList_buildR {ops : Array Oper} {rest : List Oper} {op : Oper} {a : Act} {w : World} {Q : Exit → Act → World → Prop} {x y : Operand} {i : Int} (e : Ev) (hgd : op.guard = none) (ho : op.op = .build 54 #[(0, x), (1, y)]) (hx : a.eval x = .int .i64 i) (hy : a.eval y = .agg e.arr)
    (h : wpList Tryz.prog ops Q rest (a.put op.dst (.agg (#[.int .i64 i] ++ e.arr))) w) : wpList Tryz.prog ops Q (op :: rest) a w := by
  refine wpList_plain hgd fun _ hK' => ?_
  unfold Oper.wp execOp
  simp only [ho, List.map_toArray, List.map_cons, List.map_nil, hx, hy, Sem.run_bind, run_buildR e i w, Result.andThen_ok]
  exact hK' _ _ h
abbrev OwnRec (w : World) (B : Nat) (v : Value) (rs : List (Int × Ev)) : Prop := OwnG recL 20 54 w B v rs
theorem recA (r : Int × Ev) : (#[.int .i64 r.1] ++ r.2.arr : Array Value).toList = recL r := by rw [Array.toList_append, Ev.toList]; rfl
theorem oneR (r : Int × Ev) : ∀ u ∈ recL r, u.oneCell' = true := fun u hu => by
  rcases List.mem_cons.1 hu with rfl | hu
  · rfl
  · exact oneE r.2 u hu
theorem wpList_bsRec {ops : Array Oper} {rest : List Oper} {op : Oper} {a : Act} {w : World} {Q : Exit → Act → World → Prop} {x : Operand} (r : Int × Ev) (hgd : op.guard = none) (ho : op.op = .buildSlice 52 1 #[(0, x)]) (hx : a.eval x = .agg (#[.int .i64 r.1] ++ r.2.arr))
    (h : ∀ W, W.heap[w.heap.size]? = some (.cells (#[.int .i64 r.1] ++ r.2.arr) 54 (0, 0)) → Below w.heap.size w W → wpList Tryz.prog ops Q rest (a.put op.dst (.slice (some ⟨w.heap.size, 0, none⟩) 1 1)) W) : wpList Tryz.prog ops Q (op :: rest) a w :=
  wpList_bs1 (K := 20) _ hgd ho hx Tryz.underlying52 Tryz.sizeOf54 Tryz.zeroValue54 (by simp [Ev.size]) (by decide) (by decide) fun W h1 h2 _ => h W h1 h2
theorem Tryz.infoRec : (Tryz.prog.info? 54).map (fun i => (i.zero, i.size, i.bytes)) = some (some (.agg #[.int .i64 0, .int .i64 0, .int .i64 0, .int .i64 0, .int .i64 0, .int .i64 0, .int .i64 0, .int .i64 0, .int .i64 0, .int .i64 0, .int .i64 0, .int .i64 0, .slice none 0 0, .int .i64 0, .int .i64 0, .slice none 0 0, .bool false, .bool false, .int .i64 0, .slice none 0 0]), 20, 200) := by kernel_rfl
theorem wpList_apRec {ops : Array Oper} {rest : List Oper} {op : Oper} {a : Act} {w : World} {Q : Exit → Act → World → Prop} {s x : Operand} {v : Value} {rs : List (Int × Ev)} {B q : Nat} (r : Int × Ev) (hgd : op.guard = none) (ho : op.op = .call { callee := .builtin .append, args := #[s, x], argTypes := #[52, 52] }) (hs : a.eval s = v) (hx : a.eval x = .slice (some ⟨q, 0, none⟩) 1 1)
    (hown : OwnRec w B v rs) (hq : w.heap[q]? = some (.cells (#[.int .i64 r.1] ++ r.2.arr) 54 (0, 0))) (hl : rs.length ≤ 100000) (hB : B ≤ w.heap.size) (h : ∀ v' W, OwnRec W B v' (rs ++ [r]) → w.grownBy W v.ownBlock → wpList Tryz.prog ops Q rest (a.put op.dst v') W) : wpList Tryz.prog ops Q (op :: rest) a w := by
  obtain ⟨i0, hi, hz0, hz1, hz2⟩ := info_parts Tryz.infoRec
  refine wpList_append_own w hgd s x 52 ho B 54 i0 _ 20 200 Tryz.underlying52 hi hz0 hz1 hz2 rfl (by decide) v rs.length _ hs hown ⟨q, 0, none⟩ 1 1 (recL r) hx (kR r) ?_ (oneR r) (by unfold maxLen; omega) (by omega) hB ?_
  · intro j u hu
    rw [addr_add, cellAt' hq, ← Array.getElem?_toList, recA r]; exact hu
  intro v' W hown' hg _
  refine h v' W ?_ hg
  unfold OwnRec OwnG
  rw [flatG_append, flatG_one, List.length_append, List.length_singleton]
  exact hown'
end Go.Proofs.YtpkkmfppdhjpkaaGreat

import Derived.Test.YtmggggijamligaaG03
import Derived.Test.YtmggggijamligaaG05
import Derived.Deep.LoopGhost
namespace Go.Proofs.Ytmggggijamligaa
set_option linter.unusedVariables false
open Go.RowKit
open Go.Lib (hid)
structure It where
  s : Nat
  t : Nat
def It.list (x : It) : List Value := [.int .u8 (x.s : Int), .int .u16 (x.t : Int)]
theorem It.len (x : It) : x.list.length = 2 := rfl
abbrev SlIt (w : World) (v : Value) (its : List It) : Prop := SlG It.list 2 w v its
def It.ok (x : It) : Prop := x.s < 256 ∧ x.t < 65536
def symT (its : List It) (i : Nat) : Int := ((its[i]?.getD ⟨0, 0⟩).s : Int) % 4
def timT (its : List It) (i : Nat) : Nat := (its[i]?.getD ⟨0, 0⟩).t
theorem symT_at {its : List It} {i : Nat} {x : It} (h : its[i]? = some x) : symT its i = (x.s : Int) % 4 := by unfold symT; rw [h]; rfl
theorem timT_at {its : List It} {i : Nat} {x : It} (h : its[i]? = some x) : timT its i = x.t := by unfold timT; rw [h]; rfl
def cmdsT (its : List It) (k : Nat) : List C7 := (List.range k).map (cmdT (symT its))
theorem cmdsT_next (its : List It) (k : Nat) : cmdsT its (k + 1) = cmdsT its k ++ [cmdT (symT its) k] := by
  unfold cmdsT; rw [List.range_succ, List.map_append]; rfl
theorem cmdsT_at {its : List It} {n k : Nat} (h : k < n) : (cmdsT its n)[k]? = some (cmdT (symT its) k) := by
  unfold cmdsT; rw [List.getElem?_map, List.getElem?_range h]; rfl
theorem cmdsT_len (its : List It) (k : Nat) : (cmdsT its k).length = k := by unfold cmdsT; simp
structure PredT (n : Nat) (S : Nat → Int) (T : Nat → Nat) (i k : Nat) (ps : List C7) : Prop where
  len : ps.length ≤ k
  sub : ∀ c ∈ ps, ∃ j, j < n ∧ j ≠ i ∧ S j = S i ∧ c = cmdT S j
  has : ∀ j, j < k → j ≠ i → S j = S i → T j < T i → cmdT S j ∈ ps
theorem PredT.none (n : Nat) (S : Nat → Int) (T : Nat → Nat) (i : Nat) : PredT n S T i 0 [] := ⟨Nat.le_refl _, fun c h => by simp at h, fun j h => absurd h (by omega)⟩
theorem PredT.keep {n : Nat} {S : Nat → Int} {T : Nat → Nat} {i k : Nat} {ps : List C7} (h : PredT n S T i k ps) (hk : k ≠ i → S k = S i → ¬ T k < T i) : PredT n S T i (k + 1) ps :=
  ⟨Nat.le_succ_of_le h.len, h.sub, fun j hj hne hs ht => by
    by_cases e : j = k
    · subst e; exact absurd ht (hk hne hs)
    · exact h.has j (by omega) hne hs ht⟩
theorem PredT.take {n : Nat} {S : Nat → Int} {T : Nat → Nat} {i k : Nat} {ps : List C7} (h : PredT n S T i k ps) (hkn : k < n) (hne : k ≠ i) (hs : S k = S i) : PredT n S T i (k + 1) (ps ++ [cmdT S k]) :=
  ⟨by have := h.len; rw [List.length_append, List.length_singleton]; omega, fun c hc => by
    rcases List.mem_append.1 hc with hc | hc
    · exact h.sub c hc
    · rw [List.mem_singleton] at hc; exact ⟨k, hkn, hne, hs, hc⟩, fun j hj hne' hs' ht => by
    by_cases e : j = k
    · subst e; exact List.mem_append_right _ (List.mem_singleton.2 rfl)
    · exact List.mem_append_left _ (h.has j (by omega) hne' hs' ht)⟩
structure KeepT (w : World) (B : Nat) (x : En) : Prop where
  v : Own w B x.e.vp.v x.v
  f : x.f = [] ∧ x.e.fp = ⟨none, 0, 0⟩
  a : x.a = [] ∧ x.e.xp = ⟨none, 0, 0⟩
theorem KeepT.at {w : World} {B : Nat} {x : En} (h : KeepT w B x) : x.at w := ⟨by rw [h.f.1, h.f.2]; exact (Own.nil w 0).sl, by rw [h.a.1, h.a.2]; exact (Own.nil w 0).sl, h.v.sl⟩
theorem KeepT.on {w w' : World} {B : Nat} {x : En} (h : KeepT w B x) (hb : Below w.heap.size w w') : KeepT w' B x := ⟨h.v.onB hb, h.f, h.a⟩
theorem Own.keepE {w w' : World} {B B' : Nat} {v u : Value} {es : List Ev} {cs : List C7} (h : Own w B v cs) (hc : OwnE w B' u es) (hg : w.grownBy w' u.ownBlock) : Own w' B v cs := by
  refine ⟨h.1, ?_⟩
  rcases h.2 with h2 | ⟨g, cap, cur, rfl, h1, hgg, r⟩
  · exact .inl h2
  · refine .inr ⟨g, cap, cur, rfl, h1, ?_, r⟩
    rw [hg.block g (Array.getElem?_eq_some_iff.1 hgg).1 fun e => ?_]
    · exact hgg
    · rcases hc.2 with ⟨rfl, _⟩ | ⟨g', cap', cur', rfl, _, hg', _⟩
      · cases e
      · cases e
        rw [hgg] at hg'
        injection hg' with hg'
        injection hg' with _ e2
        exact absurd e2 (by decide)
theorem KeepT.keepE {w w' : World} {B B' : Nat} {x : En} {u : Value} {es : List Ev} (h : KeepT w B x) (hc : OwnE w B' u es) (hg : w.grownBy w' u.ownBlock) : KeepT w' B x := ⟨h.v.keepE hc hg, h.f, h.a⟩
theorem cmd_row {W : World} {b p : Nat} {c : C7} (h : ∀ (j : Nat) (u : Value), c.cells[j]? = some u → W.cell? ⟨b, p + j, none⟩ = some u) : CmdR W b p c := ⟨h 0 _ rfl, h 1 _ rfl, h 2 _ rfl, h 3 _ rfl, h 4 _ rfl, h 5 _ rfl, h 6 _ rfl⟩
structure PartT (n : Nat) (S : Nat → Int) (T : Nat → Nat) (i : Nat) (l : List En) : Prop where
  len : l.length = i
  ok : ∀ (j : Nat) (x : En), l[j]? = some x → OkT n S T j x ∧ x.short 100
theorem PartT.none (n : Nat) (S : Nat → Int) (T : Nat → Nat) : PartT n S T 0 [] := ⟨rfl, fun j x h => by simp at h⟩
theorem PartT.next {n : Nat} {S : Nat → Int} {T : Nat → Nat} {i : Nat} {l : List En} {y : En} (h : PartT n S T i l) (hy : OkT n S T i y) (hs : y.short 100) : PartT n S T (i + 1) (l ++ [y]) :=
  ⟨by rw [List.length_append, h.len]; rfl, fun j x hx => by
    rcases Nat.lt_or_ge j l.length with hj | hj
    · rw [List.getElem?_append_left hj] at hx; exact h.ok j x hx
    · rw [List.getElem?_append_right hj] at hx
      have hj0 : j - l.length = 0 := by have := (List.getElem?_eq_some_iff.1 hx).1; simp at this; omega
      rw [hj0] at hx
      obtain rfl := Option.some.inj hx
      have := h.len
      obtain rfl : j = i := by omega
      exact ⟨hy, hs⟩⟩
theorem PartT.good {n : Nat} {S : Nat → Int} {T : Nat → Nat} {l : List En} (h : PartT n S T n l) : GoodT n S T l (List.range n) :=
  ⟨by rw [h.len, List.length_range], fun j x i hx hi => by
    have hj := (List.getElem?_eq_some_iff.1 hi).1
    rw [List.length_range] at hj
    rw [List.getElem?_range hj] at hi
    obtain rfl := Option.some.inj hi
    exact (h.ok _ x hx).1, List.nodup_range, fun i hi => List.mem_range.1 hi⟩
def entT (c : C7) (t : Int) (p : Sv) : Ev := ⟨c, 0, 0, 0, 0, ⟨none, 0, 0⟩, 0, 0, ⟨none, 0, 0⟩, false, true, t, p⟩
set_option maxRecDepth 100000 in
theorem run_buildE (c : C7) (t : Int) (a : Option Addr) (n cp : Nat) (w : World) : (Instr.build 55 #[(0, .agg #[.int .i64 c.i, .int .i64 c.k, .int .i64 c.s, .int .i64 c.t, .int .i64 c.d, .int .i64 c.p, .int .i64 c.q]), (8, .bool true), (9, .agg #[.int .i64 t, .slice a n cp])]).run Try.prog w = .ok (.agg (entT c t ⟨a, n, cp⟩).arr) w := by kernel_rfl
theorem exec_buildE {a : Act} {o : Oper} {x z : Operand} (c : C7) (t : Int) (ad : Option Addr) (n cp : Nat) (w : World) (ho : o.op = .build 55 #[(0, x), (8, .const (.bool true)), (9, z)]) (hx : a.eval x = .agg #[.int .i64 c.i, .int .i64 c.k, .int .i64 c.s, .int .i64 c.t, .int .i64 c.d, .int .i64 c.p, .int .i64 c.q]) (hz : a.eval z = .agg #[.int .i64 t, .slice ad n cp]) :
    (execOp a.eval o).run Try.prog w = .ok (.value (.agg (entT c t ⟨ad, n, cp⟩).arr)) w := by
  unfold execOp
  have hb := run_buildE c t ad n cp w
  have hy : a.eval (.const (.bool true)) = .bool true := rfl
  simp only [ho, List.map_toArray, List.map_cons, List.map_nil, hx, hy, hz, Sem.run_bind]
  rw [hb]
  simp only [Result.andThen_ok]
  rfl
theorem wp_bs1 {op : Oper} {a : Act} {w : World} {K : Act → World → Prop} {Q : Exit → Act → World → Prop} {x : Operand} {t T : TypeId} {z : Value} {k : Nat} (cs : Array Value) (ho : op.op = .buildSlice t 1 #[(0, x)]) (hx : a.eval x = .agg cs)
    (ht : Try.prog.underlying t = some (.slice T)) (hs : ∀ w, (sizeOf T).run Try.prog w = .ok k w) (hz : ∀ w, (zeroValue T).run Try.prog w = .ok z w) (hK : cs.size = k) (h0 : k ≠ 0) (h1 : k ≤ 100)
    (h : K (a.put op.dst (.slice (some ⟨w.heap.size, 0, none⟩) 1 1)) (w.alloc (.cells cs T))) : op.wp Try.prog a w K Q := by
  unfold Oper.wp execOp
  simp only [ho, List.map_toArray, List.map_cons, List.map_nil, hx, Sem.run_bind, run_bs1 ht hs hz hK h0 h1 w, Result.andThen_ok]
  exact h
theorem own_range {W : World} {B b o n cap i : Nat} {cs : List C7} {c : C7} (h : Own W B (.slice (some ⟨b, o, none⟩) n cap) cs) (hc : cs[i]? = some c) : W.rangeAt b (o + i * 7) c.cells := by
  have hi := (List.getElem?_eq_some_iff.1 hc).1
  obtain ⟨b2, o2, cap2, a2, e2, _, ha2, hc2, _⟩ := h.sl
  injection e2 with e3 e4 e5
  have := ha2 (by omega)
  rw [← e3] at this
  cases this
  exact fun j u hu => by rw [Nat.add_assoc]; exact hc2 i c hc j u hu
theorem ent_ok {n : Nat} {S : Nat → Int} {T : Nat → Nat} {i : Nat} {ps : List C7} {c : C7} {vt : Int} {p : Sv} (hc : c = cmdT S i) (hv : vt = 16 * ((T i : Int) + 1) + ((i % 9 : Nat) : Int)) (hp : PredT n S T i n ps) : OkT n S T i ⟨entT c vt p, [], [], ps⟩ :=
  ⟨hc, rfl, hv, hp.sub, fun k hk hne hs ht => hp.has k hk hne hs ht⟩
def EntP (its : List It) (w : World) (e : Ending) (w' : World) : Prop := ∃ r l, e = .returned r ∧ OwnE w' w.heap.size r (evs l) ∧ (∀ x ∈ l, KeepT w' w.heap.size x) ∧ PartT its.length (symT its) (timT its) its.length l ∧ Below w.heap.size w w'
set_option maxHeartbeats 4000000 in
set_option maxRecDepth 100000 in
theorem cEntries {v : Value} {its : List It} {w : World} (h : SlIt w v its) (hI : ∀ x ∈ its, x.ok) (hl : its.length ≤ 30) (more : Nat) (hm : more < 18446744073709551616) : Calls Try.prog 16 #[v, .int .u64 (more : Int)] w (EntP its w) := by
  obtain ⟨b, o, cap, a, rfl, ha, hc, hb⟩ := h
  have HCC := hid hc
  have HI := hid hI
  obtain ⟨n, hn⟩ : ∃ n, n = its.length := ⟨_, rfl⟩
  rw [← hn] at ha hb hl ⊢
  have HN := hid hn
  obtain ⟨i0, hi, hz0, hz1, hz2⟩ := info_parts Try.infoC
  have HIC := hid (And.intro hi (And.intro hz0 (And.intro hz1 hz2)))
  clear hn hI hc hi hz0 hz1 hz2
  go_enter Try.func16, Try.ntmps16
  go_wp2_with fail
  go_loopw [6, 7] (fun s6 s7 wr => ∃ (k : Nat), k ≤ n ∧ s7 = .int .i64 k ∧ Hid (Own wr w.heap.size s6 (cmdsT its k)) ∧ Hid (Below w.heap.size w wr)) (fun _ s7 _ => n - (RowKit.intOf s7).toNat)
  case atStart => exact ⟨0, Nat.zero_le _, rfl, hid (Own.nil _ _), hid (Below.refl _ _)⟩
  case round =>
    obtain ⟨k, hk, rfl, HO, HB⟩ := hrel
    obtain ⟨g6, n6, c6, rfl, -⟩ := HO.out.asS
    by_cases hlt : k < n
    · have hlti : ((k : Int) < n) := by omega
      obtain rfl := ha (by omega)
      have hbw := hb (by omega)
      obtain ⟨x, hx⟩ : ∃ x, its[k]? = some x := ⟨its[k]'(by rw [← HN.out]; exact hlt), List.getElem?_eq_getElem (by rw [← HN.out]; exact hlt)⟩
      obtain ⟨xs, hxs⟩ : ∃ z, z = x.s := ⟨_, rfl⟩
      have d0 : wr.cell? ⟨b, o + k * 2, none⟩ = some (.int .u8 (xs : Int)) := (HB.out.cell hbw).trans (by rw [hxs]; exact HCC.out k x hx 0 _ rfl)
      have hsl : xs < 256 := by rw [hxs]; exact (HI.out x (List.mem_of_getElem? hx)).1
      obtain ⟨c, hcd⟩ : ∃ c : C7, c = ⟨16 * ((k : Int) + 1), 1, (xs : Int) % 4, 16, 0, 0, 0⟩ := ⟨_, rfl⟩
      have HCD : Hid (cmdT (symT its) k = c) := hid (by unfold cmdT; rw [symT_at hx, ← hxs, hcd])
      have HOL : Hid ((cmdsT its k).length ≤ 1000) := hid (by rw [cmdsT_len]; omega)
      have HCE := hid hcd
      have tk2 : Hid (1 = 1) := hid rfl
      clear hx hxs hcd
      go_wp2_with (first
        | (clear tk2; at_builtin; refine wpList_append_own _ rfl _ _ 35 rfl w.heap.size 31 i0 _ 7 56 Try.underlying35 HIC.out.1 HIC.out.2.1 HIC.out.2.2.1 HIC.out.2.2.2 rfl (by decide) _ _ _ rfl (HO.out.alloc _) ⟨wr.heap.size, 0, none⟩ 1 1 c.cells rfl rfl (by rw [HCE.out]; exact new_cell (c := ⟨16 * ((k : Int) + 1), 1, (xs : Int) % 4, 16, 0, 0, 0⟩) rfl) (cells_one c) (by have := HOL.out; unfold maxLen; omega) (by have := HOL.out; omega) (by have := HB.out.size; simp; omega) ?_; intro v' w1' hown' hgrow _; have R := Own.grows (HB.out.alloc HB.out.size _) (by have := HB.out.size; simp; omega) (fun k hk => (HO.out.lt k hk).1) hown' hgrow; have HO3 := hid R.1; have HB3 := hid R.2; clear hown' hgrow R)
        | fail)
      go_roundw
      case rel => exact ⟨k + 1, by omega, by go_num, hid (by rw [cmdsT_next, HCD.out]; exact HO3.out), HB3⟩
      case measure => first | omega | (simp [RowKit.intOf]; omega)
    · have hlti : ¬ ((k : Int) < n) := by omega
      obtain rfl : n = k := by omega
      have HO6 := HO
      have HB6 := HB
      rename World => w6
      clear HO hlt hlti hk
      go_wp2_with fail
      go_loopg [5, 8] n (fun gg s5 s8 wr => ∃ (i : Nat) (l : List En), i ≤ n ∧ gg = n - i ∧ s8 = .int .i64 i ∧ Hid (OwnE wr w.heap.size s5 (evs l)) ∧ Hid (Own wr w.heap.size (.slice g6 n6 c6) (cmdsT its n)) ∧ Hid (∀ x ∈ l, KeepT wr w.heap.size x) ∧ Hid (PartT n (symT its) (timT its) i l) ∧ Hid (Below w.heap.size w wr))
      case atStart => exact ⟨0, [], Nat.zero_le _, rfl, rfl, hid (OwnG.nil _ _ _ _ _), HO6, hid (fun x hx => by simp at hx), hid (PartT.none _ _ _), HB6⟩
      case round =>
        clear HO6 HB6
        obtain ⟨i, l, hi, rfl, rfl, HE, HC6, HK, HP, HBI⟩ := hrel
        obtain ⟨g5, n5, c5, rfl, -⟩ := HE.out.asSlice
        by_cases hit : i < n
        · have hiti : ((i : Int) < n) := by omega
          obtain rfl := ha (by omega)
          have hbw := hb (by omega)
          obtain ⟨y, hy⟩ : ∃ x, its[i]? = some x := ⟨its[i]'(by rw [← HN.out]; exact hit), List.getElem?_eq_getElem (by rw [← HN.out]; exact hit)⟩
          obtain ⟨yt, hyt⟩ : ∃ z, z = y.t := ⟨_, rfl⟩
          have HYT : Hid (timT its i = yt) := hid (by rw [timT_at hy, hyt])
          have HY1 : Hid (∀ W, Below w.heap.size w W → W.cell? ⟨b, o + i * 2 + 1, none⟩ = some (.int .u16 (yt : Int))) := hid (fun W hW => (hW.cell hbw).trans (by rw [hyt]; exact HCC.out i y hy 1 _ rfl))
          have hyl : yt < 65536 := by rw [hyt]; exact (HI.out y (List.mem_of_getElem? hy)).2
          obtain ⟨b6, o6, cap6, a6, e6, _, ha6, hc6, hb6⟩ := HC6.out.sl
          rw [cmdsT_len] at e6 ha6 hb6
          injection e6 with e7 e8 e9
          have ha7 := ha6 (by omega)
          obtain rfl := e7.trans ha7
          obtain rfl : n = n6 := e8.symm
          have hb6w := hb6 (by omega)
          obtain ⟨si, hsi⟩ : ∃ z, z = symT its i := ⟨_, rfl⟩
          have HSI := hid hsi
          have HCI : Hid (∀ W, Below wr.heap.size wr W → W.rangeAt b6 (o6 + i * 7) (cmdT (symT its) i).cells) := hid (fun W hW j u hu => (hW.cell hb6w).trans (by rw [Nat.add_assoc]; exact hc6 i _ (cmdsT_at hit) j u hu))
          have HC6C := hid hc6
          rename World => wi
          clear hy hyt e7 e9 ha7 ha6 hb6 hc6 hsi
          go_wp2_with fail
          go_loopw [9, 10] (fun s9 s10 wq => ∃ (k : Nat) (ps : List C7), k ≤ n ∧ s10 = .int .i64 k ∧ Hid (Own wq wi.heap.size s9 ps) ∧ Hid (PredT n (symT its) (timT its) i k ps) ∧ Hid (Below wi.heap.size wi wq)) (fun _ s10 _ => n - (RowKit.intOf s10).toNat)
          case atStart => exact ⟨0, [], Nat.zero_le _, rfl, hid (Own.nil _ _), hid (PredT.none _ _ _ _), hid (Below.refl _ _)⟩
          case round =>
            obtain ⟨k, ps, hk, rfl, HPO, HPT, HBQ⟩ := hrel
            have HBW := hid (HBI.out.trans (HBQ.out.mono HBI.out.size))
            obtain ⟨g9, n9, c9, rfl, -⟩ := HPO.out.asS
            by_cases hkt : k < n
            · have hkti : ((k : Int) < n) := by omega
              obtain ⟨x, hx⟩ : ∃ x, its[k]? = some x := ⟨its[k]'(by rw [← HN.out]; exact hkt), List.getElem?_eq_getElem (by rw [← HN.out]; exact hkt)⟩
              obtain ⟨xt, hxt⟩ : ∃ z, z = x.t := ⟨_, rfl⟩
              have HXT : Hid (timT its k = xt) := hid (by rw [timT_at hx, hxt])
              have d1 : wr.cell? ⟨b, o + k * 2 + 1, none⟩ = some (.int .u16 (xt : Int)) := (HBW.out.cell hbw).trans (by rw [hxt]; exact HCC.out k x hx 1 _ rfl)
              have e1 : wr.cell? ⟨b, o + i * 2 + 1, none⟩ = some (.int .u16 (yt : Int)) := HY1.out wr HBW.out
              obtain ⟨sk, hsk⟩ : ∃ z, z = symT its k := ⟨_, rfl⟩
              have d2 : wr.cell? ⟨b6, o6 + k * 7 + 2, none⟩ = some (.int .i64 sk) := (HBQ.out.cell hb6w).trans (by rw [hsk, Nat.add_assoc]; exact HC6C.out k _ (cmdsT_at hkt) 2 _ rfl)
              have e2 : wr.cell? ⟨b6, o6 + i * 7 + 2, none⟩ = some (.int .i64 si) := by rw [HSI.out]; exact HCI.out wr HBQ.out 2 _ rfl
              have HSK := hid hsk
              clear hx hxt hsk
              by_cases hah : xt < yt
              · have hq : decide ((xt : Int) < yt) = true := decide_eq_true (by omega)
                go_wp2_with fail
                go_quiet (fail)
                have HBD : Hid (Below wr.heap.size wr (wr.drewN nq)) := hid (Below.drewN' (Below.refl _ _) _)
                generalize wr.drewN nq = wz at HBD ⊢
                have f1 := (HBD.out.cell (Nat.lt_of_lt_of_le hb6w HBQ.out.size)).trans d2
                have f2 := (HBD.out.cell (Nat.lt_of_lt_of_le hb6w HBQ.out.size)).trans e2
                clear d1 e1 d2 e2 hq
                go_wp2_with fail
                by_cases hki : k = i
                · have hk1 : ((k : Int) == (i : Int)) = true := by simp [hki]
                  have hk2 : decide ((k : Int) = (i : Int)) = true := decide_eq_true (by omega)
                  have hk4 : ((k : Int) != (i : Int)) = false := by simp [bne, hk1]
                  have hk5 : decide (¬ (k : Int) = (i : Int)) = false := by simp [hki]
                  have hk6 : decide (k = i) = true := decide_eq_true hki
                  have HKP : Hid (k ≠ i → symT its k = symT its i → ¬ timT its k < timT its i) := hid (fun h => absurd hki h)
                  clear hki
                  go_quiet (fail)
                  go_wp2_with fail
                  go_roundw
                  case rel => exact ⟨k + 1, ps, by omega, by go_num, hid ((HPO.out.onB HBD.out).onB (Below.drewN' (Below.refl _ _) _)), hid (HPT.out.keep HKP.out), hid (Below.drewN' (HBQ.out.trans (HBD.out.mono HBQ.out.size)) _)⟩
                  case measure => first | omega | (simp [RowKit.intOf]; omega)
                have hk3 : ¬ ((k : Int) = (i : Int)) := by omega
                have hk1 : ((k : Int) == (i : Int)) = false := by simpa using hk3
                have hk2 : decide ((k : Int) = (i : Int)) = false := decide_eq_false hk3
                have hk4 : ((k : Int) != (i : Int)) = true := by simp [bne, hk1]
                have hk5 : decide (¬ (k : Int) = (i : Int)) = true := decide_eq_true hk3
                have hk6 : decide (k = i) = false := decide_eq_false hki
                have HKI := hid hki
                clear hki hk3
                by_cases hss : sk = si
                · have HSE := hid hss
                  have hs1 : (sk == si) = true := by simpa using hss
                  have hs2 : decide (sk = si) = true := decide_eq_true hss
                  clear hss
                  go_quiet (fail)
                  have HBY : Hid (Below wz.heap.size wz (wz.drewN nq)) := hid (Below.drewN' (Below.refl _ _) _)
                  generalize wz.drewN nq = wy at HBY ⊢
                  clear f1 f2
                  have HBV : Hid (Below wi.heap.size wi wy) := hid (HBQ.out.trans ((HBD.out.trans (HBY.out.mono HBD.out.size)).mono HBQ.out.size))
                  have HPY : Hid (Own wy wi.heap.size (.slice g9 n9 c9) ps) := hid ((HPO.out.onB HBD.out).onB HBY.out)
                  obtain ⟨c, hcd⟩ : ∃ c : C7, c = ⟨16 * ((k : Int) + 1), 1, sk, 16, 0, 0, 0⟩ := ⟨_, rfl⟩
                  have HCD : Hid (cmdT (symT its) k = c) := hid (by unfold cmdT; rw [← HSK.out, hcd])
                  obtain ⟨m0, m1, m2, m3, m4, m5, m6⟩ : CmdR wy b6 (o6 + k * 7) c := by rw [← HCD.out]; exact cmd_row (fun j u hu => (HBV.out.cell hb6w).trans (by rw [Nat.add_assoc]; exact HC6C.out k _ (cmdsT_at hkt) j u hu))
                  have HOL : Hid (ps.length ≤ 1000) := hid (by have := HPT.out.len; omega)
                  have tk2 : Hid (1 = 1) := hid rfl
                  clear hcd
                  go_wp2_with (first
                    | (clear tk2; at_builtin; refine wpList_append_own _ rfl _ _ 35 rfl wi.heap.size 31 i0 _ 7 56 Try.underlying35 HIC.out.1 HIC.out.2.1 HIC.out.2.2.1 HIC.out.2.2.2 rfl (by decide) _ _ _ rfl (HPY.out.alloc _) ⟨wy.heap.size, 0, none⟩ 1 1 c.cells rfl rfl (new_cell rfl) (cells_one c) (by have := HOL.out; unfold maxLen; omega) (by have := HOL.out; omega) (by have := HBV.out.size; simp; omega) ?_; intro v' w1' hown' hgrow _; have R := Own.grows (HBV.out.alloc HBV.out.size _) (by have := HBV.out.size; simp; omega) (fun k hk => (HPY.out.lt k hk).1) hown' hgrow; have HO3 := hid R.1; have HB3 := hid R.2; clear hown' hgrow R)
                    | fail)
                  go_roundw
                  case rel => exact ⟨k + 1, ps ++ [c], by omega, by go_num, HO3, hid (by have := HPT.out.take hkt HKI.out (HSK.out.symm.trans (HSE.out.trans HSI.out)); rw [HCD.out] at this; exact this), HB3⟩
                  case measure => first | omega | (simp [RowKit.intOf]; omega)
                · have hs1 : (sk == si) = false := by simpa using hss
                  have hs2 : decide (sk = si) = false := decide_eq_false hss
                  have HKP : Hid (k ≠ i → symT its k = symT its i → ¬ timT its k < timT its i) := hid (fun _ h => absurd (HSK.out.trans (h.trans HSI.out.symm)) hss)
                  clear hss
                  go_quiet (fail)
                  go_wp2_with fail
                  go_roundw
                  case rel => exact ⟨k + 1, ps, by omega, by go_num, hid ((HPO.out.onB HBD.out).onB (Below.drewN' (Below.refl _ _) _)), hid (HPT.out.keep HKP.out), hid (Below.drewN' (HBQ.out.trans (HBD.out.mono HBQ.out.size)) _)⟩
                  case measure => first | omega | (simp [RowKit.intOf]; omega)
              · have hq : decide ((xt : Int) < yt) = false := decide_eq_false (by omega)
                go_wp2_with fail
                go_quiet (fail)
                have HBD : Hid (Below wr.heap.size wr (wr.drewN nq)) := hid (Below.drewN' (Below.refl _ _) _)
                generalize wr.drewN nq = wz at HBD ⊢
                have f1 := (HBD.out.cell (Nat.lt_of_lt_of_le hb6w HBQ.out.size)).trans d2
                have f2 := (HBD.out.cell (Nat.lt_of_lt_of_le hb6w HBQ.out.size)).trans e2
                clear d1 e1 d2 e2 hq
                go_wp2_with fail
                by_cases hki : k = i
                · have hk1 : ((k : Int) == (i : Int)) = true := by simp [hki]
                  have hk2 : decide ((k : Int) = (i : Int)) = true := decide_eq_true (by omega)
                  have hk4 : ((k : Int) != (i : Int)) = false := by simp [bne, hk1]
                  have hk5 : decide (¬ (k : Int) = (i : Int)) = false := by simp [hki]
                  have hk6 : decide (k = i) = true := decide_eq_true hki
                  have HKP : Hid (k ≠ i → symT its k = symT its i → ¬ timT its k < timT its i) := hid (fun h => absurd hki h)
                  clear hki
                  go_quiet (fail)
                  go_wp2_with fail
                  go_roundw
                  case rel => exact ⟨k + 1, ps, by omega, by go_num, hid ((HPO.out.onB HBD.out).onB (Below.drewN' (Below.refl _ _) _)), hid (HPT.out.keep HKP.out), hid (Below.drewN' (HBQ.out.trans (HBD.out.mono HBQ.out.size)) _)⟩
                  case measure => first | omega | (simp [RowKit.intOf]; omega)
                have hk3 : ¬ ((k : Int) = (i : Int)) := by omega
                have hk1 : ((k : Int) == (i : Int)) = false := by simpa using hk3
                have hk2 : decide ((k : Int) = (i : Int)) = false := decide_eq_false hk3
                have hk4 : ((k : Int) != (i : Int)) = true := by simp [bne, hk1]
                have hk5 : decide (¬ (k : Int) = (i : Int)) = true := decide_eq_true hk3
                have hk6 : decide (k = i) = false := decide_eq_false hki
                have HKI := hid hki
                clear hki hk3
                by_cases hss : sk = si
                · have HSE := hid hss
                  have hs1 : (sk == si) = true := by simpa using hss
                  have hs2 : decide (sk = si) = true := decide_eq_true hss
                  clear hss
                  have HKP : Hid (k ≠ i → symT its k = symT its i → ¬ timT its k < timT its i) := hid (fun _ _ => by rw [HXT.out, HYT.out]; exact hah)
                  go_quiet (fail)
                  go_upto_region 16 with fail
                  · have HBY : Hid (Below wz.heap.size wz (wz.drewN nq)) := hid (Below.drewN' (Below.refl _ _) _)
                    generalize wz.drewN nq = wy at HBY ⊢
                    clear f1 f2
                    have HBV : Hid (Below wi.heap.size wi wy) := hid (HBQ.out.trans ((HBD.out.trans (HBY.out.mono HBD.out.size)).mono HBQ.out.size))
                    have HPY : Hid (Own wy wi.heap.size (.slice g9 n9 c9) ps) := hid ((HPO.out.onB HBD.out).onB HBY.out)
                    obtain ⟨c, hcd⟩ : ∃ c : C7, c = ⟨16 * ((k : Int) + 1), 1, sk, 16, 0, 0, 0⟩ := ⟨_, rfl⟩
                    have HCD : Hid (cmdT (symT its) k = c) := hid (by unfold cmdT; rw [← HSK.out, hcd])
                    obtain ⟨m0, m1, m2, m3, m4, m5, m6⟩ : CmdR wy b6 (o6 + k * 7) c := by rw [← HCD.out]; exact cmd_row (fun j u hu => (HBV.out.cell hb6w).trans (by rw [Nat.add_assoc]; exact HC6C.out k _ (cmdsT_at hkt) j u hu))
                    have HOL : Hid (ps.length ≤ 1000) := hid (by have := HPT.out.len; omega)
                    have tk2 : Hid (1 = 1) := hid rfl
                    clear hcd
                    go_wp2_with (first
                      | (clear tk2; at_builtin; refine wpList_append_own _ rfl _ _ 35 rfl wi.heap.size 31 i0 _ 7 56 Try.underlying35 HIC.out.1 HIC.out.2.1 HIC.out.2.2.1 HIC.out.2.2.2 rfl (by decide) _ _ _ rfl (HPY.out.alloc _) ⟨wy.heap.size, 0, none⟩ 1 1 c.cells rfl rfl (new_cell rfl) (cells_one c) (by have := HOL.out; unfold maxLen; omega) (by have := HOL.out; omega) (by have := HBV.out.size; simp; omega) ?_; intro v' w1' hown' hgrow _; have R := Own.grows (HBV.out.alloc HBV.out.size _) (by have := HBV.out.size; simp; omega) (fun k hk => (HPY.out.lt k hk).1) hown' hgrow; have HO3 := hid R.1; have HB3 := hid R.2; clear hown' hgrow R)
                      | fail)
                    go_roundw
                    case rel => exact ⟨k + 1, ps ++ [c], by omega, by go_num, HO3, hid (by have := HPT.out.take hkt HKI.out (HSK.out.symm.trans (HSE.out.trans HSI.out)); rw [HCD.out] at this; exact this), HB3⟩
                    case measure => first | omega | (simp [RowKit.intOf]; omega)
                  · go_roundw
                    case rel => exact ⟨k + 1, ps, by omega, by go_num, hid ((HPO.out.onB HBD.out).onB (Below.drewN' (Below.refl _ _) _)), hid (HPT.out.keep HKP.out), hid (Below.drewN' (HBQ.out.trans (HBD.out.mono HBQ.out.size)) _)⟩
                    case measure => first | omega | (simp [RowKit.intOf]; omega)
                · have hs1 : (sk == si) = false := by simpa using hss
                  have hs2 : decide (sk = si) = false := decide_eq_false hss
                  have HKP : Hid (k ≠ i → symT its k = symT its i → ¬ timT its k < timT its i) := hid (fun _ h => absurd (HSK.out.trans (h.trans HSI.out.symm)) hss)
                  clear hss
                  go_quiet (fail)
                  go_wp2_with fail
                  go_roundw
                  case rel => exact ⟨k + 1, ps, by omega, by go_num, hid ((HPO.out.onB HBD.out).onB (Below.drewN' (Below.refl _ _) _)), hid (HPT.out.keep HKP.out), hid (Below.drewN' (HBQ.out.trans (HBD.out.mono HBQ.out.size)) _)⟩
                  case measure => first | omega | (simp [RowKit.intOf]; omega)
            · have hkti : ¬ ((k : Int) < n) := by omega
              obtain rfl : n = k := by omega
              go_wp2_with fail
              clear hkti hk
              have HPT2 : Hid (PredT n (symT its) (timT its) i n ps) := HPT
              obtain ⟨c, hcd⟩ : ∃ c : C7, c = cmdT (symT its) i := ⟨_, rfl⟩
              have HCD := hid hcd
              have HCR : Hid (Own wr w.heap.size (.slice (some ⟨b6, o6, none⟩) n c6) (cmdsT its n)) := hid (HC6.out.onB HBQ.out)
              have HER : Hid (OwnE wr w.heap.size (.slice g5 c5 n5) (evs l)) := hid (OwnG.on HE.out HBQ.out)
              have HKR : Hid (∀ x ∈ l, KeepT wr w.heap.size x) := hid (fun x hx => (HK.out x hx).on HBQ.out)
              have HPR : Hid (Own wr w.heap.size (.slice g9 n9 c9) ps) := hid (own_monoB HPO.out HBI.out.size)
              have HYR := hid (HY1.out wr HBW.out)
              have HBL : Hid (b < w.heap.size) := hid hbw
              have HIT : Hid ((cmdsT its n)[i]? = some c) := hid (by rw [hcd]; exact cmdsT_at hit)
              have h10 : IntKind.i64.wrap (yt : Int) = yt := by rw [IntKind.wrap_i64]; omega
              have h11 : IntKind.i64.wrap ((yt : Int) + 1) = yt + 1 := by rw [IntKind.wrap_i64]; omega
              have h12 : IntKind.i64.wrap (16 * ((yt : Int) + 1)) = 16 * (yt + 1) := by rw [IntKind.wrap_i64]; omega
              have h14 : (i : Int).tmod 9 = (i : Int) % 9 := by rw [Int.tmod_eq_emod_of_nonneg (by omega)]
              obtain ⟨vt, hvt⟩ : ∃ z, z = 16 * ((yt : Int) + 1) + (i : Int) % 9 := ⟨_, rfl⟩
              have h15 : IntKind.i64.wrap (16 * ((yt : Int) + 1) + (i : Int) % 9) = vt := by rw [hvt, IntKind.wrap_i64]; omega
              have HVT := hid hvt
              clear hcd hvt HY1 HCI HC6C HE HK HC6 HPO HBQ
              refine d0 (fun W => Own W w.heap.size (.slice (some ⟨b6, o6, none⟩) n c6) (cmdsT its n) ∧ W.cell? ⟨b, o + i * 2 + 1, none⟩ = some (.int .u16 (yt : Int))) 22 (Array.replicate 22 false) ?_
              have HBD : Hid (Below wr.heap.size wr wr.drew) := hid (belowDrew (Below.refl _ wr))
              have HS0 : Hid (Own wr.drew w.heap.size (.slice (some ⟨b6, o6, none⟩) n c6) (cmdsT its n) ∧ wr.drew.cell? ⟨b, o + i * 2 + 1, none⟩ = some (.int .u16 (yt : Int))) := hid ⟨HCR.out.onB HBD.out, HYR.out⟩
              generalize wr.drew = wd at HS0 HBD ⊢
              rw [show Array.replicate 22 false = #[false, false, false, false, false, false, false, false, false, false, false, false, false, false, false, false, false, false, false, false, false, false] from rfl]
              refine dt 0 HS0.out ?_
              refine dt 1 HS0.out ?_
              refine dt 2 HS0.out ?_
              refine dt 3 HS0.out ?_
              refine dl 4 c.cells b6 (o6 + i * 7) (fun W hW => own_range hW.1 HIT.out) Try.underlying31 HS0.out ?_
              refine dt 5 HS0.out ?_
              refine dt 6 HS0.out ?_
              refine dt 7 HS0.out ?_
              refine dt 8 HS0.out ?_
              refine dt 9 HS0.out ?_ (hv := by (intro W hW; have f9 := hW.2; go_simp; try with_reducible rfl))
              refine dt 10 HS0.out ?_
              refine dt 11 HS0.out ?_
              refine dt 12 HS0.out ?_
              refine dt 13 HS0.out ?_
              refine dt 14 HS0.out ?_
              refine dt 15 HS0.out ?_
              refine dt 16 HS0.out ?_
              refine dt 17 HS0.out ?_
              refine dt 18 HS0.out ?_ (hv := by (intro W hW; exact exec_buildE c vt g9 n9 c9 W rfl rfl rfl))
              obtain ⟨e, hed⟩ : ∃ e, e = entT c vt ⟨g9, n9, c9⟩ := ⟨_, rfl⟩
              have HED := hid hed
              rw [← hed]
              clear hed
              refine dop 19 ?_
              intro K hK
              refine wp_bs1 e.arr rfl rfl Try.underlying22 Try.sizeOf55 Try.zeroValue55 (Ev.size _) (by decide) (by decide) ?_
              have HBA : Hid (Below wd.heap.size wd (wd.alloc (.cells e.arr 55))) := hid ((Below.refl _ wd).alloc (Nat.le_refl _) _)
              have HNA : Hid ((wd.alloc (.cells e.arr 55)).heap[wd.heap.size]? = some (.cells e.arr 55 (0, 0))) := hid (heap_alloc_new wd _)
              generalize wd.alloc (.cells e.arr 55) = wa at HBA HNA ⊢
              have HBX : Hid (Below wr.heap.size wr wa) := hid (HBD.out.trans (HBA.out.mono HBD.out.size))
              have HS1 : Hid (Own wa w.heap.size (.slice (some ⟨b6, o6, none⟩) n c6) (cmdsT its n) ∧ wa.cell? ⟨b, o + i * 2 + 1, none⟩ = some (.int .u16 (yt : Int))) := hid ⟨HCR.out.onB HBX.out, (HBX.out.cell (Nat.lt_of_lt_of_le HBL.out HBW.out.size)).trans HYR.out⟩
              have HEA := hid (OwnG.on HER.out HBX.out)
              refine hK.out _ _ HS1.out ?_
              clear hK K
              obtain ⟨ie, hie, hez0, hez1, hez2⟩ := info_parts Try.infoEz
              have HLE : Hid ((evs l).length ≤ 100) := hid (by have := HP.out.len; rw [List.length_map]; omega)
              have HBB : Hid (w.heap.size ≤ wa.heap.size) := hid (Nat.le_trans HBW.out.size HBX.out.size)
              refine dop 20 ?_
              intro K hK
              refine wp_append_own _ _ _ 22 rfl w.heap.size 55 ie _ 19 192 Try.underlying22 hie hez0 hez1 hez2 rfl (by decide) (.slice g5 c5 n5) (evs l).length (flatG Ev.list (evs l)) rfl HEA.out ⟨wd.heap.size, 0, none⟩ 1 1 e.list rfl rfl (fun j u hu => by rw [addr_add, cellAt' HNA.out j, ← Array.getElem?_toList, Ev.toList]; exact hu) (oneE e) (by have := HLE.out; unfold maxLen; omega) (by have := HLE.out; omega) HBB.out ?_
              intro v2 w2 hown2 hg2 _
              have HE2 : Hid (OwnE w2 w.heap.size v2 (evs l ++ [e])) := hid (by show World.ownsRow _ _ _ _ _ _ _; rw [flatG_append, flatG_one, List.length_append]; exact hown2)
              have HB2 : Hid (Below w.heap.size w w2) := hid ((HBW.out.trans (HBX.out.mono HBW.out.size)).grown hg2 HBB.out (fun k hk => (HEA.out.lt k hk).1))
              have HC2 := hid (HS1.out.1.keepE HEA.out hg2)
              have HP2 := hid ((HPR.out.onB HBX.out).keepE HEA.out hg2)
              have HK2 : Hid (∀ x ∈ l, KeepT w2 w.heap.size x) := hid (fun x hx => ((HKR.out x hx).on HBX.out).keepE HEA.out hg2)
              have HS2 : Hid (Own w2 w.heap.size (.slice (some ⟨b6, o6, none⟩) n c6) (cmdsT its n) ∧ w2.cell? ⟨b, o + i * 2 + 1, none⟩ = some (.int .u16 (yt : Int))) := hid ⟨HC2.out, (HB2.out.cell HBL.out).trans (((HBW.out.cell HBL.out).symm).trans HYR.out)⟩
              clear hown2 hg2
              refine hK.out _ _ HS2.out ?_
              clear hK K
              refine dop 21 ?_
              intro K hK
              go_simp
              refine hK.out _ _ HS2.out ?_
              clear hK K
              refine wpAnyH_done (by kernel_rfl) ?_ _
              go_wp2_with fail
              go_roundg (n - (i + 1))
              case measure => omega
              case rel => exact ⟨i + 1, l ++ [⟨e, [], [], ps⟩], by omega, rfl, by go_num, hid (by rw [show evs (l ++ [⟨e, [], [], ps⟩]) = evs l ++ [e] from List.map_append]; exact HE2.out), HC2, hid (fun x hx => by
    rcases List.mem_append.1 hx with hx | hx
    · exact HK2.out x hx
    · rw [List.mem_singleton] at hx; subst hx; rw [HED.out]; exact ⟨HP2.out, ⟨rfl, rfl⟩, ⟨rfl, rfl⟩⟩), hid (HP.out.next (by rw [HED.out]; exact ent_ok HCD.out (by rw [HYT.out, HVT.out]; omega) HPT2.out) ⟨Nat.zero_le _, Nat.zero_le _, by have := HPT2.out.len; show ps.length ≤ 100; omega⟩), HB2⟩
        · have hiti : ¬ ((i : Int) < n) := by omega
          have hin : i = n := by omega
          go_wp2_with fail
          go_ret
          exact ⟨_, l, rfl, HE.out, HK.out, by have := HP.out; rw [hin] at this; rw [← HN.out]; exact this, HBI.out⟩
end Go.Proofs.Ytmggggijamligaa

import Derived.Test.YtlehcaacfgocaaaGreatVAnsZm
import Derived.ScopeJumps
namespace Go.Proofs.YtlehcaacfgocaaaGreat
set_option linter.unusedVariables false
open Go.RowKit
open Go.Lib (hid)
def thruF (nd : Int) : Sd → List Ms → Sd × List Ms × List An
  | s, [] => (s, [], [])
  | s, m :: ws => if s.ov = true then (s, m :: ws, []) else
    ((thruF nd (ansD nd s m).1 ws).1, (if (ansD nd s m).2.length = 0 then m :: (thruF nd (ansD nd s m).1 ws).2.1 else (thruF nd (ansD nd s m).1 ws).2.1), (ansD nd s m).2 ++ (thruF nd (ansD nd s m).1 ws).2.2)
theorem thru_over {nd : Int} {s : Sd} (h : s.ov = true) (ws : List Ms) : thruF nd s ws = (s, ws, []) := by
  cases ws with
  | nil => rfl
  | cons m ws => unfold thruF; rw [if_pos h]
structure Wt (s : Sd) (m : Ms) : Prop where
  so : m.m.so = 0
  short : m.short 1024
  full : fullB m.m.vt m.v = true
  has : hasE s.xs m.m.c.i = true
  ok : m.m.c.ok = true
theorem hasE_put {s : Sd} {y : En} {i : Int} (h : hasE s.xs i = true) : hasE (putD s y).xs i = true := by
  unfold hasE putD
  rw [look_snoc]
  split
  · rfl
  · exact h
theorem has_dec {nd : Int} {s : Sd} {m : Ms} {y : En} {i : Int} (h : hasE s.xs i = true) : hasE (decideF nd s m y).1.xs i = true := by
  unfold decideF
  split
  · exact h
  · split
    · unfold refuseF; rw [fresh_xs]; exact h
    · split
      · exact h
      · exact hasE_put h
theorem has_ans {nd : Int} {s : Sd} {m : Ms} {i : Int} (h : hasE s.xs i = true) : hasE (ansD nd s m).1.xs i = true := by
  unfold ansD answerF
  split
  · exact h
  · split
    · exact h
    · exact has_dec h
theorem Wt.ans {nd : Int} {s : Sd} {m m' : Ms} (h : Wt s m) : Wt (ansD nd s m').1 m := ⟨h.so, h.short, h.full, has_ans h.has, h.ok⟩
abbrev Gd (s : Sd) : Prop := ∀ y ∈ s.xs, y.right = true
theorem gd_put {s : Sd} {y : En} (h : Gd s) (hy : y.right = true) : Gd (putD s y) := fun z hz => by
  unfold putD at hz
  rcases List.mem_append.1 hz with hz | hz
  · exact h z hz
  · rw [List.mem_singleton] at hz; subst hz; exact hy
theorem gd_dec {nd : Int} {s : Sd} {m : Ms} {y : En} (h : Gd s) (hf : fullB m.m.vt m.v = true) (hy : y.right = true) : Gd (decideF nd s m y).1 := by
  unfold decideF
  split
  · exact h
  · split
    · unfold refuseF; unfold Gd; rw [fresh_xs]; exact h
    · split
      · exact h
      · unfold agreeF
        refine gd_put h ?_
        split
        · exact right_vot hy hf
        · exact right_res hy (full_parts hf).1
theorem gd_ans {nd : Int} {s : Sd} {m : Ms} (h : Gd s) (hw : Wt s m) : Gd (ansD nd s m).1 := by
  unfold ansD answerF
  split
  · exact h
  · split
    · exact h
    · exact gd_dec h hw.full (h _ (lkE_mem hw.has).1)
theorem SlM.tch {S : Nat → Prop} {w w' : World} {v : Value} {ms : List Mg} (h : SlM w v ms) (ht : Tch S w w') (hS : ∀ k, S k → ∀ i, 6 ≤ i → w.cell? ⟨k, i, none⟩ = none) : SlM w' v ms := by
  obtain ⟨b, o, cap, a, rfl, ha, hr, hl⟩ := h
  refine ⟨b, o, cap, a, rfl, ha, fun j x hx i u hu => ?_, fun h => Nat.lt_of_lt_of_le (hl h) ht.size⟩
  have hpos : 0 < ms.length := by have := (List.getElem?_eq_some_iff.1 hx).1; omega
  have hns : ¬ S b := fun hs => by
    have h6 := hr j x hx 6 (.int .i64 x.c.s) rfl
    rw [hS b hs _ (by omega)] at h6
    cases h6
  have := hr j x hx i u hu
  rw [World.cell?] at this ⊢
  rw [ht.block b (hl hpos) hns]; exact this
abbrev SR (w w3 : World) : Nat → Prop := fun k => w.heap.size ≤ k ∧ ∃ cur, w3.heap[k]? = some (.cells cur 50 (0, 0))
structure Rw (w w3 w' : World) (tv sv : Value) (L1 L2 : List Mg) : Prop where
  told : OwnM w' w.heap.size tv L1
  still : OwnM w' w.heap.size sv L2
  apart : ∀ k, tv.ownBlock = some k → ¬ sv.ownBlock = some k
  tch : Tch (SR w w3) w3 w'
  sz : w.heap.size ≤ w3.heap.size
theorem own_typ {w : World} {B k : Nat} {v : Value} {l : List Mg} (h : OwnM w B v l) (hk : v.ownBlock = some k) : B ≤ k ∧ ∃ cur, w.heap[k]? = some (.cells cur 50 (0, 0)) := by
  refine ⟨(h.lt k hk).1, ?_⟩
  rcases h.2 with ⟨rfl, _⟩ | ⟨g, cap, cur, rfl, hb, hg, _⟩
  · cases hk
  · injection hk with hk
    subst hk
    exact ⟨cur, hg⟩
theorem Rw.alloc {w w3 w' w'' : World} {tv sv : Value} {L1 L2 : List Mg} (h : Rw w w3 w' tv sv L1 L2) (hB : Below w'.heap.size w' w'') : Rw w w3 w'' tv sv L1 L2 :=
  ⟨OwnG.on h.told hB, OwnG.on h.still hB, h.apart, h.tch.trans (Tch.ofBelow hB), h.sz⟩
theorem Rw.grown {w w3 w' w'' : World} {tv sv v : Value} {L1 L2 l : List Mg} (h : Rw w w3 w' tv sv L1 L2) (ho : OwnM w' w.heap.size v l) (hg : w'.grownBy w'' v.ownBlock) : Tch (SR w w3) w3 w'' := by
  refine ⟨hg.os.trans h.tch.os, hg.tape.trans h.tch.tape, hg.output.trans h.tch.output, Nat.le_trans h.tch.size hg.size, fun i hi hn => ?_⟩
  rw [← h.tch.block i hi hn]
  refine hg.block i (Nat.lt_of_lt_of_le hi h.tch.size) fun e => ?_
  obtain ⟨h1, cur, h2⟩ := own_typ ho e.symm
  rw [h.tch.block i hi hn] at h2
  exact hn ⟨h1, cur, h2⟩
theorem Rw.still' {w w3 w' w'' : World} {tv sv sv' : Value} {L1 L2 L2' : List Mg} (h : Rw w w3 w' tv sv L1 L2) (ho : OwnM w'' w.heap.size sv' L2') (hg : w'.grownBy w'' sv.ownBlock) (hf : Fr w'.heap.size sv sv') : Rw w w3 w'' tv sv' L1 L2' :=
  ⟨own_tch h.told (Tch.ofGrown (S := fun k => sv.ownBlock = some k) hg fun k e => e) fun k hk hs => h.apart k hk hs, ho, fun k hk hs => by
    rcases hf k hs with e | e
    · exact h.apart k hk e
    · have := (h.told.lt k hk).2; omega, h.grown h.still hg, h.sz⟩
theorem Rw.told' {w w3 w' w'' : World} {tv tv' sv : Value} {L1 L1' L2 : List Mg} (h : Rw w w3 w' tv sv L1 L2) (ho : OwnM w'' w.heap.size tv' L1') (hg : w'.grownBy w'' tv.ownBlock) (hf : Fr w'.heap.size tv tv') : Rw w w3 w'' tv' sv L1' L2 :=
  ⟨ho, own_tch h.still (Tch.ofGrown (S := fun k => tv.ownBlock = some k) hg fun k e => e) fun k hk hs => h.apart k hs hk, fun k hk hs => by
    rcases hf k hk with e | e
    · exact h.apart k e hs
    · have := (h.still.lt k hs).2; omega, h.grown h.told hg, h.sz⟩
structure Th (w w' : World) (B : Bd) (q x b b2 N : Nat) (nd : Int) (s0 s1 : Sd) (wv tv sv lv : Value) (ws st tls : List Ms) (k : Nat) : Prop where
  vo : Vo w' B q x b b2 (N + k) nd s1 wv ws
  tch : Tch (TV q x b b2) w w'
  told : OwnM w' w.heap.size tv (mgs tls)
  apart : ∀ k, tv.ownBlock = some k → ¬ sv.ownBlock = some k
  tat : ∀ a ∈ tls, a.atF B w'
  still : OwnM w' w.heap.size sv (mgs st)
  sub : ∀ m ∈ st, m ∈ ws
  left0 : SlM w lv (mgs (ws.drop k))
  low : ∀ j, TV q x b b2 j → j < w.heap.size
  nc : ∀ j, TV q x b b2 j → ∀ i, 6 ≤ i → w.cell? ⟨j, i, none⟩ = none
  hBw : B.top ≤ w.heap.size
  lnil : ws.drop k = [] → lv = .slice none 0 0 ∨ ∃ ad c, lv = .slice (some ad) 0 c
  eq : thruF nd s0 ws = ((thruF nd s1 (ws.drop k)).1, st ++ (thruF nd s1 (ws.drop k)).2.1, tls.map Ms.an ++ (thruF nd s1 (ws.drop k)).2.2)
  gd : Gd s1
  wt : ∀ m ∈ ws, Wt s1 m
  stl : st.length ≤ k
  tll : tls.length ≤ k
theorem Th.left {w w' : World} {B : Bd} {q x b b2 N k : Nat} {nd : Int} {s0 s1 : Sd} {wv tv sv lv : Value} {ws st tls : List Ms} (h : Th w w' B q x b b2 N nd s0 s1 wv tv sv lv ws st tls k) : SlM w' lv (mgs (ws.drop k)) := h.left0.tch h.tch h.nc
def slotL : Value → Nat | .slice _ n _ => n | _ => 0
theorem slice_from1 {w : World} {a : Option Addr} {n c : Nat} {m : Mg} {l : List Mg} (h : SlM w (.slice a n c) (m :: l)) (hc : n ≤ c) : ∃ a' n' c', (∀ W : World, (Instr.slice 24 (.slice a n c) (some (.int .i64 1)) none none).run Tryz.prog W = .ok (.slice a' n' c') W) ∧ SlM w (.slice a' n' c') l ∧ n' + 1 = n ∧ n' ≤ c' ∧ (l = [] → ∃ ad, a' = some ad) := by
  obtain ⟨b, o, cap, aa, e, ha, hr, hl⟩ := h
  injection e with e1 e2 e3
  subst e1 e3
  obtain rfl := ha (by simp)
  have hn : n = l.length + 1 := by rw [e2]; rfl
  subst hn
  have hs : ∀ W : World, (sizeOf (Tryz.prog.elem 24)).run Tryz.prog W = .ok 20 W := fun W => by
    obtain ⟨i0, hi, hz0, hz1, hz2⟩ := info_parts Tryz.infoMz
    rw [show Tryz.prog.elem 24 = 50 from by kernel_rfl]
    simp [sizeOf, typeInfo, hi, hz1]
  have hrun : ∀ W : World, (Instr.slice 24 (.slice (some ⟨b, o, none⟩) (l.length + 1) c) (some (.int .i64 1)) none none).run Tryz.prog W = .ok (sliced (some ⟨b, o, none⟩) 1 (l.length + 1) c 20) W := fun W => by
    have := run_slice_l (P := Tryz.prog) (w := W) 24 (some ⟨b, o, none⟩) (l.length + 1) c (by kernel_rfl) .i64 (1 : Int) (by omega) (by omega)
    rw [this, hs W]
    rfl
  unfold sliced at hrun
  by_cases hck : c = 1
  · subst hck
    have h0 : l = [] := List.length_eq_zero_iff.1 (by omega)
    subst h0
    exact ⟨some ⟨b, o, none⟩, 0, 0, fun W => by rw [hrun W, if_pos rfl]; rfl, ⟨0, 0, _, _, rfl, fun h => absurd h (by simp), fun j x h => by simp at h, fun h => absurd h (by simp)⟩, rfl, by simp, fun _ => ⟨_, rfl⟩⟩
  · refine ⟨_, _, _, fun W => by rw [hrun W, if_neg hck]; rfl, ⟨b, o + 20, c - 1, some ((⟨b, o, none⟩ : Addr).add (1 * 20)), rfl, fun _ => ?_, fun j y hy => ?_, fun _ => hl (by simp)⟩, rfl, by omega, fun _ => ⟨_, rfl⟩⟩
    · rw [addr_add']
    · have := hr (j + 1) y (by rw [List.getElem?_cons_succ]; exact hy)
      rw [show o + 20 + j * 20 = o + (j + 1) * 20 by omega]
      exact this
theorem Wt.lk {s : Sd} {m : Ms} (h : Wt s m) : lookG En.id s.xs m.m.c.i = some (lkE s.xs m.m.c.i) := lkE_has h.has
theorem putOk_lk {s : Sd} {i : Int} (hg : Gd s) (hs : ∀ y ∈ s.xs, y.short 1024) (h : hasE s.xs i = true) : PutOk s (lkE s.xs i) :=
  ⟨hg _ (lkE_mem h).1, hs _ (lkE_mem h).1, fun _ => by rw [(lkE_mem h).2, lkE_e]⟩
theorem cAnsD {w : World} {B : Bd} {q x b b2 N : Nat} {nd : Int} {s : Sd} {wv : Value} {ws : List Ms} (h : Vo w B q x b b2 N nd s wv ws) (hN : N ≤ 20000) {m : Ms} (hm : m.at w) (hml : m.low B) (hg : Gd s) (hw : Wt s m) :
    Calls Tryz.prog 41 #[ptr q, .agg m.m.arr, .func (.func 115) #[ptr q] #[]] w (OutD w B q x b b2 (N + 1) nd wv ws (ansD nd s m)) := by
  have hy := hw.lk
  have hmem := (lkE_mem hw.has).1
  refine (cAnswerG (Post := OutD w B q x b b2 (N + 1) nd wv ws (decideF nd s m (lkE s.xs m.m.c.i))) h hy (ok_wf hw.ok) (enters_of Tryz.func115 (by kernel_rfl) rfl) (fun e w' hp => by obtain ⟨v, _, e, _⟩ := hp; exact ⟨v, e⟩) fun _ W hB => ?_).mono ?_
  · refine (cDecide (h.on hB) hN (hm.on hB) hw.short hw.full ((h.all _ hmem).on hB) hml (h.lo _ hmem) (putOk_lk hg h.sh hw.has)).mono ?_
    intro e w' hp
    exact hp.from (Tch.ofBelow hB)
  · intro e w' hp
    unfold AnsPost at hp
    unfold ansD answerF
    rw [← lkE_e]
    split
    · rename_i h1; rw [if_pos h1] at hp; exact hp.mono (Nat.le_succ N)
    · rename_i h1
      rw [if_neg h1] at hp
      split
      · rename_i h2; rw [if_pos h2] at hp; exact hp.mono (Nat.le_succ N)
      · rename_i h2; rw [if_neg h2] at hp; exact hp
theorem drop_nextW {ws : List Ms} {k : Nat} {m : Ms} (h : ws[k]? = some m) : ws.drop k = m :: ws.drop (k + 1) := by
  obtain ⟨hlt, rfl⟩ := List.getElem?_eq_some_iff.1 h
  exact List.drop_eq_getElem_cons hlt
theorem shape_nil {v : Value} {ls : List Ms} (h : (v = .slice none 0 0 ∧ ls = []) ∨ ∃ g cap, v = .slice (some g) ls.length cap) : mgs ls = [] → v = .slice none 0 0 ∨ ∃ ad c, v = .slice (some ad) 0 c := fun e => by
  have e' : ls = [] := List.map_eq_nil_iff.1 e
  subst e'
  rcases h with ⟨rfl, _⟩ | ⟨g, cap, rfl⟩
  · exact .inl rfl
  · exact .inr ⟨g, cap, rfl⟩
theorem sl_shape0 {w : World} {v : Value} {ls : List Ms} (h : (v = .slice none 0 0 ∧ ls = []) ∨ ∃ g cap, v = .slice (some g) ls.length cap) (h0 : ls.length = 0) : SlM w v (mgs ls) := by
  have e : ls = [] := List.length_eq_zero_iff.1 h0
  have := slM_nil (w := w) h e
  rw [e]; exact this
theorem Th.rows {w wr w3 : World} {B : Bd} {q x b b2 N k : Nat} {nd : Int} {s0 s1 : Sd} {wv tv sv lv : Value} {ws st tls : List Ms} (h : Th w wr B q x b b2 N nd s0 s1 wv tv sv lv ws st tls k) (ht : Tch (TV q x b b2) wr w3) : Rw w w3 w3 tv sv (mgs tls) (mgs st) := by
  have hne : ∀ j, w.heap.size ≤ j → ¬ TV q x b b2 j := fun j hj hT => by have := h.low j hT; omega
  exact ⟨own_tch h.told ht fun j hj => hne j (h.told.lt j hj).1, own_tch h.still ht fun j hj => hne j (h.still.lt j hj).1, h.apart, Tch.refl _ _, Nat.le_trans h.tch.size ht.size⟩
theorem ans_len {nd : Int} {s : Sd} {m : Ms} {ls : List Ms} (h : ls.map Ms.an = (ansD nd s m).2) : ls.length ≤ 1 := by
  have : ls.length = (ansD nd s m).2.length := by rw [← h, List.length_map]
  rw [this]
  unfold ansD answerF decideF refuseF agreeF
  repeat' split
  all_goals simp
theorem wpList_append_msF {w : World} {ops : Array Oper} {rest : List Oper} {o : Oper} {a : Act} {Q : Exit → Act → World → Prop} (hgd : o.guard = none) (s x : Operand) (ho : o.op = .call { callee := .builtin .append, args := #[s, x], argTypes := #[24, 24] })
    (B : Nat) (v : Value) (ps : List Mg) (hs : a.eval s = v) (hown : OwnM w B v ps) (v2 : Value) (qs : List Mg) (hx : a.eval x = v2) (h2 : SlM w v2 qs) (hn2 : qs = [] → v2 = .slice none 0 0 ∨ ∃ ad c, v2 = .slice (some ad) 0 c) (hlen : ps.length + qs.length ≤ 100000) (hbase : B ≤ w.heap.size)
    (h : ∀ v' w', OwnM w' B v' (ps ++ qs) → w.grownBy w' v.ownBlock → Fr w.heap.size v v' → wpList Tryz.prog ops Q rest (a.put o.dst v') w') : wpList Tryz.prog ops Q (o :: rest) a w := by
  obtain ⟨i0, hi, hz0, hz1, hz2⟩ := info_parts Tryz.infoMz
  obtain ⟨b, off, cap, a2, e, ha, hc, hl⟩ := h2
  have hcase : (v2 = .slice none 0 0 ∧ qs = []) ∨ ∃ ad, v2 = .slice (some ad) qs.length cap ∧ (0 < qs.length → ad = ⟨b, off, none⟩) := by
    rcases Nat.eq_zero_or_pos qs.length with h0 | h0
    · have hq : qs = [] := List.length_eq_zero_iff.1 h0
      rcases hn2 hq with h1 | ⟨ad, c, h1⟩
      · exact .inl ⟨h1, hq⟩
      · rw [e] at h1
        injection h1 with e1 e2 e3
        exact .inr ⟨ad, by rw [e, e1], fun h3 => by omega⟩
    · exact .inr ⟨⟨b, off, none⟩, by rw [e, ha h0], fun _ => rfl⟩
  rcases hcase with ⟨rfl, rfl⟩ | ⟨ad, rfl, had⟩
  · refine wpList_append_own_none hgd s x 24 ho B 50 i0 20 Tryz.underlying24 hi v ps.length (flatG Mg.list ps) hs hown hx ?_
    exact h v w (by rw [List.append_nil]; exact hown) (grownRefl _ _) fun k hk => .inl hk
  · refine wpList_append_own_at _ hgd s x 24 ho B 50 i0 _ 20 208 Tryz.underlying24 hi hz0 hz1 hz2 rfl (by decide) v ps.length (flatG Mg.list ps) hs hown ad qs.length cap (flatG Mg.list qs) hx (flatG_len kM qs) (fun j u hu => ?_) (flatG_all Mg.one' qs) (by unfold maxLen; omega) (by omega) hbase ?_
    · have hj := (List.getElem?_eq_some_iff.1 hu).1
      rw [flatG_len kM] at hj
      have h0 : 0 < qs.length := by rcases Nat.eq_zero_or_pos qs.length with h0 | h0; rw [h0] at hj; omega; exact h0
      rw [had h0, addr_add']
      have hlt : j / 20 < qs.length := Nat.div_lt_of_lt_mul (by rw [Nat.mul_comm]; exact hj)
      have hat := hc (j / 20) qs[j / 20] (List.getElem?_eq_getElem hlt)
      have hfl : ∀ u', (Mg.list qs[j / 20])[j % 20]? = some u' → (flatG Mg.list qs)[j / 20 * 20 + j % 20]? = some u' := fun u' h' => flatG_at kM qs _ _ (List.getElem?_eq_getElem hlt) _ _ h'
      have hm : j % 20 < (Mg.list qs[j / 20]).length := by rw [kM]; exact Nat.mod_lt _ (by decide)
      have h1 := hfl _ (List.getElem?_eq_getElem hm)
      rw [show j / 20 * 20 + j % 20 = j by omega, hu] at h1
      have h2 := hat (j % 20) _ (List.getElem?_eq_getElem hm)
      rw [← Option.some.inj h1] at h2
      rw [show off + j / 20 * 20 + j % 20 = off + j by omega] at h2
      exact h2
    · intro v' w' ho' hg _ hat
      refine h v' w' ?_ hg fun k hk => ?_
      · show World.ownsRow _ _ _ _ _ _ _
        rw [flatG_append, List.length_append]; exact ho'
      · rcases hat with e | e
        · exact .inl (e ▸ hk)
        · rw [e] at hk; cases hk; exact .inr (Nat.le_refl _)
theorem tch_above {S S' : Nat → Prop} {a b c : World} (h : Tch S a b) (k : Tch S' b c) (hS : ∀ j, S' j → a.heap.size ≤ j) : Tch S a c :=
  ⟨k.os.trans h.os, k.tape.trans h.tape, k.output.trans h.output, Nat.le_trans h.size k.size, fun i hi hn => (k.block i (Nat.lt_of_lt_of_le hi h.size) fun hs => by have := hS i hs; omega).trans (h.block i hi hn)⟩
theorem msg_not_cmd {w : World} {k : Nat} {cur : Array Value} (h : w.heap[k]? = some (.cells cur 50 (0, 0))) : ∀ c fz, w.heap[k]? ≠ some (.cells c 45 fz) := fun c fz e => by
  rw [h] at e
  injection e with e
  injection e with _ e
  exact absurd e (by decide)
theorem Vo.beside {w w3 w' : World} {B : Bd} {q x b b2 N : Nat} {nd : Int} {s : Sd} {wv : Value} {ws : List Ms} (h : Vo w3 B q x b b2 N nd s wv ws) (ht : Tch (SR w w3) w3 w') (hlow : ∀ j, TV q x b b2 j → j < w.heap.size) (hwv : ∀ k, wv.ownBlock = some k → k < w.heap.size) (hB : B.top ≤ w.heap.size) : Vo w' B q x b b2 N nd s wv ws := by
  obtain ⟨n, ids, hn, hv⟩ := h.ix
  have hns : ∀ k, k < w.heap.size → ¬ SR w w3 k := fun k hk hs => by have := hs.1; omega
  have hset : ∀ {v : Value} {cs : List C7}, Sl w3 v cs → lowV B v cs → Sl w' v cs := fun h1 h2 => low_row h1 h2 ht fun k hk => .inr fun hP => by have := B.lt _ hP; have := hk.1; omega
  exact ⟨⟨n, ids, hn, ⟨ht.ob hv.ob (hns q (hlow q (.inl rfl))), hv.ix.keptT ht fun k hk => hns k (hlow k (.inr hk)), own_tch hv.ow ht fun k hk => hns k (hwv k hk), hv.aw⟩⟩, h.len,
    fun y hy => ⟨hset (h.all y hy).1 (h.lo y hy).1, hset (h.all y hy).2.1 (h.lo y hy).2.1, hset (h.all y hy).2.2 (h.lo y hy).2.2⟩, h.sh, h.cb,
    fun m hm => ⟨hset (h.wa m hm).1 (h.wl m hm).1, hset (h.wa m hm).2.1 (h.wl m hm).2.1, hset (h.wa m hm).2.2 (h.wl m hm).2.2⟩, h.lo, h.wl⟩
theorem atF_rows {w w3 w' : World} {B : Bd} {a : Ms} (h : a.atF B w3) (ht : Tch (SR w w3) w3 w') (hB : B.top ≤ w.heap.size) : a.atF B w' := h.tch ht fun k hk => .inr ⟨fun hP => by have := B.lt _ hP; have := hk.1; omega, by obtain ⟨_, cur, hc⟩ := hk; exact msg_not_cmd hc⟩
theorem thru_next {nd : Int} {s : Sd} {m : Ms} {ws : List Ms} (h : s.ov = false) : thruF nd s (m :: ws) = ((thruF nd (ansD nd s m).1 ws).1, (if (ansD nd s m).2.length = 0 then m :: (thruF nd (ansD nd s m).1 ws).2.1 else (thruF nd (ansD nd s m).1 ws).2.1), (ansD nd s m).2 ++ (thruF nd (ansD nd s m).1 ws).2.2) := by
  rw [thruF, if_neg (by rw [h]; simp)]
theorem Th.next {w wr w3 w8 : World} {B : Bd} {q x b b2 N k : Nat} {nd : Int} {s0 s1 : Sd} {wv tv sv lv tv' sv' lv' : Value} {ws st tls ls st' : List Ms} {m : Ms} (h : Th w wr B q x b b2 N nd s0 s1 wv tv sv lv ws st tls k) (hm : ws[k]? = some m) (hov : s1.ov = false) (hwv : ∀ j, wv.ownBlock = some j → j < w.heap.size)
    (hV3 : Vo w3 B q x b b2 (N + k + 1) nd (ansD nd s1 m).1 wv ws) (hT3 : Tch (TV q x b b2) wr w3) (hat : ∀ a ∈ ls, a.atF B w3) (han : ls.map Ms.an = (ansD nd s1 m).2) (hr : Rw w w3 w8 tv' sv' (mgs tls ++ mgs ls) (mgs st')) (hst : st' = if ls.length = 0 then st ++ [m] else st) (hl : SlM w lv' (mgs (ws.drop (k + 1)))) (hln : ws.drop (k + 1) = [] → lv' = .slice none 0 0 ∨ ∃ ad c, lv' = .slice (some ad) 0 c) :
    Th w w8 B q x b b2 N nd s0 (ansD nd s1 m).1 wv tv' sv' lv' ws st' (tls ++ ls) (k + 1) := by
  have hdr := drop_nextW hm
  have hmm := List.mem_of_getElem? hm
  have hnc3 : ∀ j, TV q x b b2 j → ∀ i, 6 ≤ i → wr.cell? ⟨j, i, none⟩ = none := h.vo.nocell
  have hlen : ls.length = (ansD nd s1 m).2.length := by rw [← han, List.length_map]
  refine ⟨(hV3.beside hr.tch h.low hwv h.hBw).mono (by omega), tch_above (h.tch.trans hT3) hr.tch fun j hj => hj.1, ?_, hr.apart, fun a ha => ?_, hr.still, fun y hy => ?_, hl, h.low, h.nc, h.hBw, hln, ?_, gd_ans h.gd (h.wt m hmm), fun y hy => (h.wt y hy).ans, ?_, ?_⟩
  · have := hr.told; unfold mgs at this ⊢; rw [List.map_append]; exact this
  · rcases List.mem_append.1 ha with ha | ha
    · exact atF_rows ((h.tat a ha).tch hT3 fun j hj => .inl (hnc3 j hj)) hr.tch h.hBw
    · exact atF_rows (hat a ha) hr.tch h.hBw
  · rw [hst] at hy
    split at hy
    · rcases List.mem_append.1 hy with hy | hy
      · exact h.sub y hy
      · rw [List.mem_singleton] at hy; subst hy; exact hmm
    · exact h.sub y hy
  · rw [h.eq, hdr, thru_next hov, hst, ← hlen, List.map_append, han]
    by_cases h0 : ls.length = 0
    · rw [if_pos h0, if_pos h0]; simp
    · rw [if_neg h0, if_neg h0]; simp
  · rw [hst]; split
    · simp; exact h.stl
    · have := h.stl; omega
  · have := ans_len han; have := h.tll; simp; omega
theorem th_grown {w wr w9 : World} {B : Bd} {q x b b2 N k : Nat} {nd : Int} {s0 s1 : Sd} {wv tv sv lv : Value} {ws st tls : List Ms} (h : Th w wr B q x b b2 N nd s0 s1 wv tv sv lv ws st tls k) (hg : wr.grownBy w9 sv.ownBlock) : w9.heap[q]? = some (.cells #[ptr x, wv, .bool s1.ov] 59 (0, 0)) ∧ True := by
  refine ⟨?_, trivial⟩
  have hq := h.vo.ob
  exact (hg.block q (Array.getElem?_eq_some_iff.1 hq).1 fun e => by have := (h.still.lt q e.symm).1; have := h.low q (.inl rfl); omega).trans hq
theorem tch_above2 {S S' : Nat → Prop} {a b c : World} (h : Tch S a b) (k : Tch S' b c) (hS : ∀ j, S' j → S j ∨ a.heap.size ≤ j) : Tch S a c :=
  ⟨k.os.trans h.os, k.tape.trans h.tape, k.output.trans h.output, Nat.le_trans h.size k.size, fun i hi hn => (k.block i (Nat.lt_of_lt_of_le hi h.size) fun hs => by
    rcases hS i hs with e | e
    · exact hn e
    · omega).trans (h.block i hi hn)⟩
theorem th_end {w wr w9 : World} {B : Bd} {q x b b2 N k : Nat} {nd : Int} {s0 s1 : Sd} {wv tv sv lv : Value} {ws st tls : List Ms} {v9 : Value} (h : Th w wr B q x b b2 N nd s0 s1 wv tv sv lv ws st tls k) (ho : OwnM w9 w.heap.size v9 (mgs st ++ mgs (ws.drop k))) (hg : wr.grownBy w9 sv.ownBlock) (hf : Fr wr.heap.size sv v9) (hwv : ∀ j, wv.ownBlock = some j → j < w.heap.size) (hk : k ≤ ws.length) (hw : ws.length ≤ k ∨ s1.ov = true) : OutF w B q x b b2 (N + ws.length) nd wv (thruF nd s0 ws) (.returned tv) (w9.setCell ⟨q, 1, none⟩ v9) := by
  have hq0 := h.low q (.inl rfl)
  have hT9 : Tch (fun j => j = q ∨ sv.ownBlock = some j) wr (w9.setCell ⟨q, 1, none⟩ v9) :=
    (Tch.ofGrown (S := fun j => j = q ∨ sv.ownBlock = some j) hg fun k e => .inr e).trans (Tch.ofGrown (grownSet w9 ⟨q, 1, none⟩ v9) fun k e => .inl (Option.some.inj e).symm)
  have hsv : ∀ j, sv.ownBlock = some j → w.heap.size ≤ j := fun j hj => (h.still.lt j hj).1
  have hS : ∀ j, (j = q ∨ sv.ownBlock = some j) → (∀ i, 6 ≤ i → wr.cell? ⟨j, i, none⟩ = none) ∨ ¬ B.P j := fun j hj => by
    rcases hj with rfl | hj
    · exact .inl (h.vo.nocell _ (.inl rfl))
    · exact .inr fun hP => by have := B.lt _ hP; have := hsv j hj; have := h.hBw; omega
  have htold := own_tch h.told hT9 fun j hj hs => by
    rcases hs with rfl | hs
    · have := (h.told.lt _ hj).1; omega
    · exact h.apart j hj hs
  have hrest : thruF nd s1 (ws.drop k) = (s1, ws.drop k, []) := by
    rcases hw with hw | hw
    · rw [List.drop_eq_nil_of_le hw]; rfl
    · exact thru_over hw _
  have hqb := (th_grown h hg).1
  obtain ⟨n, ids, hn, hv⟩ := h.vo.ix
  have hmem : ∀ m ∈ st ++ ws.drop k, m ∈ ws := fun m hm => by
    rcases List.mem_append.1 hm with hm | hm
    · exact h.sub m hm
    · exact List.mem_of_mem_drop hm
  refine ⟨tv, tls, v9, rfl, OwnG.slG kM htold, ?_, fun a ha => (h.tat a ha).tch hT9 fun j hj => ?_, ?_, ?_, ?_, fun j hj => .inr (ho.lt j hj).1, fun j hj => .inr (.inl fun ht => by
    rcases hf j hj with e | e
    · exact h.apart j ht e
    · have := (h.told.lt j ht).2; omega), .inr fun j hj => by
    obtain ⟨_, cur, hc⟩ := own_typ htold hj
    exact ⟨cur, _, hc⟩⟩
  · rcases h.told.2 with ⟨rfl, h0⟩ | ⟨g, cap, cur, rfl, _⟩
    · refine .inl ⟨rfl, ?_⟩
      have := List.length_eq_zero_iff.1 h0
      exact List.map_eq_nil_iff.1 this
    · exact .inr ⟨⟨g, 0, none⟩, cap, by unfold mgs; rw [List.length_map]⟩
  · rcases hj with rfl | hj
    · exact .inl (h.vo.nocell _ (.inl rfl))
    · obtain ⟨h1, cur, h2⟩ := own_typ h.still hj
      exact .inr ⟨fun hP => by have := B.lt _ hP; have := h.hBw; omega, msg_not_cmd h2⟩
  · rw [h.eq, hrest]; simp
  · rw [h.eq, hrest]
    refine ⟨⟨n, ids, by omega, ⟨?_, hv.ix.keptT hT9 fun j hj hs => ?_, ?_, fun j hj hP => by have := (ho.lt j hj).1; have := B.lt _ hP; have := h.hBw; omega⟩⟩, (show s1.xs.length ≤ N + ws.length by have := h.vo.len; omega), fun y hy => ?_, h.vo.sh, h.vo.cb, fun m hm => ?_, h.vo.lo, fun m hm => h.vo.wl m (hmem m hm)⟩
    · have := setAt (j := 1) (x := v9) hqb
      simpa using this
    · rcases hs with rfl | hs
      · exact hv.qi hj
      · have := hsv j hs; have := h.low j (.inr hj); omega
    · have h1 : OwnM w9 B.lo v9 (mgs (st ++ ws.drop k)) := by unfold mgs at ho ⊢; rw [List.map_append]; exact own_monoB ho (Nat.le_trans B.le h.hBw)
      exact own_tch h1 (Tch.ofGrown (S := fun j => j = q) (grownSet w9 ⟨q, 1, none⟩ v9) fun k e => (Option.some.inj e).symm) fun j hj hs => by have := (ho.lt j hj).1; omega
    · have h1 := h.vo.all y hy
      have h2 := h.vo.lo y hy
      exact ⟨low_row h1.1 h2.1 hT9 hS, low_row h1.2.1 h2.2.1 hT9 hS, low_row h1.2.2 h2.2.2 hT9 hS⟩
    · have h1 := h.vo.wa m (hmem m hm)
      have h2 := h.vo.wl m (hmem m hm)
      exact ⟨low_row h1.1 h2.1 hT9 hS, low_row h1.2.1 h2.2.1 hT9 hS, low_row h1.2.2 h2.2.2 hT9 hS⟩
  · refine (tch_above2 h.tch hT9 fun j hj => ?_).mono fun j hj => .inl hj
    rcases hj with rfl | hj
    · exact .inl (.inl rfl)
    · exact .inr (hsv j hj)
def JThru (w : World) (B : Bd) (q x b b2 N : Nat) (nd : Int) (s0 : Sd) (wv : Value) (ws : List Ms) (a' : Act) (w' : World) : Prop :=
  ∃ (k : Nat) (s1 : Sd) (st tls : List Ms) (ta : Option Addr) (tn tc : Nat) (sa : Option Addr) (sn sc : Nat) (la : Option Addr) (ln lc : Nat) (u6 u7 u8 u9 u10 u11 u12 u13 u14 u15 u16 u17 u18 u19 u20 u21 u22 u23 u24 u25 u26 u27 u28 u29 u30 u31 u32 u33 u34 u35 u36 u37 u38 u39 u40 u41 u42 u43 u44 u45 u46 u47 u48 u5 : Value), ln + k = ws.length ∧ ln ≤ lc ∧ Hid (Th w w' B q x b b2 N nd s0 s1 wv (.slice ta tn tc) (.slice sa sn sc) (.slice la ln lc) ws st tls k) ∧
    a' = { tmps := #[ptr q, undef, .slice none 0 0, .slice ta tn tc, .slice sa sn sc, u5, u6, u7, u8, u9, u10, u11, u12, u13, u14, u15, u16, u17, u18, u19, u20, u21, u22, u23, u24, u25, u26, u27, u28, u29, u30, u31, u32, u33, u34, u35, u36, u37, u38, u39, u40, u41, u42, u43, u44, u45, u46, u47, u48], defers := [] } ∧ u5 = .slice la ln lc
end Go.Proofs.YtlehcaacfgocaaaGreat

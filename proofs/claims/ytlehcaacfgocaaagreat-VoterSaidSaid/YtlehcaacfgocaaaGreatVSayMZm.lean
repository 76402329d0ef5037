import Derived.Test.YtlehcaacfgocaaaGreatG46
namespace Go.Proofs.YtlehcaacfgocaaaGreat
set_option linter.unusedVariables false
open Go.RowKit
open Go.Lib (hid)
structure Ls (w : World) (B : Nat) (v : Value) (l : List Sx) : Prop where
  ow : OwnS w B v (sms l)
  at' : ∀ y ∈ l, SetF (Bd.mk1 B) w y.m.p.v y.l
  wf : ∀ y ∈ l, (Lit.int .i64 y.m.c.i).wf = true
  len : ∀ y ∈ l, y.l.length ≤ 90000
theorem Ls.nil (w : World) (B : Nat) : Ls w B (.slice Option.none 0 0) [] := ⟨OwnG.nil _ _ _ _ _, by simp, by simp, by simp⟩
theorem Ls.on {w w' : World} {B : Nat} {v : Value} {l : List Sx} (h : Ls w B v l) (hb : Below w.heap.size w w') : Ls w' B v l := ⟨OwnG.on h.ow hb, fun y hy => (h.at' y hy).on hb, h.wf, h.len⟩
theorem ownS_typ {w : World} {B k : Nat} {v : Value} {l : List Sm} (h : OwnS w B v l) (hk : v.ownBlock = some k) : B ≤ k ∧ ∃ cur, w.heap[k]? = some (.cells cur 74 (0, 0)) := by
  refine ⟨(h.lt k hk).1, ?_⟩
  rcases h.2 with ⟨rfl, _⟩ | ⟨g, cap, cur, rfl, hb, hg, _⟩
  · cases hk
  · injection hk with hk
    subst hk
    exact ⟨cur, hg⟩
theorem Ls.voter {w w' : World} {B q x b b2 N : Nat} {nd : Int} {s : Sd} {wv v : Value} {ws : List Ms} {l : List Sx} (h : Ls w B v l) (hv : Vo w (Bd.mk1 B) q x b b2 N nd s wv ws) (ht : Tch (TW q x b b2 wv) w w') : Ls w' B v l := by
  obtain ⟨n, ids, hn, hx⟩ := hv.ix
  refine ⟨own_tch h.ow ht fun k hk hs => ?_, fun y hy => (h.at' y hy).tch ht fun k hk => ?_, h.wf, h.len⟩
  · obtain ⟨_, cur, hc⟩ := ownS_typ h.ow hk
    rcases hs with hs | hs
    · rcases hs with rfl | rfl | rfl | rfl
      · rw [hx.ob] at hc; exact absurd (Obj.cells.inj (Option.some.inj hc)).2.1 (by decide)
      · rw [hx.ix.ob] at hc; exact absurd (Obj.cells.inj (Option.some.inj hc)).2.1 (by decide)
      · obtain ⟨es, j, hb⟩ := hx.ix.mp.ob
        rw [hb] at hc; cases hc
      · obtain ⟨es, j, hb⟩ := hx.ix.cg.ob
        rw [hb] at hc; cases hc
    · obtain ⟨_, cur2, hc2⟩ := own_typ hx.ow hs
      rw [hc2] at hc; exact absurd (Obj.cells.inj (Option.some.inj hc)).2.1 (by decide)
  · rcases hk with hk | hk
    · exact .inl (hx.nocell k hk)
    · obtain ⟨_, cur2, hc2⟩ := own_typ hx.ow hk
      exact .inr ⟨hx.aw k hk, msg_not_cmd hc2⟩
abbrev TSs (B : Nat) (w : World) : Nat → Prop := fun k => B ≤ k ∧ ∃ cur, w.heap[k]? = some (.cells cur 74 (0, 0))
theorem tss_msg {w : World} {B k : Nat} {cur : Array Value} {fz : Nat × Nat} (h : w.heap[k]? = some (.cells cur 50 fz)) : ¬ TSs B w k := fun ⟨_, c, hc⟩ => by
  rw [h] at hc
  exact absurd (Obj.cells.inj (Option.some.inj hc)).2.1 (by decide)
theorem Vo.said {w w' : World} {B q x b b2 N : Nat} {nd : Int} {s : Sd} {wv : Value} {ws : List Ms} (h : Vo w (Bd.mk1 B) q x b b2 N nd s wv ws) (ht : Tch (TSs B w) w w') : Vo w' (Bd.mk1 B) q x b b2 N nd s wv ws := by
  obtain ⟨n, ids, hn, hv⟩ := h.ix
  have hT : ∀ k, TV q x b b2 k → ¬ TSs B w k := fun k hk ⟨_, c, hc⟩ => by
    rcases hk with rfl | rfl | rfl | rfl
    · rw [hv.ob] at hc; exact absurd (Obj.cells.inj (Option.some.inj hc)).2.1 (by decide)
    · rw [hv.ix.ob] at hc; exact absurd (Obj.cells.inj (Option.some.inj hc)).2.1 (by decide)
    · obtain ⟨es, j, hb⟩ := hv.ix.mp.ob
      rw [hb] at hc; cases hc
    · obtain ⟨es, j, hb⟩ := hv.ix.cg.ob
      rw [hb] at hc; cases hc
  have hset : ∀ {v : Value} {cs : List C7}, Sl w v cs → lowV (Bd.mk1 B) v cs → Sl w' v cs := fun h1 h2 => low_row h1 h2 ht fun k hk => .inr fun hP => by have : k < B := hP; have := hk.1; omega
  exact ⟨⟨n, ids, hn, ⟨ht.ob hv.ob (hT q (.inl rfl)), hv.ix.keptT ht fun k hk => hT k (.inr hk), own_tch hv.ow ht fun k hk => by
      obtain ⟨_, cur2, hc2⟩ := own_typ hv.ow hk
      exact tss_msg hc2, hv.aw⟩⟩, h.len,
    fun y hy => ⟨hset (h.all y hy).1 (h.lo y hy).1, hset (h.all y hy).2.1 (h.lo y hy).2.1, hset (h.all y hy).2.2 (h.lo y hy).2.2⟩, h.sh, h.cb,
    fun m hm => ⟨hset (h.wa m hm).1 (h.wl m hm).1, hset (h.wa m hm).2.1 (h.wl m hm).2.1, hset (h.wa m hm).2.2 (h.wl m hm).2.2⟩, h.lo, h.wl⟩
theorem SetF.said {w w' : World} {B : Nat} {v : Value} {cs : List C7} (h : SetF (Bd.mk1 B) w v cs) (ht : Tch (TSs B w) w w') : SetF (Bd.mk1 B) w' v cs := h.tch ht fun k hk => .inr ⟨fun hP => by have : k < B := hP; have := hk.1; omega, fun c fz e => by
  obtain ⟨_, cur, hc⟩ := hk
  rw [hc] at e
  exact absurd (Obj.cells.inj (Option.some.inj e)).2.1 (by decide)⟩
theorem tss_trans {a b c : World} {B : Nat} (h : Tch (TSs B a) a b) (k : Tch (TSs B b) b c) (hB : ∀ j, j < a.heap.size → TSs B b j → TSs B a j) : Tch (TSs B a) a c :=
  ⟨k.os.trans h.os, k.tape.trans h.tape, k.output.trans h.output, Nat.le_trans h.size k.size, fun i hi hn => (k.block i (Nat.lt_of_lt_of_le hi h.size) fun hs => hn (hB i hi hs)).trans (h.block i hi hn)⟩
theorem tss_below {a b c : World} {B : Nat} (h : Tch (TSs B a) a b) (k : Below b.heap.size b c) : Tch (TSs B a) a c := h.trans (Tch.ofBelow k)
theorem Ls.more {w0 w w' : World} {B : Nat} {v v' : Value} {l : List Sx} {y : Sx} (h : Ls w B v l) (ho : OwnS w' B v' (sms l ++ [y.m])) (hg : w.grownBy w' v.ownBlock) (hy : SetF (Bd.mk1 B) w y.m.p.v y.l) (hw : (Lit.int .i64 y.m.c.i).wf = true) (hl : y.l.length ≤ 90000) : Ls w' B v' (l ++ [y]) ∧ Tch (TSs B w) w w' := by
  have hT : Tch (TSs B w) w w' := (Tch.ofGrown (S := fun k => v.ownBlock = some k) hg fun k e => e).mono fun k hk => ownS_typ h.ow hk
  refine ⟨⟨by unfold sms at ho ⊢; rw [List.map_append]; exact ho, fun z hz => ?_, fun z hz => ?_, fun z hz => ?_⟩, hT⟩
  · rcases List.mem_append.1 hz with hz | hz
    · exact (h.at' z hz).said hT
    · rw [List.mem_singleton] at hz; subst hz; exact hy.said hT
  · rcases List.mem_append.1 hz with hz | hz
    · exact h.wf z hz
    · rw [List.mem_singleton] at hz; subst hz; exact hw
  · rcases List.mem_append.1 hz with hz | hz
    · exact h.len z hz
    · rw [List.mem_singleton] at hz; subst hz; exact hl
theorem infoSm (m : Sm) : (Tryz.prog.info? 74).map (·.size) = some m.list.length := by rw [Sm.len]; kernel_rfl
theorem infoSm' (m : Sm) : (Tryz.prog.info? 74).map (·.size) = some m.arr.size := by rw [Sm.size]; kernel_rfl
theorem ask_len {ws : List Ms} {m : Ms} {a : An} {l : List C7} (h : askF ws m a = some l) (hw : ∀ x ∈ ws, x.v.length ≤ 1024) (hm : m.v.length ≤ 1024) : l.length ≤ 1024 := by
  unfold askF at h
  rcases hf : ((ws ++ [m]).reverse.find? (askP a)) with _ | x
  · rw [hf] at h; cases h
  · rw [hf] at h
    have hx := List.mem_reverse.1 (List.mem_of_find?_eq_some hf)
    obtain rfl : x.v = l := Option.some.inj h
    rcases List.mem_append.1 hx with hx | hx
    · exact hw x hx
    · rw [List.mem_singleton] at hx; subst hx; exact hm
theorem own_madeC (w : World) : Own (w.alloc (.cells #[] 45)) w.heap.size (.slice (some ⟨w.heap.size, 0, none⟩) 0 0) [] := World.ownsRow_made w #[] 0 (Nat.le_refl _) (by unfold maxLen; omega) rfl
end Go.Proofs.YtlehcaacfgocaaaGreat

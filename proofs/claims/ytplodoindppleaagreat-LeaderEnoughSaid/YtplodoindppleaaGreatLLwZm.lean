import Derived.Test.YtplodoindppleaaGreatLAliveZm
namespace Go.Proofs.YtplodoindppleaaGreat
set_option linter.unusedVariables false
open Go.RowKit
open Go.Lib (hid)
theorem wpList_append_msF {w : World} {ops : Array Oper} {rest : List Oper} {o : Oper} {a : Act} {Q : Exit → Act → World → Prop} (hgd : o.guard = none) (s x : Operand) (ho : o.op = .call { callee := .builtin .append, args := #[s, x], argTypes := #[37, 37] })
    (B : Nat) (v : Value) (ps : List Mg) (hs : a.eval s = v) (hown : OwnM w B v ps) (v2 : Value) (qs : List Mg) (hx : a.eval x = v2) (h2 : SlM w v2 qs) (hn2 : qs = [] → v2 = .slice none 0 0 ∨ ∃ ad c, v2 = .slice (some ad) 0 c) (hlen : ps.length + qs.length ≤ 100000) (hbase : B ≤ w.heap.size)
    (h : ∀ v' w', OwnM w' B v' (ps ++ qs) → w.grownBy w' v.ownBlock → Fr w.heap.size v v' → wpList Tryz.prog ops Q rest (a.put o.dst v') w') : wpList Tryz.prog ops Q (o :: rest) a w := by
  obtain ⟨i0, hi, hz0, hz1, hz2⟩ := info_parts Tryz.infoMz
  obtain ⟨b, off, cap, a2, e, ha, hc, hl⟩ := h2
  have hcase : (v2 = .slice none 0 0 ∧ qs = []) ∨ ∃ ad, v2 = .slice (some ad) qs.length cap ∧ (0 < qs.length → ad = ⟨b, off, none⟩) := by
    rcases Nat.eq_zero_or_pos qs.length with h0 | h0
    · have hq : qs = [] := List.length_eq_zero_iff.1 h0
      rcases hn2 hq with h1 | ⟨ad, c, h1⟩
      · exact .inl ⟨h1, hq⟩
      · rw [e] at h1
        injection h1 with e1 e2 e3
        exact .inr ⟨ad, by rw [e, e1], fun h3 => by omega⟩
    · exact .inr ⟨⟨b, off, none⟩, by rw [e, ha h0], fun _ => rfl⟩
  rcases hcase with ⟨rfl, rfl⟩ | ⟨ad, rfl, had⟩
  · refine wpList_append_own_none hgd s x 37 ho B 48 i0 20 Tryz.underlying37 hi v ps.length (flatG Mg.list ps) hs hown hx ?_
    exact h v w (by rw [List.append_nil]; exact hown) (grownRefl _ _) fun k hk => .inl hk
  · refine wpList_append_own_at _ hgd s x 37 ho B 48 i0 _ 20 208 Tryz.underlying37 hi hz0 hz1 hz2 rfl (by decide) v ps.length (flatG Mg.list ps) hs hown ad qs.length cap (flatG Mg.list qs) hx (flatG_len kM qs) (fun j u hu => ?_) (flatG_all Mg.one' qs) (by unfold maxLen; omega) (by omega) hbase ?_
    · have hj := (List.getElem?_eq_some_iff.1 hu).1
      rw [flatG_len kM] at hj
      have h0 : 0 < qs.length := by rcases Nat.eq_zero_or_pos qs.length with h0 | h0; rw [h0] at hj; omega; exact h0
      rw [had h0, addr_add']
      have hlt : j / 20 < qs.length := Nat.div_lt_of_lt_mul (by rw [Nat.mul_comm]; exact hj)
      have hat := hc (j / 20) qs[j / 20] (List.getElem?_eq_getElem hlt)
      have hfl : ∀ u', (Mg.list qs[j / 20])[j % 20]? = some u' → (flatG Mg.list qs)[j / 20 * 20 + j % 20]? = some u' := fun u' h' => flatG_at kM qs _ _ (List.getElem?_eq_getElem hlt) _ _ h'
      have hm : j % 20 < (Mg.list qs[j / 20]).length := by rw [kM]; exact Nat.mod_lt _ (by decide)
      have h1 := hfl _ (List.getElem?_eq_getElem hm)
      rw [show j / 20 * 20 + j % 20 = j by omega, hu] at h1
      have h2 := hat (j % 20) _ (List.getElem?_eq_getElem hm)
      rw [← Option.some.inj h1] at h2
      rw [show off + j / 20 * 20 + j % 20 = off + j by omega] at h2
      exact h2
    · intro v' w' ho' hg _ hat
      refine h v' w' ?_ hg fun k hk => ?_
      · show World.ownsRow _ _ _ _ _ _ _
        rw [flatG_append, List.length_append]; exact ho'
      · rcases hat with e | e
        · exact .inl (e ▸ hk)
        · rw [e] at hk; cases hk; exact .inr (Nat.le_refl _)
theorem own_typ {w : World} {B k : Nat} {v : Value} {l : List Mg} (h : OwnM w B v l) (hk : v.ownBlock = some k) : B ≤ k ∧ ∃ cur, w.heap[k]? = some (.cells cur 48 (0, 0)) := by
  refine ⟨(h.lt k hk).1, ?_⟩
  rcases h.2 with ⟨rfl, _⟩ | ⟨g, cap, cur, rfl, hb, hg, _⟩
  · cases hk
  · injection hk with hk
    subst hk
    exact ⟨cur, hg⟩
theorem msg_not_cmd {w : World} {k : Nat} {cur : Array Value} (h : w.heap[k]? = some (.cells cur 48 (0, 0))) : ∀ c fz, w.heap[k]? ≠ some (.cells c 42 fz) := fun c fz e => by
  rw [h] at e
  injection e with e
  injection e with _ e
  exact absurd e (by decide)
theorem right_short {m : Ms} (h : rightM m = true) : m.short 1024 := by
  have ho := (right_own h).2.2.2.2.2
  have hf : ∀ {t : Int} {l : List C7}, fullB t l = true → l.length ≤ 1024 := fun h => by
    unfold fullB setB at h
    simp only [Bool.and_eq_true, decide_eq_true_eq] at h
    exact h.2.1.1
  have hs : ∀ {l : List C7}, setB l = true → l.length ≤ 1024 := fun h => by
    unfold setB at h
    simp only [Bool.and_eq_true, decide_eq_true_eq] at h
    exact h.1.1
  have hn : ∀ {t : Int} {l : List C7}, noneB t l = true → l.length ≤ 1024 := fun h => by
    unfold noneB at h
    simp only [Bool.and_eq_true, decide_eq_true_eq] at h
    omega
  unfold ownB at ho
  split at ho
  · simp only [Bool.and_eq_true] at ho
    have h2 := ho.2.2.2
    unfold noneAF noneL at h2
    simp at h2
    exact ⟨hf ho.1, hn h2.1, hn h2.2⟩
  · split at ho
    · simp only [Bool.and_eq_true] at ho
      have h2 := ho.2.2.2.2
      unfold noneAF noneL at h2
      simp at h2
      exact ⟨hf ho.1, hn h2.1, hn h2.2⟩
    · split at ho
      · simp only [Bool.and_eq_true, Bool.or_eq_true] at ho
        refine ⟨hs ho.2.1, ?_, ?_⟩
        · rcases ho.2.2.2.2.1 with h | h
          · exact hn h
          · exact hf h
        · rcases ho.2.2.2.2.2 with h | h
          · exact hn h
          · exact hf h
      · split at ho
        · simp only [Bool.and_eq_true] at ho
          have h2 := ho.2.2.2.2
          unfold noneAF noneL at h2
          simp at h2
          exact ⟨hf ho.1, hn h2.1, hn h2.2⟩
        · split at ho
          · simp only [Bool.and_eq_true] at ho
            have h2 := ho.1
            unfold noneVAF noneL at h2
            simp at h2
            exact ⟨hn h2.1, hn h2.2.1, hn h2.2.2⟩
          · simp only [Bool.and_eq_true] at ho
            have h2 := ho.1
            unfold noneVAF noneL at h2
            simp at h2
            exact ⟨hn h2.1, hn h2.2.1, hn h2.2.2⟩
structure Lm (w : World) (B b : Nat) (g : Gs) (v : Value) (ls : List Ms) : Prop where
  ow : OwnM w B v (mgs ls)
  nt : ∀ k, v.ownBlock = some k → ¬ TL b g k
  at' : ∀ x ∈ ls, x.atC B w
  sh : ∀ x ∈ ls, x.short 1024
theorem Lm.nil (w : World) (B b : Nat) (g : Gs) : Lm w B b g (.slice none 0 0) [] := ⟨OwnG.nil _ _ _ _ _, fun k e => (by cases e), by simp, by simp⟩
section
variable {w w' : World} {B q b n : Nat} {nd N : Int} {g g' : Gs} {v v' : Value} {ls : List Ms}
theorem Lm.on (h : Lm w B b g v ls) (hb : Below w.heap.size w w') : Lm w' B b g v ls := ⟨OwnG.on h.ow hb, h.nt, fun x hx => (h.at' x hx).on hb, h.sh⟩
theorem Lm.sl (h : Lm w B b g v ls) : SlM w v (mgs ls) := OwnG.slG kM h.ow
theorem Lm.act (h : Lm w B b g v ls) (hL : Ld w B q b n nd N g) (ht : Tch (TL b g) w w') (hk : ∀ k, TL b g' k → TL b g k ∨ w.heap.size ≤ k) : Lm w' B b g' v ls :=
  ⟨own_tch h.ow ht h.nt, fun k e hT => by
    rcases hk k hT with h1 | h1
    · exact h.nt k e h1
    · have := (h.ow.lt k e).2; omega, fun x hx => (h.at' x hx).tch ht hL.no, h.sh⟩
theorem Lm.other {u u' : Value} {l2 : List Ms} (h : Lm w B b g v ls) {S : Nat → Prop} (ht : Tch S w w') (hS : ∀ k, S k → B ≤ k ∧ ∃ cur, w.heap[k]? = some (.cells cur 48 (0, 0))) (hap : ∀ k, v.ownBlock = some k → ¬ S k) : Lm w' B b g v ls :=
  ⟨own_tch h.ow ht hap, h.nt, fun x hx => (h.at' x hx).tch ht fun k hk => ⟨(hS k hk).1, by obtain ⟨_, cur, hc⟩ := hS k hk; exact msg_not_cmd hc⟩, h.sh⟩
theorem Ld.beside (h : Ld w B q b n nd N g) {S : Nat → Prop} (ht : Tch S w w') (hS : ∀ k, S k → B ≤ k ∧ ∃ cur, w.heap[k]? = some (.cells cur 48 (0, 0))) (hap : ∀ k, S k → ¬ TL b g k) : Ld w' B q b n nd N g := by
  refine h.tch ht (fun hq => ?_) (fun k hk => ⟨(hS k hk).1, by obtain ⟨_, cur, hc⟩ := hS k hk; exact msg_not_cmd hc⟩) fun k hk hs => hap k hs hk
  obtain ⟨_, cur, hc⟩ := hS q hq
  have := h.lq.ob
  rw [hc] at this
  injection this with e
  injection e with _ e
  exact absurd e (by decide)
theorem Lm.more {l2 : List Ms} (h : Lm w B b g v ls) (hL : Ld w B q b n nd N g) (ho : OwnM w' B v' (mgs ls ++ mgs l2)) (hg : w.grownBy w' v.ownBlock) (hf : Fr w.heap.size v v') (hA : ∀ x ∈ l2, x.atC B w) (hS : ∀ x ∈ l2, x.short 1024) : Lm w' B b g v' (ls ++ l2) ∧ Tch (fun k => v.ownBlock = some k) w w' := by
  have hT : Tch (fun k => v.ownBlock = some k) w w' := Tch.ofGrown hg fun k e => e
  refine ⟨⟨by unfold mgs at ho ⊢; rw [List.map_append]; exact ho, fun k e hT => ?_, fun x hx => ?_, fun x hx => ?_⟩, hT⟩
  · rcases hf k e with h1 | h1
    · exact h.nt k h1 hT
    · have := hL.lt k hT; omega
  · have hno : ∀ k, v.ownBlock = some k → B ≤ k ∧ ∀ cur fz, w.heap[k]? ≠ some (.cells cur 42 fz) := fun k e => ⟨(own_typ h.ow e).1, by obtain ⟨_, cur, hc⟩ := own_typ h.ow e; exact msg_not_cmd hc⟩
    rcases List.mem_append.1 hx with hx | hx
    · exact (h.at' x hx).tch hT hno
    · exact (hA x hx).tch hT hno
  · rcases List.mem_append.1 hx with hx | hx
    · exact h.sh x hx
    · exact hS x hx
theorem Lm.len (h : Lm w B b g v ls) : ∃ a cap, v = .slice a ls.length cap := by
  obtain ⟨_, _, cap, a, e, _⟩ := h.sl
  exact ⟨a, cap, by rw [e]; unfold mgs; rw [List.length_map]⟩
end
theorem out_facts {nd N : Int} {ls : List Ms} {l : List An} (h : ls.map Ms.an = l) (ho : OutA nd N l) (hN : 3 ≤ N ∧ N ≤ 9) : (ls.length = 0 ∨ (ls.length : Int) = N) ∧ ∀ (k : Nat) y, ls[k]? = some y → rightM y = true ∧ y.m.tt = (k : Int) ∧ y.m.fr = nd := by
  have hl : ls.length = l.length := by rw [← h, List.length_map]
  refine ⟨?_, fun k y hy => ?_⟩
  · rcases ho with rfl | ⟨h1, _⟩
    · exact .inl hl
    · right; omega
  · have hk : l[k]? = some y.an := by rw [← h, List.getElem?_map, hy]; rfl
    rcases ho with rfl | ⟨_, h2⟩
    · cases hk
    · exact h2 k _ hk
theorem out_an {ls : List Ms} {l : List An} {E : An → Prop} (h : ls.map Ms.an = l) (hs : ∀ o ∈ l, o.so = 7 → E o) : ∀ y ∈ ls, y.m.so = 7 → E y.an := fun y hy h7 => hs y.an (by rw [← h]; exact List.mem_map.2 ⟨y, hy, rfl⟩) h7
end Go.Proofs.YtplodoindppleaaGreat

import Derived.Test.YtbcmhnaiabifjaaHRPromZm
import Derived.Test.YtbcmhnaiabifjaaHChooseZm
import Derived.Test.YtbcmhnaiabifjaaG24
namespace Go.Proofs.Ytbcmhnaiabifjaa
set_option linter.unusedVariables false
open Go.RowKit
open Go.Lib (hid)
def RChooseP (w : World) (n : Int) (ls : List Ms) (e : Ending) (w' : World) : Prop := ∃ r : Sv, e = .returned (.tuple #[.int .i64 (choF n ls).k, .agg (varr (choF n ls).t r), .int .i64 (choF n ls).e]) ∧ Sl w' r.v (choF n ls).l ∧ Below w.heap.size w w'
theorem RChooseP.of {w w' : World} {n : Int} {ls : List Ms} {c : Cho} {r : Sv} (h : choF n ls = c) (hs : Sl w' r.v c.l) (hb : Below w.heap.size w w') : RChooseP w n ls (.returned (.tuple #[.int .i64 c.k, .agg (varr c.t r), .int .i64 c.e])) w' := by
  subst h; exact ⟨r, rfl, hs, hb⟩
def BestI (ls : List Ms) (k j : Nat) : Prop := (k = 0 ∧ j = 0) ∨ (j < k ∧ ∃ x, ls[j]? = some x ∧ ((accF (ls.take k) = none ∧ x.m.ab = 0) ∨ (accF (ls.take k) = some x ∧ 0 < x.m.ab)))
theorem BestI.step {ls : List Ms} {k j : Nat} {x y : Ms} (h : BestI ls k j) (hx : ls[j]? = some x) (hy : ls[k]? = some y) (h0 : 0 ≤ y.m.ab) : BestI ls (k + 1) (if x.m.ab < y.m.ab then k else j) := by
  rcases h with ⟨rfl, rfl⟩ | ⟨hjk, z, hz, hc⟩
  · rw [hx] at hy
    obtain rfl := Option.some.inj hy
    rw [if_neg (by omega)]
    refine .inr ⟨by omega, x, hx, ?_⟩
    rw [acc_next hx]
    show (accS none x = none ∧ _) ∨ (accS none x = some x ∧ _)
    unfold accS
    by_cases h : 0 < x.m.ab
    · exact .inr ⟨by simp [h], h⟩
    · exact .inl ⟨by simp [h], by omega⟩
  · rw [hx] at hz
    obtain rfl := Option.some.inj hz
    by_cases hlt : x.m.ab < y.m.ab
    · rw [if_pos hlt]
      refine .inr ⟨by omega, y, hy, .inr ⟨?_, ?_⟩⟩
      · rw [acc_next hy]
        rcases hc with ⟨h1, h2⟩ | ⟨h1, h2⟩
        · rw [h1]; unfold accS; simp only; rw [if_pos (by omega)]
        · rw [h1]; unfold accS; simp only; rw [if_pos hlt]
      · rcases hc with ⟨h1, h2⟩ | ⟨h1, h2⟩ <;> omega
    · rw [if_neg hlt]
      refine .inr ⟨by omega, x, hx, ?_⟩
      rw [acc_next hy]
      rcases hc with ⟨h1, h2⟩ | ⟨h1, h2⟩
      · rw [h1]; unfold accS; simp only; rw [if_neg (by omega)]; exact .inl ⟨rfl, h2⟩
      · rw [h1]; unfold accS; simp only; rw [if_neg hlt]; exact .inr ⟨rfl, h2⟩
theorem BestI.at {ls : List Ms} {k j : Nat} (h : BestI ls k j) (hk : k ≤ ls.length) (h0 : 0 < ls.length) : j < ls.length := by
  rcases h with ⟨rfl, rfl⟩ | ⟨h, _⟩ <;> omega
theorem BestI.end {ls : List Ms} {j : Nat} {x : Ms} (h : BestI ls ls.length j) (h0 : 0 < ls.length) (hx : ls[j]? = some x) : (accF ls = none ∧ x.m.ab = 0) ∨ (accF ls = some x ∧ 0 < x.m.ab) := by
  rcases h with ⟨h1, _⟩ | ⟨_, z, hz, hc⟩
  · omega
  · rw [hx] at hz
    obtain rfl := Option.some.inj hz
    rw [List.take_length] at hc
    exact hc
end Go.Proofs.Ytbcmhnaiabifjaa
namespace Go.Proofs.Ytbcmhnaiabifjaa
set_option linter.unusedVariables false
open Go.RowKit
open Go.Lib (hid)
def pick (b : Nat → Bool) : Nat → List Ms → List Ms
  | _, [] => []
  | k, m :: l => if b k = true then m :: pick b (k + 1) l else pick b (k + 1) l
theorem pick_sub {b : Nat → Bool} : ∀ {l : List Ms} {k : Nat}, (pick b k l).Sublist l
  | [], k => List.Sublist.refl _
  | m :: l, k => by
    unfold pick
    split
    · exact List.Sublist.cons_cons _ pick_sub
    · exact List.Sublist.cons _ pick_sub
theorem pick_snoc {b : Nat → Bool} {y : Ms} : ∀ {l : List Ms} {k : Nat}, pick b k (l ++ [y]) = pick b k l ++ if b (k + l.length) = true then [y] else []
  | [], k => by
    simp only [List.nil_append, List.length_nil, Nat.add_zero, pick]
  | m :: l, k => by
    rw [List.cons_append]
    unfold pick
    rw [pick_snoc (l := l) (k := k + 1)]
    have e : k + 1 + l.length = k + (m :: l).length := by rw [List.length_cons]; omega
    rw [e]
    split <;> simp
theorem count_sub {p : Ms → Bool} {q l : List Ms} (h : q.Sublist l) : l.countP p + q.length ≤ q.countP p + l.length := by
  induction h with
  | slnil => simp
  | cons a h ih => rw [List.countP_cons, List.length_cons]; split <;> omega
  | cons_cons a h ih => rw [List.countP_cons, List.countP_cons, List.length_cons, List.length_cons]; omega
theorem count_two {p r : Ms → Bool} : ∀ (l : List Ms), (∀ x ∈ l, ¬ (p x = true ∧ r x = true)) → l.countP p + l.countP r ≤ l.length
  | [], h => by simp
  | m :: l, h => by
    have ih := count_two l fun x hx => h x (List.mem_cons_of_mem _ hx)
    have := h m List.mem_cons_self
    rw [List.countP_cons, List.countP_cons, List.length_cons]
    rcases hp : p m with _ | _ <;> rcases hr : r m with _ | _ <;> simp_all <;> omega
structure Row (n : Nat) (c : C7) (l : List Ms) : Prop where
  len : l.length = n
  so : ∀ x ∈ l, x.m.so = 4
  rt : ∀ x ∈ l, rightM x = true
  cm : ∀ x ∈ l, x.m.c = c
  bal : ∀ x ∈ l, x.m.bal = 9
  fr : ∀ (k : Nat) x, l[k]? = some x → x.m.fr = (k : Int)
theorem Row.nodup {n : Nat} {c : C7} {l : List Ms} (h : Row n c l) : (l.map fun x => x.m.fr).Pairwise (· ≠ ·) := by
  rw [List.pairwise_iff_getElem]
  intro i j hi hj hij
  rw [List.length_map] at hi hj
  rw [List.getElem_map, List.getElem_map, h.fr i _ (List.getElem?_eq_getElem hi), h.fr j _ (List.getElem?_eq_getElem hj)]
  omega
theorem fr_lt {n : Nat} {c : C7} {l : List Ms} (h : Row n c l) {x : Ms} (hx : x ∈ l) : x.m.fr < (n : Int) := by
  obtain ⟨k, hk⟩ := List.getElem?_of_mem hx
  have := (List.getElem?_eq_some_iff.1 hk).1
  rw [h.fr k x hk, ← h.len]; omega
theorem row_prom {n : Nat} {c : C7} {l q : List Ms} (h : Row n c l) (hq : q.Sublist l) (h3 : 3 ≤ n) (h9 : n ≤ 9) (hc : clI (n : Int) ≤ (q.length : Int)) : promB (n : Int) q = true := by
  have hr : rightB (n : Int) = true := by unfold rightB; simp; omega
  have hcl : 2 ≤ clI (n : Int) := by unfold clI; rw [if_pos (by omega)]; omega
  have hm := fun x (hx : x ∈ q) => hq.subset hx
  unfold promB
  rw [hr, decide_eq_true hc, Bool.true_and, Bool.true_and, Bool.and_eq_true]
  constructor
  · rw [okAll_true]
    intro k x hx
    have hxq := List.mem_of_getElem? hx
    refine okM_true ?_ ?_ (fr_lt h (hm x hxq)) ?_
    · unfold mayB; rw [h.so x (hm x hxq), h.rt x (hm x hxq)]; rfl
    · have : hdC q = c := by
        unfold hdC
        rcases q with _ | ⟨y, t⟩
        · simp at hx
        · exact h.cm y (hm y List.mem_cons_self)
      rw [this, h.cm x (hm x hxq)]
      exact C7.same_iff.2 rfl
    · rw [List.any_eq_false]
      intro y hy
      have hp := (h.nodup.sublist (hq.map fun x => x.m.fr))
      rw [List.pairwise_iff_getElem] at hp
      rw [List.mem_take_iff_getElem] at hy
      obtain ⟨j, hj, rfl⟩ := hy
      have hk := (List.getElem?_eq_some_iff.1 hx)
      have := hp j k (by rw [List.length_map]; omega) (by rw [List.length_map]; exact hk.1) (by omega)
      rw [List.getElem_map, List.getElem_map, hk.2] at this
      simpa using this
  · exact ball_yes fun f hf m hm' _ => by rw [h.bal m (hm m hm'), h.bal f (hm f (List.mem_of_find?_eq_some hf))]
theorem row_nos {n : Nat} {c : C7} {l q : List Ms} (h : Row n c l) (hq : q.Sublist l) : q.find? isS = none := find_miss fun x hx => by
  unfold isS; rw [h.so x (hq.subset hx)]; rfl
theorem acc_zero : ∀ {q : List Ms}, (∀ x ∈ q, x.m.ab = 0) → accF q = none := fun {q} h => by
  unfold accF
  induction q with
  | nil => rfl
  | cons m l ih =>
    rw [List.foldl_cons]
    have : accS none m = none := by unfold accS; simp only; rw [if_neg (by rw [h m List.mem_cons_self]; omega)]
    rw [this]
    exact ih fun x hx => h x (List.mem_cons_of_mem _ hx)
theorem fast_meet {n q : Nat} (h3 : 3 ≤ n) (h9 : n ≤ 9) (hq : clI (n : Int) ≤ (q : Int)) (hn : q ≤ n) : 0 < faI (n : Int) - ((n : Int) - q) ∧ 2 * ((n : Int) - faI n) < q ∧ neI (n : Int) (q : Int) = faI (n : Int) - ((n : Int) - q) := by
  have h : 3 ≤ (n : Int) ∧ (n : Int) ≤ 9 := by omega
  have hf : faI (n : Int) = (3 * (n : Int) + 3) / 4 := by unfold faI; rw [if_pos h]
  have hc : clI (n : Int) = (n : Int) / 2 + 1 := by unfold clI; rw [if_pos h]
  have he : neI (n : Int) (q : Int) = (3 * (n : Int) + 3) / 4 - ((n : Int) - q) := by unfold neI; rw [if_pos ⟨h.1, h.2, by omega, by omega⟩]
  rw [hf, he]
  rw [hc] at hq
  refine ⟨?_, ?_, rfl⟩ <;> omega
theorem fast_left {n : Nat} {c : C7} {l q : List Ms} {f : Ms} (h : Row n c l) (hq : q.Sublist l) (h3 : 3 ≤ n) (h9 : n ≤ 9) (hc : clI (n : Int) ≤ (q.length : Int)) (hab : ∀ x ∈ l, x.m.ab = 0) (hfl : ∀ x ∈ l, x.m.fl = false) (hft : validB f.m.ft = true) (hv : faI (n : Int) ≤ (votesF l f : Int)) :
    choF (n : Int) q = ⟨2, f.m.ft, f.f, 0⟩ := by
  have hm := fun x (hx : x ∈ q) => hq.subset hx
  have hlen : q.length ≤ n := by rw [← h.len]; exact hq.length_le
  obtain ⟨g1, g2, g3⟩ := fast_meet h3 h9 hc hlen
  have hcq : (votesF l f : Int) + q.length ≤ votesF q f + n := by
    have := count_sub (p := fun x => sameF x f) hq
    rw [h.len] at this
    unfold votesF; omega
  have hvq : neI (n : Int) (q.length : Int) ≤ (votesF q f : Int) := by rw [g3]; omega
  have hflag : flagB q = false := by
    unfold flagB; rw [List.any_eq_false]; intro x hx; rw [hfl x (hm x hx)]; decide
  obtain ⟨y, hy, hys⟩ : ∃ y ∈ q, sameF y f = true := by
    have : 0 < votesF q f := by omega
    unfold votesF at this
    rw [List.countP_pos_iff] at this
    exact this
  have same_eq : ∀ {x : Ms}, sameF x f = true → x.m.ft = f.m.ft ∧ x.f = f.f := fun {x} hx => by
    unfold sameF sameB at hx
    simp only [Bool.and_eq_true, decide_eq_true_eq] at hx
    exact hx
  have votes_eq : ∀ {x : Ms}, sameF x f = true → votesF q x = votesF q f := fun {x} hx => by
    obtain ⟨e1, e2⟩ := same_eq hx
    unfold votesF sameF
    rw [e1, e2]
  have hhas : hasV (n : Int) q y = true := by
    unfold hasV
    rw [(same_eq hys).1, hft, votes_eq hys]
    simpa using hvq
  rcases hd : decF (n : Int) q with _ | z
  · exfalso
    unfold decF at hd
    rw [if_neg (by rw [hflag]; decide)] at hd
    exact List.find?_eq_none.1 hd y hy hhas
  · have hz := decF_mem hd
    have hzv : hasV (n : Int) q z = true := by
      unfold decF at hd
      rw [if_neg (by rw [hflag]; decide)] at hd
      exact List.find?_some hd
    have hzs : sameF z f = true := by
      rcases e : sameF z f with _ | _
      · exfalso
        unfold hasV at hzv
        simp only [Bool.and_eq_true, decide_eq_true_eq] at hzv
        have h2 := count_two (p := fun x => sameF x f) (r := fun x => sameF x z) q (fun x hx hh => by
          obtain ⟨e1, e2⟩ := same_eq hh.1
          have h4 := hh.2
          unfold sameF sameB at h4 e
          simp only [Bool.and_eq_true, decide_eq_true_eq] at h4
          rw [← h4.1, ← h4.2, e1, e2] at e
          simp at e)
        have h5 := hzv.2
        rw [g3] at h5
        unfold votesF at h5 hvq
        rw [g3] at hvq
        omega
      · rfl
    unfold choF
    rw [if_pos (row_prom h hq h3 h9 hc), row_nos h hq]
    show (match accF q with | some m => _ | none => _) = _
    rw [acc_zero fun x hx => hab x (hm x hx)]
    show (match decF (n : Int) q with | some m => _ | none => _) = _
    rw [hd]
    show (⟨2, z.m.ft, z.f, 0⟩ : Cho) = _
    rw [(same_eq hzs).1, (same_eq hzs).2]
theorem acc_le' : ∀ (q : List Ms) (b : Option Ms) (z : Ms), q.foldl accS b = some z → (∀ x ∈ q, x.m.ab ≤ z.m.ab) ∧ (∀ x, b = some x → x.m.ab ≤ z.m.ab)
  | [], b, z, h => ⟨by simp, fun x hx => by rw [hx] at h; obtain rfl := Option.some.inj h; exact Int.le_refl _⟩
  | m :: q, b, z, h => by
    obtain ⟨h1, h2⟩ := acc_le' q _ z h
    have key : m.m.ab ≤ z.m.ab ∧ ∀ x, b = some x → x.m.ab ≤ z.m.ab := by
      rcases b with _ | y
      · refine ⟨?_, fun x hx => by cases hx⟩
        by_cases h0 : 0 < m.m.ab
        · exact h2 m (by unfold accS; simp only; rw [if_pos h0])
        · have h3 : 0 < z.m.ab := by
            have : ∀ (q : List Ms) (b : Option Ms) (z : Ms), (∀ x, b = some x → 0 < x.m.ab) → q.foldl accS b = some z → 0 < z.m.ab := by
              intro q
              induction q with
              | nil => intro b z hb h; exact hb z h
              | cons m q ih =>
                intro b z hb h
                refine ih _ z (fun x hx => ?_) h
                unfold accS at hx
                rcases b with _ | y
                · simp only at hx
                  split at hx
                  · obtain rfl := Option.some.inj hx; assumption
                  · cases hx
                · simp only at hx
                  split at hx
                  · rename_i hh; obtain rfl := Option.some.inj hx; have := hb y rfl; omega
                  · obtain rfl := Option.some.inj hx; exact hb _ rfl
            exact this (m :: q) none z (fun x hx => by cases hx) h
          omega
      · by_cases h0 : y.m.ab < m.m.ab
        · have := h2 m (by unfold accS; simp only; rw [if_pos h0])
          exact ⟨this, fun x hx => by obtain rfl := Option.some.inj hx; omega⟩
        · have := h2 y (by unfold accS; simp only; rw [if_neg h0])
          exact ⟨by omega, fun x hx => by obtain rfl := Option.some.inj hx; exact this⟩
    refine ⟨fun x hx => ?_, key.2⟩
    rcases List.mem_cons.1 hx with rfl | hx
    · exact key.1
    · exact h1 x hx
theorem acc_some' : ∀ (q : List Ms) (b : Option Ms), (b.isSome = true ∨ ∃ x ∈ q, 0 < x.m.ab) → (q.foldl accS b).isSome = true
  | [], b, h => by rcases h with h | ⟨x, hx, _⟩; exact h; simp at hx
  | m :: q, b, h => by
    refine acc_some' q _ ?_
    rcases b with _ | y
    · rcases h with h | ⟨x, hx, h0⟩
      · cases h
      · rcases List.mem_cons.1 hx with rfl | hx
        · left; unfold accS; simp only; rw [if_pos h0]; rfl
        · exact .inr ⟨x, hx, h0⟩
    · left; unfold accS; simp only; split <;> rfl
theorem bound_left {n : Nat} {c : C7} {l q : List Ms} {b t : Int} {cs : List C7} (h : Row n c l) (hq : q.Sublist l) (h3 : 3 ≤ n) (h9 : n ≤ 9) (hc : clI (n : Int) ≤ (q.length : Int)) (hb : 1 ≤ b) (hA : ∀ x ∈ l, b ≤ x.m.ab → x.m.xt = t ∧ x.a = cs) (hv : clI (n : Int) ≤ (l.countP (fun x => decide (b ≤ x.m.ab)) : Int)) :
    choF (n : Int) q = ⟨1, t, cs, 0⟩ := by
  have hm := fun x (hx : x ∈ q) => hq.subset hx
  have hs := count_sub (p := fun x => decide (b ≤ x.m.ab)) hq
  rw [h.len] at hs
  have hcl : clI (n : Int) = (n : Int) / 2 + 1 := by unfold clI; rw [if_pos (by omega)]
  obtain ⟨y, hy, hyb⟩ : ∃ y ∈ q, decide (b ≤ y.m.ab) = true := by
    have : 0 < q.countP (fun x => decide (b ≤ x.m.ab)) := by omega
    rw [List.countP_pos_iff] at this
    exact this
  have hyb' := of_decide_eq_true hyb
  obtain ⟨z, hz⟩ := Option.isSome_iff_exists.1 (acc_some' q none (.inr ⟨y, hy, by omega⟩))
  have hz' : accF q = some z := hz
  have hzb := (acc_le' q none z hz).1 y hy
  obtain ⟨e1, e2⟩ := hA z (hm z (acc_mem hz')) (by omega)
  unfold choF
  rw [if_pos (row_prom h hq h3 h9 hc), row_nos h hq]
  show (match accF q with | some m => _ | none => _) = _
  rw [hz']
  show (⟨1, z.m.xt, z.a, 0⟩ : Cho) = _
  rw [e1, e2]
end Go.Proofs.Ytbcmhnaiabifjaa
namespace Go.Proofs.Ytbcmhnaiabifjaa
set_option linter.unusedVariables false
open Go.RowKit
open Go.Lib (hid)
theorem Try.infoMz' : (Try.prog.info? 49).map (fun i => (i.zero, i.size, i.bytes)) = some (some (.agg zM.arr), 20, 208) := by kernel_rfl
theorem wpList_append_ms {w : World} {ops : Array Oper} {rest : List Oper} {o : Oper} {a : Act} {Q : Exit → Act → World → Prop} (hgd : o.guard = none) (s x : Operand) (ho : o.op = .call { callee := .builtin .append, args := #[s, x], argTypes := #[22, 22] })
    (B : Nat) (v : Value) (ps : List Mg) (hs : a.eval s = v) (hown : OwnG Mg.list 20 49 w B v ps) (v2 : Value) (qs : List Mg) (hx : a.eval x = v2) (h2 : SlG Mg.list 20 w v2 qs) (hn2 : qs = [] → v2 = .slice none 0 0 ∨ ∃ ad c, v2 = .slice (some ad) 0 c) (hlen : ps.length + qs.length ≤ 1000000) (hbase : B ≤ w.heap.size)
    (h : ∀ v' w', OwnG Mg.list 20 49 w' B v' (ps ++ qs) → w.grownBy w' v.ownBlock → wpList Try.prog ops Q rest (a.put o.dst v') w') : wpList Try.prog ops Q (o :: rest) a w := by
  obtain ⟨i0, hi, hz0, hz1, hz2⟩ := info_parts Try.infoMz'
  obtain ⟨b, off, cap, a2, e, ha, hc, hl⟩ := h2
  have hcase : (v2 = .slice none 0 0 ∧ qs = []) ∨ ∃ ad, v2 = .slice (some ad) qs.length cap ∧ (0 < qs.length → ad = ⟨b, off, none⟩) := by
    rcases Nat.eq_zero_or_pos qs.length with h0 | h0
    · have hq : qs = [] := List.length_eq_zero_iff.1 h0
      rcases hn2 hq with h1 | ⟨ad, c, h1⟩
      · exact .inl ⟨h1, hq⟩
      · rw [e] at h1
        injection h1 with e1 e2 e3
        exact .inr ⟨ad, by rw [e, e1], fun h3 => by omega⟩
    · exact .inr ⟨⟨b, off, none⟩, by rw [e, ha h0], fun _ => rfl⟩
  rcases hcase with ⟨rfl, rfl⟩ | ⟨ad, rfl, had⟩
  · refine wpList_append_own_none hgd s x 22 ho B 49 i0 20 Try.underlying22 hi v ps.length (flatG Mg.list ps) hs hown hx ?_
    exact h v w (by rw [List.append_nil]; exact hown) (grownRefl _ _)
  · refine wpList_append_own _ hgd s x 22 ho B 49 i0 _ 20 208 Try.underlying22 hi hz0 hz1 hz2 rfl (by decide) v ps.length (flatG Mg.list ps) hs hown ad qs.length cap (flatG Mg.list qs) hx (flatG_len kM qs) (fun j u hu => ?_) (flatG_all Mg.one' qs) (by unfold maxLen; omega) (by omega) hbase ?_
    · have hj := (List.getElem?_eq_some_iff.1 hu).1
      rw [flatG_len kM] at hj
      have h0 : 0 < qs.length := by rcases Nat.eq_zero_or_pos qs.length with h0 | h0; rw [h0] at hj; omega; exact h0
      rw [had h0, addr_add']
      have hlt : j / 20 < qs.length := Nat.div_lt_of_lt_mul (by rw [Nat.mul_comm]; exact hj)
      have hat := hc (j / 20) qs[j / 20] (List.getElem?_eq_getElem hlt)
      have hfl : ∀ u', (Mg.list qs[j / 20])[j % 20]? = some u' → (flatG Mg.list qs)[j / 20 * 20 + j % 20]? = some u' := fun u' h' => flatG_at kM qs _ _ (List.getElem?_eq_getElem hlt) _ _ h'
      have hm : j % 20 < (Mg.list qs[j / 20]).length := by rw [kM]; exact Nat.mod_lt _ (by decide)
      have h1 := hfl _ (List.getElem?_eq_getElem hm)
      rw [show j / 20 * 20 + j % 20 = j by omega, hu] at h1
      have h2 := hat (j % 20) _ (List.getElem?_eq_getElem hm)
      rw [← Option.some.inj h1] at h2
      rw [show off + j / 20 * 20 + j % 20 = off + j by omega] at h2
      exact h2
    · intro v' w' ho' hg _
      refine h v' w' ?_ hg
      show World.ownsRow _ _ _ _ _ _ _
      rw [flatG_append, List.length_append]; exact ho'
theorem pick_congr {b c : Nat → Bool} : ∀ {l : List Ms} {k : Nat}, (∀ j, k ≤ j → j < k + l.length → b j = c j) → pick b k l = pick c k l
  | [], k, h => rfl
  | m :: l, k, h => by
    unfold pick
    rw [h k (Nat.le_refl _) (by rw [List.length_cons]; omega), pick_congr (l := l) (k := k + 1) fun j h1 h2 => h j (by omega) (by rw [List.length_cons]; omega)]
theorem pick_next {b : Nat → Bool} {ls : List Ms} {k : Nat} {y : Ms} (hy : ls[k]? = some y) (β : Bool) : pick (fun j => if j = k then β else b j) 0 (ls.take (k + 1)) = pick b 0 (ls.take k) ++ if β = true then [y] else [] := by
  have hk := (List.getElem?_eq_some_iff.1 hy).1
  have hl : (ls.take k).length = k := by rw [List.length_take]; omega
  rw [List.take_add_one, hy]
  show pick _ 0 (ls.take k ++ [y]) = _
  rw [pick_snoc, hl, Nat.zero_add, if_pos rfl]
  congr 1
  exact pick_congr fun j _ h2 => by rw [hl] at h2; rw [if_neg (by omega)]
set_option maxHeartbeats 16000000 in
set_option maxRecDepth 100000 in
theorem cSome {v : Value} {ls : List Ms} {w : World} (bits : Int) (hb16 : 0 ≤ bits ∧ bits ≤ 65535) (h : SlM w v (mgs ls)) (hl : ls.length ≤ 1000) : Calls Try.prog 15 #[v, .int .u16 bits] w fun e w' => ∃ (b : Nat → Bool) (g : Option Addr) (gn gc : Nat), e = .returned (.slice g gn gc) ∧ OwnM w' w.heap.size (.slice g gn gc) (mgs (pick b 0 ls)) ∧ Below w.heap.size w w' := by
  have HLL := hid hl
  obtain ⟨b, o, cap, a, rfl, ha, hc, hb⟩ := h
  have hlm : (mgs ls).length = ls.length := by unfold mgs; rw [List.length_map]
  rw [hlm] at ha hb ⊢
  skip
  have HCC := hid hc
  obtain ⟨m, hm⟩ : ∃ m, m = ls.length := ⟨_, rfl⟩
  rw [← hm] at ha hb hl ⊢
  have HN := hid hm
  clear hm hc hlm
  go_enter Try.func15, Try.ntmps15
  go_wp2_with fail
  go_loopw [5, 6] (fun s5 i wr => ∃ (k : Nat) (g : Option Addr) (gn gc : Nat) (b : Nat → Bool), k ≤ m ∧ i = .int .i64 k ∧ s5 = .slice g gn gc ∧ Hid (OwnM wr w.heap.size (.slice g gn gc) (mgs (pick b 0 (ls.take k)))) ∧ Hid (Below w.heap.size w wr)) (fun _ i _ => m - (RowKit.intOf i).toNat)
  case atStart => exact ⟨0, none, 0, 0, fun _ => false, Nat.zero_le _, rfl, rfl, hid (OwnG.nil _ _ _ _ _), hid (Below.refl _ _)⟩
  case round =>
    obtain ⟨k, g, gn, gc, bb, hk, rfl, rfl, HO, HB⟩ := hrel
    by_cases hlt : k < m
    · as_aux_lemma =>
        have hlti : ((k : Int) < m) := by omega
        obtain rfl := ha (by omega)
        obtain ⟨y, hy⟩ : ∃ y, ls[k]? = some y := ⟨ls[k]'(by rw [← HN.out]; exact hlt), List.getElem?_eq_getElem (by rw [← HN.out]; exact hlt)⟩
        have hbw := hb (by omega)
        have HC : Hid (wr.rangeAt b (o + k * 20) y.m.list) := hid ((HCC.out.on HB.out fun _ => hbw) k y.m (at_mgs hy))
        have HY := hid hy
        clear hy hbw
        have hk1 : k ≤ 1000 := by omega
        have tk1 : Hid (0 = 0) := hid rfl
        have tk2 : Hid (0 = 0) := hid rfl
        have hpl : (mgs (pick bb 0 (ls.take k))).length ≤ 1000 := by unfold mgs; rw [List.length_map]; refine Nat.le_trans pick_sub.length_le ?_; rw [List.length_take]; omega
        have HPL := hid hpl
        clear hpl
        go_wp2_with (first
          | ((with_reducible refine loadMl (x := ?lx2) (b := ?lb2) (o := ?lo2) y.m ?lg2 ?lp2 ?lxx2 ?lc2 ?_); (case lg2 => rfl); (case lp2 => rfl); (case lxx2 => rfl); (case lc2 => exact HC.out))
          | (clear tk1; (with_reducible refine wpList_bsM (x := ?ux1) y.m ?ug1 ?uo1 ?ue1 ?uh1); (case ug1 => rfl); (case uo1 => rfl); (case ue1 => rfl); intro W3 hO hB hW; have HO3 := hid hO; have HB3 : Hid (Below w.heap.size w W3) := hid (HB.out.trans (hB.mono HB.out.size)); have HG3 := hid (OwnG.on HO.out hB); clear hO hB hW)
          | (clear tk2; at_builtin; refine wpList_append_ms rfl _ _ rfl w.heap.size _ (mgs (pick bb 0 (ls.take k))) rfl HG3.out _ [y.m] rfl (OM.sl (m := y.m) HO3.out 1) (fun h => absurd h (by simp)) (by have := HPL.out; show (mgs (pick bb 0 (ls.take k))).length + 1 ≤ 1000000; omega) HB3.out.size ?_; intro v5 w5 ho5 hg5; obtain ⟨g5, c5, n5, rfl, hn5⟩ := OwnG.asSlice ho5; have HO5 := hid ho5; have HB5 := hid (HB3.out.grown hg5 HB3.out.size (fun q hq => (HG3.out.lt q hq).1)); clear ho5 hg5 hn5)
          | fail)
        · go_roundw
          case rel => exact ⟨k + 1, g5, n5, c5, fun j => if j = k then true else bb j, by omega, by go_num, rfl, hid (by have := HO5.out; rw [pick_next HY.out, if_pos rfl]; unfold mgs at this ⊢; rw [List.map_append]; exact this), HB5⟩
          case measure => first | omega | (simp [RowKit.intOf]; omega)
        · go_roundw
          case rel => exact ⟨k + 1, g, gn, gc, fun j => if j = k then false else bb j, by omega, by go_num, rfl, hid (by have := HO.out; rw [pick_next HY.out, if_neg (by decide), List.append_nil]; exact this), HB⟩
          case measure => first | omega | (simp [RowKit.intOf]; omega)
    · as_aux_lemma =>
        have hlti : ¬ ((k : Int) < m) := by omega
        have HE : Hid (ls.take k = ls) := hid (by rw [show k = m by omega, HN.out, List.take_length])
        go_wp2_with fail
        go_ret
        exact ⟨bb, g, gn, gc, rfl, by have := HO.out; rwa [HE.out] at this, HB.out⟩
end Go.Proofs.Ytbcmhnaiabifjaa

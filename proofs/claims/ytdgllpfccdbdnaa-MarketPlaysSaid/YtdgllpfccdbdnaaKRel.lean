/- A book as a list and its two sides: what each act tells of them is the same. -/
import Derived.Test.YtdgllpfccdbdnaaKMath
namespace Go.Proofs.Ytdgllpfccdbdnaa
set_option linter.unusedVariables false
set_option linter.unusedSimpArgs false

/-- A list, as orders came, and its two sides. -/
structure Rel (L bs ss : List Od) : Prop where
  ok : ∀ o ∈ L, (o.s = 0 ∨ o.s = 1) ∧ okO o.s o
  un : UniqI L
  e0 : sideF 0 L = bs
  e1 : sideF 1 L = ss
  len : L.length ≤ 8
theorem Rel.nil : Rel [] [] [] := ⟨fun o h => by simp at h, List.Pairwise.nil, rfl, rfl, by simp⟩
theorem Rel.mem0 {L bs ss : List Od} (h : Rel L bs ss) {x : Od} : x ∈ bs ↔ x ∈ L ∧ x.s = 0 := by rw [← h.e0]; exact mem_side L
theorem Rel.mem1 {L bs ss : List Od} (h : Rel L bs ss) {x : Od} : x ∈ ss ↔ x ∈ L ∧ x.s = 1 := by rw [← h.e1]; exact mem_side L
theorem Rel.un0 {L bs ss : List Od} (h : Rel L bs ss) : UniqI bs := by rw [← h.e0]; exact uniq_side L h.un
theorem Rel.un1 {L bs ss : List Od} (h : Rel L bs ss) : UniqI ss := by rw [← h.e1]; exact uniq_side L h.un
theorem Rel.lens {L bs ss : List Od} (h : Rel L bs ss) : bs.length + ss.length = L.length := by
  rw [← h.e0, ← h.e1]; exact len_side L fun x hx => (h.ok x hx).1
theorem Rel.any {L bs ss : List Od} (h : Rel L bs ss) (id : Int) : L.any (isI id) = (bs.any (isI id) || ss.any (isI id)) := by
  rw [Bool.eq_iff_iff, Bool.or_eq_true, List.any_eq_true, List.any_eq_true, List.any_eq_true]
  constructor
  · rintro ⟨x, hx, hi⟩
    rcases (h.ok x hx).1 with e | e
    · exact .inl ⟨x, h.mem0.2 ⟨hx, e⟩, hi⟩
    · exact .inr ⟨x, h.mem1.2 ⟨hx, e⟩, hi⟩
  · rintro (⟨x, hx, hi⟩ | ⟨x, hx, hi⟩)
    · exact ⟨x, (h.mem0.1 hx).1, hi⟩
    · exact ⟨x, (h.mem1.1 hx).1, hi⟩
theorem find_at {l : List Od} {id : Int} (h : l.any (isI id) = true) : ∃ o, l[l.findIdx (isI id)]? = some o ∧ o.i = id ∧ o ∈ l := by
  have hlt := (idxO_any h).2
  refine ⟨l[l.findIdx (isI id)], List.getElem?_eq_getElem hlt, ?_, List.getElem_mem hlt⟩
  have := List.findIdx_getElem (w := hlt)
  simpa [isI] using this
theorem rm_none {l : List Od} {id : Int} (h : ∀ x ∈ l, x.i ≠ id) : rmI id l = l := List.filter_eq_self.2 fun x hx => by have := h x hx; simp [isI, this]
theorem se_none {l : List Od} {id q : Int} (h : ∀ x ∈ l, x.i ≠ id) : l.map (seI id q) = l := by
  conv => rhs; rw [← List.map_id l]
  apply List.map_congr_left; intro z hz
  unfold seI; rw [if_neg (h z hz)]; rfl
theorem none_any {l : List Od} {id : Int} (h : l.any (isI id) = false) : ∀ x ∈ l, x.i ≠ id := fun x hx e => by
  rw [List.any_eq_false] at h
  exact h x hx (by simp [isI, e])
/-- The document's Cancel, Amend: the error, what is left, the list. -/
def refCancel (L : List Od) (id : Int) : Int × Int × List Od :=
  if L.any (isI id) then (0, ((L[L.findIdx (isI id)]?).getD default).n, less L (L.findIdx (isI id))) else (5, 0, L)
def refAmend (L : List Od) (id q : Int) : Int × Int × List Od :=
  if q < 1 then (7, 0, L) else if 1048576 < q then (1, 0, L)
  else if L.any (isI id) then (0, q, if ((L[L.findIdx (isI id)]?).getD default).n < q then less L (L.findIdx (isI id)) ++ [{ (L[L.findIdx (isI id)]?).getD default with n := q }] else L.set (L.findIdx (isI id)) { (L[L.findIdx (isI id)]?).getD default with n := q })
  else (5, 0, L)
def Agree (r : Int × Int × List Od) (s : Res) : Prop := s.1 = r.1 ∧ s.2.1 = [] ∧ s.2.2.1 = r.2.1 ∧ Rel r.2.2 s.2.2.2.1 s.2.2.2.2
theorem Rel.one {L bs ss : List Od} (h : Rel L bs ss) {id : Int} (ha : L.any (isI id) = true) : ∃ o, L[L.findIdx (isI id)]? = some o ∧ o.i = id ∧ o ∈ L ∧
    ((o.s = 0 ∧ bs.any (isI id) = true ∧ bs[bs.findIdx (isI id)]? = some o ∧ ∀ x ∈ ss, x.i ≠ id) ∨ (o.s = 1 ∧ bs.any (isI id) = false ∧ ss.any (isI id) = true ∧ ss[ss.findIdx (isI id)]? = some o ∧ ∀ x ∈ bs, x.i ≠ id)) := by
  obtain ⟨o, ho, hi, hm⟩ := find_at ha
  refine ⟨o, ho, hi, hm, ?_⟩
  rcases (h.ok o hm).1 with e | e
  · left
    have hb : bs.any (isI id) = true := List.any_eq_true.2 ⟨o, h.mem0.2 ⟨hm, e⟩, by simp [isI, hi]⟩
    obtain ⟨x, hx, hxi, hxm⟩ := find_at hb
    obtain rfl : x = o := uniq_mem h.un (h.mem0.1 hxm).1 hm (by rw [hxi, hi])
    refine ⟨e, hb, hx, fun y hy ey => ?_⟩
    have := uniq_mem h.un (h.mem1.1 hy).1 hm (by rw [ey, hi])
    subst this
    have := (h.mem1.1 hy).2; omega
  · right
    have hb : ss.any (isI id) = true := List.any_eq_true.2 ⟨o, h.mem1.2 ⟨hm, e⟩, by simp [isI, hi]⟩
    obtain ⟨x, hx, hxi, hxm⟩ := find_at hb
    obtain rfl : x = o := uniq_mem h.un (h.mem1.1 hxm).1 hm (by rw [hxi, hi])
    have hn : ∀ y ∈ bs, y.i ≠ id := fun y hy ey => by
      have := uniq_mem h.un (h.mem0.1 hy).1 hm (by rw [ey, hi])
      subst this
      have := (h.mem0.1 hy).2; omega
    refine ⟨e, ?_, hb, hx, hn⟩
    rw [List.any_eq_false]
    intro y hy
    have := hn y hy
    simp [isI, this]
/-- Without an order. -/
theorem Rel.rm {L bs ss : List Od} (h : Rel L bs ss) (id : Int) : Rel (rmI id L) (rmI id bs) (rmI id ss) :=
  ⟨fun o ho => h.ok o (List.mem_filter.1 ho).1, uniq_filter h.un _, by rw [side_filter, h.e0], by rw [side_filter, h.e1], Nat.le_trans (List.length_filter_le _ _) h.len⟩
theorem Rel.se {L bs ss : List Od} (h : Rel L bs ss) (id q : Int) (h1 : 1 ≤ q) (h2 : q ≤ 1048576) : Rel (L.map (seI id q)) (bs.map (seI id q)) (ss.map (seI id q)) := by
  have hf : ∀ x, (seI id q x).s = x.s ∧ (seI id q x).p = x.p ∧ (seI id q x).i = x.i := fun x => by unfold seI; split <;> exact ⟨rfl, rfl, rfl⟩
  refine ⟨fun o ho => ?_, uniq_map h.un fun x => (hf x).2.2, by rw [side_map fun x => ⟨(hf x).1, (hf x).2.1⟩, h.e0], by rw [side_map fun x => ⟨(hf x).1, (hf x).2.1⟩, h.e1], by rw [List.length_map]; exact h.len⟩
  obtain ⟨x, hx, rfl⟩ := List.mem_map.1 ho
  have := h.ok x hx
  rw [(hf x).1]
  refine ⟨this.1, ?_⟩
  have h3 := this.2
  unfold seI
  split
  · exact ⟨rfl, h3.2.1, h3.2.2.1, h3.2.2.2.1, h1, h2⟩
  · exact h3
theorem Rel.put {L bs ss : List Od} (h : Rel L bs ss) {o : Od} (hs : o.s = 0 ∨ o.s = 1) (ho : okO o.s o) (hi : ∀ x ∈ L, x.i ≠ o.i) (hl : L.length < 8) :
    Rel (L ++ [o]) (if o.s = 0 then insG bs (bs.findIdx (isW o)) o else bs) (if o.s = 1 then insG ss (ss.findIdx (isW o)) o else ss) := by
  refine ⟨fun x hx => ?_, uniq_snoc h.un hi, ?_, ?_, by rw [List.length_append, List.length_singleton]; omega⟩
  · rcases List.mem_append.1 hx with hx | hx
    · exact h.ok x hx
    · simp at hx; subst hx; exact ⟨hs, ho⟩
  · rw [side_snoc, h.e0]
    split
    · rename_i e
      rw [ins_eq e bs (fun x hx => (h.mem0.1 hx).2) (by rw [← h.e0]; exact sorted_side L)]
    · rfl
  · rw [side_snoc, h.e1]
    split
    · rename_i e
      rw [ins_eq e ss (fun x hx => (h.mem1.1 hx).2) (by rw [← h.e1]; exact sorted_side L)]
    · rfl
theorem rel_cancel {L bs ss : List Od} (h : Rel L bs ss) (id : Int) : Agree (refCancel L id) (cancelF bs ss id) := by
  rcases ha : L.any (isI id) with _ | _
  · have := h.any id
    rw [ha] at this
    have h2 := (Bool.or_eq_false_iff.1 this.symm)
    unfold Agree refCancel cancelF
    rw [ha, h2.1, h2.2]
    exact ⟨rfl, rfl, rfl, h⟩
  · obtain ⟨o, ho, hi, hm, ⟨e, h1, h2, h3⟩ | ⟨e, h1, h2, h3, h4⟩⟩ := h.one ha
    · unfold Agree refCancel cancelF
      rw [ha, h1, h2, ho]
      refine ⟨rfl, rfl, rfl, ?_⟩
      have := h.rm o.i
      simp only [if_true]
      rw [less_rm h.un ho, less_rm h.un0 h2]
      rw [rm_none (l := ss) (by rw [hi]; exact h3)] at this
      exact this
    · unfold Agree refCancel cancelF
      rw [ha, h1, h2, h3, ho]
      refine ⟨rfl, rfl, rfl, ?_⟩
      have := h.rm o.i
      simp only [if_true]
      rw [less_rm h.un ho, less_rm h.un1 h3]
      rw [rm_none (l := bs) (by rw [hi]; exact h4)] at this
      exact this
theorem rel_amend {L bs ss : List Od} (h : Rel L bs ss) (id q : Int) : Agree (refAmend L id q) (amendF bs ss id q) := by
  unfold Agree refAmend amendF
  by_cases hq : q < 1
  · rw [if_pos hq, if_pos hq]; exact ⟨rfl, rfl, rfl, h⟩
  rw [if_neg hq, if_neg hq]
  by_cases hq2 : 1048576 < q
  · rw [if_pos hq2, if_pos hq2]; exact ⟨rfl, rfl, rfl, h⟩
  rw [if_neg hq2, if_neg hq2]
  rcases ha : L.any (isI id) with _ | _
  · have := h.any id
    rw [ha] at this
    have h2 := (Bool.or_eq_false_iff.1 this.symm)
    rw [h2.1, h2.2]
    exact ⟨rfl, rfl, rfl, h⟩
  · obtain ⟨o, ho, hi, hm, hw⟩ := h.one ha
    have hlen : (rmI o.i L).length < 8 := by
      have h1 := less_len (List.getElem?_eq_some_iff.1 ho).1
      rw [less_rm h.un ho] at h1
      have := h.len; omega
    have hok := (h.ok o hm).2
    have hnn : ∀ x ∈ rmI o.i L, x.i ≠ o.i := fun x hx e => by have := (List.mem_filter.1 hx).2; simp [isI, e] at this
    rcases hw with ⟨e, h1, h2, h3⟩ | ⟨e, h1, h2, h3, h4⟩
    · rw [h1, h2, ho]
      refine ⟨rfl, rfl, rfl, ?_⟩
      simp only [if_true, Option.getD_some]
      unfold amendG
      by_cases hm2 : o.n < q
      · rw [if_pos hm2, if_pos hm2, less_rm h.un ho, less_rm h.un0 h2]
        have := (h.rm o.i).put (o := { o with n := q }) (.inl e) (⟨rfl, hok.2.1, hok.2.2.1, hok.2.2.2.1, (by omega : 1 ≤ q), (by omega : q ≤ 1048576)⟩ : okO o.s { o with n := q }) hnn hlen
        simp only [e] at this
        rw [rm_none (l := ss) (by rw [hi]; exact h3)] at this
        rw [e]
        simpa using this
      · rw [if_neg hm2, if_neg hm2, set_se q h.un ho, set_se q h.un0 h2]
        have := h.se o.i q (by omega) (by omega)
        rw [se_none (l := ss) (by rw [hi]; exact h3)] at this
        exact this
    · rw [h1, h2, h3, ho]
      refine ⟨rfl, rfl, rfl, ?_⟩
      simp only [if_true, Option.getD_some]
      unfold amendG
      by_cases hm2 : o.n < q
      · rw [if_pos hm2, if_pos hm2, less_rm h.un ho, less_rm h.un1 h3]
        have := (h.rm o.i).put (o := { o with n := q }) (.inr e) (⟨rfl, hok.2.1, hok.2.2.1, hok.2.2.2.1, (by omega : 1 ≤ q), (by omega : q ≤ 1048576)⟩ : okO o.s { o with n := q }) hnn hlen
        simp only [e] at this
        rw [rm_none (l := bs) (by rw [hi]; exact h4)] at this
        rw [e]
        simpa using this
      · rw [if_neg hm2, if_neg hm2, set_se q h.un ho, set_se q h.un1 h3]
        have := h.se o.i q (by omega) (by omega)
        rw [se_none (l := bs) (by rw [hi]; exact h4)] at this
        exact this

/-- The document's Place, under way: its copy, what it filled, what is left. -/
structure Plc (s t p n : Int) (own oth : List Od) (id : Int) (Lc : List Od) (fs : List Fl) (left : Int) : Prop where
  ok : ∀ o ∈ Lc, (o.s = 0 ∨ o.s = 1) ∧ okO o.s o
  un : UniqI Lc
  own : sideF s Lc = own
  fi : fillG s p n oth = (fs ++ (fillG s p left (sideF t Lc)).1, (fillG s p left (sideF t Lc)).2)
  wo : ∀ gs, withoutG oth (fs ++ gs) = withoutG (sideF t Lc) gs
  l0 : 0 ≤ left
  l1 : left ≤ n
  ids : ∀ x ∈ Lc, x.i ≠ id
  len : Lc.length ≤ 8
theorem Plc.start {L bs ss : List Od} (h : Rel L bs ss) {s t p n id : Int} (hn : 0 ≤ n) (hi : ∀ x ∈ L, x.i ≠ id) : Plc s t p n (sideF s L) (sideF t L) id L [] n :=
  ⟨h.ok, h.un, rfl, rfl, fun gs => rfl, hn, Int.le_refl _, hi, h.len⟩
/-- One that meets: it gives, and goes, or stays with less. -/
theorem Plc.step {s t p n id : Int} {own oth Lc : List Od} {fs : List Fl} {left : Int} (h : Plc s t p n own oth id Lc fs left) (hst : s ≠ t) {k : Nat} {x : Od} {xs : List Od} (hx : sideF t Lc = x :: xs) (hk : Lc[k]? = some x) (hm : meetsB s p x.p = true) (hl : 0 < left) :
    1 ≤ x.n ∧ x.n ≤ 1048576 ∧
    (x.n - min left x.n = 0 → Plc s t p n own oth id (less Lc k) (fs ++ [⟨x.i, x.p, min left x.n⟩]) (left - min left x.n) ∧ sideF t (less Lc k) = xs) ∧
    (x.n - min left x.n ≠ 0 → Plc s t p n own oth id (Lc.set k { x with n := x.n - min left x.n }) (fs ++ [⟨x.i, x.p, min left x.n⟩]) (left - min left x.n) ∧ left - min left x.n = 0 ∧ (sideF t (Lc.set k { x with n := x.n - min left x.n })).length = (sideF t Lc).length) := by
  have hxm : x ∈ Lc := List.mem_of_getElem? hk
  have hxt : x.s = t := ((mem_side (s := t) (y := x) Lc).1 (by rw [hx]; simp)).2
  have hok := (h.ok x hxm).2
  unfold okO at hok
  have hun := uniq_side (s := t) Lc h.un
  rw [hx] at hun
  have hnx := (List.pairwise_cons.1 hun).1
  have hno : ∀ y ∈ own, y.i ≠ x.i := fun y hy e => by
    rw [← h.own] at hy
    obtain ⟨h1, h2⟩ := (mem_side Lc).1 hy
    have := uniq_mem h.un h1 hxm e
    subst this
    exact hst (h2.symm.trans hxt)
  have hfill : fillG s p left (x :: xs) = (⟨x.i, x.p, min left x.n⟩ :: (fillG s p (left - min left x.n) xs).1, (fillG s p (left - min left x.n) xs).2) := by
    rw [fillG, if_neg (by rintro (e | e); omega; rw [hm] at e; cases e)]
  have hwo : ∀ gs, withoutG oth ((fs ++ [⟨x.i, x.p, min left x.n⟩]) ++ gs) = if x.n - min left x.n = 0 then withoutG xs gs else withoutG ({ x with n := x.n - min left x.n } :: xs) gs := fun gs => by
    rw [List.append_assoc, h.wo, hx, List.singleton_append, withoutG]
  refine ⟨by omega, by omega, fun hz => ?_, fun hz => ?_⟩
  · rw [less_rm h.un hk]
    have hside : sideF t (rmI x.i Lc) = xs := by
      rw [side_filter, hx]
      have : xs.filter (fun z => !isI x.i z) = xs := rm_none fun y hy e => hnx y hy e.symm
      simp only [List.filter_cons]
      rw [show (!isI x.i x) = false by simp [isI]]
      simpa using this
    refine ⟨⟨fun o ho => h.ok o (List.mem_filter.1 ho).1, uniq_filter h.un _, ?_, ?_, fun gs => ?_, by omega, by have := h.l1; omega, fun y hy => h.ids y (List.mem_filter.1 hy).1, Nat.le_trans (List.length_filter_le _ _) h.len⟩, hside⟩
    · rw [side_filter, h.own]; exact rm_none hno
    · rw [h.fi, hside, hx, hfill]; simp
    · rw [hwo, if_pos hz, hside]
  · have hl0 : left - min left x.n = 0 := by omega
    have hf : ∀ z, (seI x.i (x.n - min left x.n) z).s = z.s ∧ (seI x.i (x.n - min left x.n) z).p = z.p ∧ (seI x.i (x.n - min left x.n) z).i = z.i := fun z => by unfold seI; split <;> exact ⟨rfl, rfl, rfl⟩
    rw [set_se _ h.un hk]
    have hside : sideF t (Lc.map (seI x.i (x.n - min left x.n))) = { x with n := x.n - min left x.n } :: xs := by
      rw [side_map fun z => ⟨(hf z).1, (hf z).2.1⟩, hx, List.map_cons, se_none fun y hy e => hnx y hy e.symm]
      simp
    refine ⟨⟨fun o ho => ?_, uniq_map h.un fun z => (hf z).2.2, ?_, ?_, fun gs => ?_, by omega, by have := h.l1; omega, fun y hy => ?_, by rw [List.length_map]; exact h.len⟩, hl0, by rw [hside, hx]; rfl⟩
    · obtain ⟨z, hz2, rfl⟩ := List.mem_map.1 ho
      have h4 := h.ok z hz2
      rw [(hf z).1]
      refine ⟨h4.1, ?_⟩
      have h3 := h4.2
      unfold seI
      split
      · exact ⟨rfl, h3.2.1, h3.2.2.1, h3.2.2.2.1, (by omega : 1 ≤ x.n - min left x.n), (by omega : x.n - min left x.n ≤ 1048576)⟩
      · exact h3
    · rw [side_map fun z => ⟨(hf z).1, (hf z).2.1⟩, h.own]; exact se_none hno
    · rw [h.fi, hside, hx, hfill, hl0, fillG_zero, fillG_zero]; simp
    · rw [hwo, if_neg hz, hside]
    · obtain ⟨z, hz2, rfl⟩ := List.mem_map.1 hy
      rw [(hf z).2.2]; exact h.ids z hz2
/-- Nothing meets any more, or nothing is left. -/
theorem Plc.done {s t p n id : Int} {own oth Lc : List Od} {fs : List Fl} {left : Int} (h : Plc s t p n own oth id Lc fs left) (hd : left = 0 ∨ sideF t Lc = [] ∨ ∃ x xs, sideF t Lc = x :: xs ∧ meetsB s p x.p = false) :
    (fs, left) = fillG s p n oth ∧ withoutG oth fs = sideF t Lc := by
  have h1 : fillG s p left (sideF t Lc) = ([], left) := by
    rcases hd with rfl | e | ⟨x, xs, e, hm⟩
    · exact fillG_zero _ _ _
    · rw [e]; rfl
    · rw [e, fillG, if_pos (.inr hm)]
  refine ⟨by rw [h.fi, h1]; simp, ?_⟩
  have := h.wo []
  rw [List.append_nil] at this
  rw [this]; cases sideF t Lc <;> simp [withoutG]
end Go.Proofs.Ytdgllpfccdbdnaa

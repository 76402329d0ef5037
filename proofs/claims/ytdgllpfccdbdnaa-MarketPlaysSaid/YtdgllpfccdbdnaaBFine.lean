/- What holds of a book, whatever is done with it: plain lists. -/
import Derived.Test.YtdgllpfccdbdnaaBPlace
namespace Go.Proofs.Ytdgllpfccdbdnaa
set_option linter.unusedVariables false
open Go.RowKit
open Go.Lib (hid)

/-- Whatever is kept by taking the first one, or of the first one, away is kept by fills. -/
theorem without_keeps (P : List Od → Prop) (ht : ∀ x xs, P (x :: xs) → P xs) (hh : ∀ (x : Od) xs n, P (x :: xs) → 1 ≤ n → n ≤ x.n → P ({ x with n := n } :: xs)) : ∀ l fs, fitsQ l fs → P l → P (withoutG l fs)
  | l, [], _, h => by simpa [withoutG] using h
  | [], f :: fs, h, _ => by simp [fitsQ] at h
  | x :: xs, f :: fs, h, hp => by
    simp only [fitsQ] at h
    simp only [withoutG]
    obtain ⟨⟨h1, h2, h3⟩, h4⟩ := h
    split
    · rename_i hz
      rw [if_pos hz] at h4
      exact without_keeps P ht hh xs fs h4 (ht x xs hp)
    · rename_i hz
      rw [if_neg hz] at h4
      exact without_keeps P ht hh _ fs h4 (hh x xs _ hp (by omega) (by omega))
termination_by l fs => fs.length

theorem better_iff0 {a b : Int} : betterB 0 a b = false ↔ a ≤ b := by unfold betterB; simp
theorem better_iff1 {a b : Int} : betterB 1 a b = false ↔ b ≤ a := by unfold betterB; simp
theorem better_trans {s a b c : Int} (h : betterB s b a = false) (k : betterB s c b = false) : betterB s c a = false := by
  unfold betterB at *; split at h <;> simp_all <;> omega
theorem better_asym {s a b : Int} (h : betterB s a b = true) : betterB s b a = false := by
  unfold betterB at *; split at h <;> simp_all <;> omega
theorem better_worse {s a b c : Int} (h : betterB s a b = true) (k : betterB s c b = false) : betterB s c a = false := better_trans (better_asym h) k

theorem mem_ins {l : List Od} {k : Nat} {o y : Od} : y ∈ insG l k o ↔ y = o ∨ y ∈ l := by
  unfold insG
  rw [List.mem_append, List.mem_cons]
  constructor
  · rintro (h | h | h)
    · exact .inr (List.mem_of_mem_take h)
    · exact .inl h
    · exact .inr (List.mem_of_mem_drop h)
  · rintro (h | h)
    · exact .inr (.inl h)
    · rw [← List.take_append_drop k l, List.mem_append] at h
      rcases h with h | h
      · exact .inl h
      · exact .inr (.inr h)
theorem ins_cons_hit {x o : Od} {xs : List Od} (h : isW o x = true) : insG (x :: xs) ((x :: xs).findIdx (isW o)) o = o :: x :: xs := by
  rw [List.findIdx_cons, h]; rfl
theorem ins_cons_miss {x o : Od} {xs : List Od} (h : isW o x = false) : insG (x :: xs) ((x :: xs).findIdx (isW o)) o = x :: insG xs (xs.findIdx (isW o)) o := by
  rw [List.findIdx_cons, h]; rfl
theorem sorted_ins {s : Int} {o : Od} (ho : o.s = s) : ∀ l : List Od, Sorted s l → Sorted s (insG l (l.findIdx (isW o)) o)
  | [], _ => by simp [insG, Sorted]
  | x :: xs, h => by
    unfold Sorted at h
    rw [List.pairwise_cons] at h
    rcases hw : isW o x with _ | _
    · rw [ins_cons_miss hw]
      unfold Sorted
      rw [List.pairwise_cons]
      refine ⟨fun y hy => ?_, sorted_ins ho xs h.2⟩
      rcases mem_ins.1 hy with rfl | hy
      · rw [← ho]; exact hw
      · exact h.1 y hy
    · rw [ins_cons_hit hw]
      have hw' : betterB s o.p x.p = true := ho ▸ hw
      unfold Sorted
      rw [List.pairwise_cons, List.pairwise_cons]
      refine ⟨fun y hy => ?_, h.1, h.2⟩
      rcases List.mem_cons.1 hy with rfl | hy
      · exact better_asym hw'
      · exact better_worse hw' (h.1 y hy)
theorem sum_ins (l : List Od) (k : Nat) (o : Od) : sumO (insG l k o) = sumO l + o.n := by
  unfold insG
  rw [sumO_append, sumO_cons]
  have : sumO l = sumO (l.take k) + sumO (l.drop k) := by rw [← sumO_append, List.take_append_drop]
  omega
theorem mem_less {l : List Od} {k : Nat} {y : Od} (h : y ∈ less l k) : y ∈ l := by
  unfold less at h
  rcases List.mem_append.1 h with h | h
  · exact List.mem_of_mem_take h
  · exact List.mem_of_mem_drop h
theorem sum_less {l : List Od} {k : Nat} {o : Od} (h : l[k]? = some o) : sumO (less l k) = sumO l - o.n := by
  obtain ⟨hlt, rfl⟩ := List.getElem?_eq_some_iff.1 h
  unfold less
  rw [sumO_append]
  have h1 : sumO l = sumO (l.take k) + sumO (l.drop k) := by rw [← sumO_append, List.take_append_drop]
  rw [List.drop_eq_getElem_cons hlt, sumO_cons] at h1
  omega
theorem sorted_less {s : Int} {l : List Od} (h : Sorted s l) (k : Nat) : Sorted s (less l k) := by
  have hs : (less l k).Sublist l := by
    unfold less
    have h2 := List.Sublist.append (List.Sublist.refl (l.take k)) (List.drop_sublist_drop_left l (Nat.le_succ k))
    rwa [List.take_append_drop] at h2
  exact List.Pairwise.sublist hs h
theorem set_p {l : List Od} {k : Nat} {o : Od} (h : l[k]? = some o) (q : Int) : (l.set k { o with n := q }).map (fun x => x.p) = l.map fun x => x.p := by
  apply List.ext_getElem?
  intro j
  rw [List.getElem?_map, List.getElem?_map, List.getElem?_set]
  split
  · rename_i e
    subst e
    obtain ⟨hlt, rfl⟩ := List.getElem?_eq_some_iff.1 h
    rw [if_pos hlt, List.getElem?_eq_getElem hlt]; rfl
  · rfl
theorem sorted_map {s : Int} {l : List Od} : Sorted s l ↔ (l.map fun x => x.p).Pairwise fun a b => betterB s b a = false := by
  unfold Sorted; rw [List.pairwise_map]
theorem sorted_set {s : Int} {l : List Od} (hs : Sorted s l) {k : Nat} {o : Od} (h : l[k]? = some o) (q : Int) : Sorted s (l.set k { o with n := q }) := by
  rw [sorted_map, set_p h, ← sorted_map]; exact hs
theorem sum_set : ∀ {l : List Od} {k : Nat} {o : Od}, l[k]? = some o → ∀ q : Int, sumO (l.set k { o with n := q }) = sumO l - o.n + q
  | [], k, o, h, q => by simp at h
  | x :: xs, 0, o, h, q => by
    simp at h; subst h
    rw [List.set_cons_zero, sumO_cons, sumO_cons]; simp only; omega
  | x :: xs, k + 1, o, h, q => by
    rw [List.set_cons_succ, sumO_cons, sumO_cons, sum_set (by simpa using h) q]; omega
theorem mem_set' {l : List Od} {k : Nat} {o y : Od} (h : y ∈ l.set k o) : y = o ∨ y ∈ l := by
  rcases List.mem_or_eq_of_mem_set h with h | h
  · exact .inr h
  · exact .inl h

/-- A book that may be. -/
structure FineB (bs ss : List Od) : Prop where
  fb : AllO 0 bs
  fs : AllO 1 ss
  gb : Sorted 0 bs
  gs : Sorted 1 ss
  un : ∀ x ∈ bs, ∀ y ∈ ss, x.p < y.p
  len : bs.length + ss.length ≤ 8
theorem FineB.nil : FineB [] [] := ⟨fun o h => by simp at h, fun o h => by simp at h, List.Pairwise.nil, List.Pairwise.nil, fun o h => by simp at h, by simp⟩

/-- What is left of the other side. -/
theorem fill_rest {s p : Int} : ∀ (l : List Od) (left : Int), 0 ≤ left → (∀ x ∈ l, 1 ≤ x.n) → 0 < (fillG s p left l).2 →
    withoutG l (fillG s p left l).1 = l.drop (fillG s p left l).1.length ∧ ∀ x, l[(fillG s p left l).1.length]? = some x → meetsB s p x.p = false
  | [], left, h, _, _ => by simp [fillG, withoutG]
  | x :: xs, left, h, hx, h2 => by
    have h1 := hx x (by simp)
    unfold fillG at h2 ⊢
    split at h2
    · rename_i hc
      rw [if_pos hc]
      simp only at h2
      have hm : meetsB s p x.p = false := hc.resolve_left (by omega)
      refine ⟨by simp [withoutG], fun y hy => ?_⟩
      simp at hy; subst hy; exact hm
    · rename_i hc
      rw [if_neg hc]
      simp only at h2 ⊢
      have hlt : x.n < left := by
        rcases Int.lt_or_le x.n left with h3 | h3
        · exact h3
        · rw [show left - min left x.n = 0 by omega, fillG_zero] at h2
          simp at h2
      have hq : x.n - min left x.n = 0 := by omega
      simp only [withoutG]
      rw [if_pos hq]
      obtain ⟨a, b⟩ := fill_rest xs (left - min left x.n) (by omega) (fun y hy => hx y (by simp [hy])) h2
      refine ⟨by rw [a]; simp, fun y hy => ?_⟩
      simp at hy
      exact b y hy
theorem meets_later {s t p a b : Int} (hst : (s = 0 ∧ t = 1) ∨ (s = 1 ∧ t = 0)) (h : betterB t b a = false) (hm : meetsB s p a = false) : meetsB s p b = false := by
  rcases hst with ⟨rfl, rfl⟩ | ⟨rfl, rfl⟩
  · rw [better_iff1] at h; unfold meetsB at *; simp at *; omega
  · rw [better_iff0] at h; unfold meetsB at *; simp at *; omega
/-- None of the others that are left is met. -/
theorem none_meets {s t p left : Int} {l : List Od} (hst : (s = 0 ∧ t = 1) ∨ (s = 1 ∧ t = 0)) (hs : Sorted t l) (h0 : 0 ≤ left) (hx : ∀ x ∈ l, 1 ≤ x.n) (h : 0 < (fillG s p left l).2) : ∀ y ∈ withoutG l (fillG s p left l).1, meetsB s p y.p = false := by
  obtain ⟨a, b⟩ := fill_rest l left h0 hx h
  rw [a]
  intro y hy
  rcases hd : l.drop (fillG s p left l).1.length with _ | ⟨x, xs⟩
  · rw [hd] at hy; simp at hy
  · have hx0 : l[(fillG s p left l).1.length]? = some x := by
      have := congrArg (fun z => z[0]?) hd
      simpa [List.getElem?_drop] using this
    have hm := b x hx0
    have hso : Sorted t (x :: xs) := by rw [← hd]; exact List.Pairwise.sublist (List.drop_sublist _ _) hs
    rw [hd] at hy
    rcases List.mem_cons.1 hy with rfl | hy
    · exact hm
    · unfold Sorted at hso
      rw [List.pairwise_cons] at hso
      exact meets_later hst (hso.1 y hy) hm

theorem all_ins {s : Int} {l : List Od} {k : Nat} {o : Od} (h : AllO s l) (ho : okO s o) : AllO s (insG l k o) := fun y hy => by
  rcases mem_ins.1 hy with rfl | hy
  · exact ho
  · exact h y hy
theorem all_less {s : Int} {l : List Od} {k : Nat} (h : AllO s l) : AllO s (less l k) := fun y hy => h y (mem_less hy)
theorem sum_bound {s : Int} : ∀ {l : List Od}, AllO s l → 0 ≤ sumO l ∧ sumO l ≤ l.length * 1048576
  | [], _ => by simp [sumO]
  | x :: xs, h => by
    have h1 := h x (by simp)
    have h2 := sum_bound (l := xs) fun y hy => h y (by simp [hy])
    unfold okO at h1
    rw [sumO_cons, List.length_cons]
    omega

/-- What Place does, where it has no error. -/
theorem place_fine {s t : Int} {own oth : List Od} {o : Od} (hst : (s = 0 ∧ t = 1) ∨ (s = 1 ∧ t = 0)) (ho : okO s o) (ha : AllO s own) (hb : AllO t oth) (hsa : Sorted s own) (hsb : Sorted t oth)
    (hun : ∀ x ∈ own, ∀ y ∈ oth, meetsB s x.p y.p = false) (fr : List Fl × Int) (hfr : fr = fillG s o.p o.n oth) :
    (AllO t (withoutG oth fr.1) ∧ Sorted t (withoutG oth fr.1) ∧ ∀ x ∈ own, ∀ y ∈ withoutG oth fr.1, meetsB s x.p y.p = false) ∧
    (0 < fr.2 → ∀ y ∈ withoutG oth fr.1, meetsB s o.p y.p = false) ∧ sumO (withoutG oth fr.1) = sumO oth - sumF fr.1 ∧ sumF fr.1 + fr.2 = o.n ∧ 0 ≤ fr.2 ∧ fr.2 ≤ o.n ∧ fr.1.length ≤ oth.length ∧ (0 < fr.2 → (withoutG oth fr.1).length = oth.length - fr.1.length) := by
  subst hfr
  have hn : 0 ≤ o.n := by unfold okO at ho; omega
  have hx : ∀ x ∈ oth, 1 ≤ x.n ∧ x.n ≤ 1048576 := fun x hx => by have := hb x hx; unfold okO at this; omega
  have hq := fitsQ_fill (s := s) (p := o.p) oth o.n hn hx
  have hw := fits_fill (s := s) (p := o.p) oth o.n hn fun x h => (hx x h).1
  obtain ⟨l1, l2, l3, l4⟩ := fillG_left (s := s) (p := o.p) oth o.n hn fun x h => (hx x h).1
  have hsum : 0 ≤ sumF (fillG s o.p o.n oth).1 := by
    have : ∀ fs : List Fl, (∀ f ∈ fs, 1 ≤ f.q) → 0 ≤ sumF fs := fun fs => by
      induction fs with
      | nil => intro _; simp [sumF]
      | cons f fs ih => intro h; rw [sumF_cons]; have := ih fun g hg => h g (by simp [hg]); have := h f (by simp); omega
    exact this _ l4
  refine ⟨?_, fun h => none_meets hst hsb hn (fun x h => (hx x h).1) h, sum_without _ _ hw, l2, l1, by omega, l3, fun h => by rw [(fill_rest oth o.n hn (fun x h => (hx x h).1) h).1, List.length_drop]⟩
  refine without_keeps (fun l => AllO t l ∧ Sorted t l ∧ ∀ x ∈ own, ∀ y ∈ l, meetsB s x.p y.p = false) ?_ ?_ oth _ hq ⟨hb, hsb, hun⟩
  · rintro x xs ⟨h1, h2, h3⟩
    exact ⟨fun y hy => h1 y (by simp [hy]), (List.pairwise_cons.1 h2).2, fun z hz y hy => h3 z hz y (by simp [hy])⟩
  · rintro x xs n ⟨h1, h2, h3⟩ hn1 hn2
    refine ⟨fun y hy => ?_, ?_, fun z hz y hy => ?_⟩
    · rcases List.mem_cons.1 hy with rfl | hy
      · have := h1 x (by simp); unfold okO at this ⊢; simp only; omega
      · exact h1 y (by simp [hy])
    · unfold Sorted at h2 ⊢
      rw [List.pairwise_cons] at h2 ⊢
      exact h2
    · rcases List.mem_cons.1 hy with rfl | hy
      · exact h3 z hz x (by simp)
      · exact h3 z hz y (by simp [hy])
end Go.Proofs.Ytdgllpfccdbdnaa

import Derived.Test.YtplodoindppleaaGreatLReplyZm
namespace Go.Proofs.YtplodoindppleaaGreat
set_option linter.unusedVariables false
open Go.RowKit
open Go.Lib (hid)
structure GotA (N : Int) (c : C7) (r : An) : Prop where
 ri : rightA r = true
 cc : r.c = c
 fr : 0 ≤ r.fr ∧ r.fr < N
 sh : (ofA r).short 1024
def keyA (r : An) : Int × Int := (r.fr, cntI r.so)
structure InvA (nd N : Int) (sent got : List An) (a : Att) : Prop where
 gt : ∀ r ∈ a.rs, GotA N a.c r ∧ r ∈ got
 so : ∀ r ∈ a.rs, r.so = 1 ∨ r.so = 2 ∨ r.so = 4 ∨ r.so = 6
 di : a.rs.Pairwise fun r s => keyA r ≠ keyA s
 vl : a.vl.length ≤ 1024
 ph : a.ph = 1 ∨ a.ph = 2 ∨ a.ph = 3 ∨ a.ph = 4
 ok : a.ph = 1 ∨ a.ph = 3 → ∀ r ∈ a.rs, (r.so = 1 ∨ r.so = 2) → r.bal = a.bal ∧ r.vt = a.vt
 bl : a.ph = 1 → a.bal = 0
 vo : a.ph = 1 → (votes a : Int) < faI N
 ap : a.ph = 1 → ∃ s ∈ sent, s.so = 0 ∧ s.bal = 0 ∧ s.c = a.c ∧ s.vt = a.vt ∧ s.vl = a.vl
 na : a.ph ≠ 4 → ∀ r ∈ a.rs, r.so ≠ 6
 ac : ∀ r ∈ a.rs, r.so = 6 → r.bal = a.bal
 cl : a.ph = 4 → rightA (mkA nd a.c a.bal 5 a.vt a.vl false 0) = true → ∃ s ∈ sent, s.so = 5 ∧ s.bal = a.bal ∧ s.c = a.c ∧ s.vt = a.vt ∧ s.vl = a.vl
 bb : a.ph ≠ 1 → withinB a.bal 1048576 = true
 cok : a.c.ok = true ∧ inB nd 9 = true
theorem nodup_le : ∀ (n : Nat) (l : List Nat), l.Nodup → (∀ x ∈ l, x < n) → l.length ≤ n
 | 0, l, _, h => by
  rcases l with _ | ⟨x, l⟩
  · exact Nat.le_refl _
  · exact absurd (h x List.mem_cons_self) (Nat.not_lt_zero _)
 | n + 1, l, hd, h => by
  by_cases hm : n ∈ l
  · have h1 := nodup_le n (l.erase n) (hd.erase n) fun x hx => by
     have h2 := (List.Nodup.mem_erase_iff hd).1 hx
     have h3 := h x h2.2
     have := h2.1
     omega
    rw [List.length_erase_of_mem hm] at h1
    omega
  · have := nodup_le n l hd fun x hx => by
     have h3 := h x hx
     have : x ≠ n := fun e => hm (e ▸ hx)
     omega
    omega
theorem InvA.len {nd N : Int} {sent got : List An} {a : Att} (h : InvA nd N sent got a) (hN : N ≤ 9) : a.rs.length ≤ 36 := by
 have h1 := nodup_le 36 (a.rs.map fun r => (r.fr.toNat) + 9 * ((cntI r.so).toNat / 2)) ?_ ?_
 · rwa [List.length_map] at h1
 · rw [List.nodup_iff_pairwise_ne, List.pairwise_map]
   refine List.Pairwise.imp_of_mem ?_ h.di
   intro r s hr hs hk e
   apply hk
   have f1 := (h.gt r hr).1.fr
   have f2 := (h.gt s hs).1.fr
   have c1 : cntI r.so = 1 ∨ cntI r.so = 4 ∨ cntI r.so = 6 := by rcases h.so r hr with h | h | h | h <;> rw [h] <;> decide
   have c2 : cntI s.so = 1 ∨ cntI s.so = 4 ∨ cntI s.so = 6 := by rcases h.so s hs with h | h | h | h <;> rw [h] <;> decide
   unfold keyA
   rcases c1 with c1 | c1 | c1 <;> rcases c2 with c2 | c2 | c2 <;> rw [c1, c2] at e ⊢ <;> simp at e ⊢ <;> omega
 · intro x hx
   obtain ⟨r, hr, rfl⟩ := List.mem_map.1 hx
   have f1 := (h.gt r hr).1.fr
   have c1 : cntI r.so = 1 ∨ cntI r.so = 4 ∨ cntI r.so = 6 := by rcases h.so r hr with h | h | h | h <;> rw [h] <;> decide
   rcases c1 with c1 | c1 | c1 <;> rw [c1] <;> simp <;> omega
end Go.Proofs.YtplodoindppleaaGreat
namespace Go.Proofs.YtplodoindppleaaGreat
set_option linter.unusedVariables false
open Go.RowKit
open Go.Lib (hid)
theorem mk_right {nd : Int} {c : C7} {bal so vt : Int} {vl : List C7} {fl : Bool} (h : rightA (mkA nd c bal so vt vl fl 0) = true) {k : Int} (hk : 0 ≤ k ∧ k < 9) : rightA (mkA nd c bal so vt vl fl k) = true := by
 obtain ⟨h1, h2, h3, h4, h5, h6⟩ := right_own h
 show rightM _ = true
 unfold rightM
 simp only [Bool.and_eq_true]
 refine ⟨h1, h2, ?_, h4, h5, h6⟩
 show inB k 9 = true
 unfold inB
 simp; omega
theorem clos_right {nd : Int} {c : C7} {bal vt : Int} {vl : List C7} (h : rightA (mkA nd c bal 7 vt vl false 0) = true) (hb : withinB bal 1048576 = true) : rightA (mkA nd c bal 5 vt vl false 0) = true := by
 obtain ⟨h1, h2, h3, h4, h5, h6⟩ := right_own h
 show rightM _ = true
 unfold rightM
 simp only [Bool.and_eq_true]
 exact ⟨rfl, h2, h3, hb, h5, h6⟩
theorem rightA_fr {m : An} (h : rightA m = true) : 0 ≤ m.fr ∧ m.fr < 9 := by
 have : inB m.fr 9 = true := (right_own h).2.1
 unfold inB at this
 simp at this
 omega
def OutA (nd N : Int) (l : List An) : Prop := l = [] ∨ (l.length = N.toNat ∧ ∀ (k : Nat) o, l[k]? = some o → rightA o = true ∧ o.tt = (k : Int) ∧ o.fr = nd)
theorem all_mem {nd N : Int} {c : C7} {bal so vt : Int} {vl : List C7} {fl : Bool} {o : An} (h : o ∈ allF nd N c bal so vt vl fl) : ∃ k : Nat, o = mkA nd c bal so vt vl fl k := by
 unfold allF at h
 split at h
 · obtain ⟨k, _, rfl⟩ := List.mem_map.1 h; exact ⟨k, rfl⟩
 · cases h
theorem all_out {nd N : Int} {c : C7} {bal so vt : Int} {vl : List C7} {fl : Bool} (hN : 3 ≤ N ∧ N ≤ 9) : OutA nd N (allF nd N c bal so vt vl fl) := by
 unfold allF
 split
 · rename_i h
   refine .inr ⟨by simp, fun k o ho => ?_⟩
   rw [List.getElem?_map] at ho
   rcases hk : (List.range N.toNat)[k]? with _ | j
   · rw [hk] at ho; cases ho
   · rw [hk] at ho
     obtain ⟨h1, h2⟩ := List.getElem?_eq_some_iff.1 hk
     rw [List.length_range] at h1
     rw [List.getElem_range] at h2
     subst h2
     cases ho
     exact ⟨mk_right h ⟨by omega, by omega⟩, rfl, rfl⟩
 · exact .inl rfl
theorem all_one {nd N : Int} {c : C7} {bal so vt : Int} {vl : List C7} {fl : Bool} (hN : 3 ≤ N ∧ N ≤ 9) (h : rightA (mkA nd c bal so vt vl fl 0) = true) : mkA nd c bal so vt vl fl 0 ∈ allF nd N c bal so vt vl fl := by
 unfold allF
 rw [if_pos h]
 exact List.mem_map.2 ⟨0, List.mem_range.2 (by omega), rfl⟩
def EnA (N : Int) (sent got : List An) (m o : An) : Prop :=
 (m.so = 7 ∧ m.vt = o.vt ∧ m.vl = o.vl) ∨
 (m.so = 1 ∧ (∃ s ∈ sent, s.so = 0 ∧ s.bal = 0 ∧ s.c = m.c ∧ s.vt = o.vt ∧ s.vl = o.vl) ∧ m.bal = 0 ∧ ∃ rs : List An, (∀ r ∈ rs, r ∈ got ∧ rightA r = true ∧ r.so = 1 ∧ r.c = m.c ∧ r.bal = 0 ∧ r.vt = o.vt ∧ r.fl = true) ∧ (rs.map An.fr).Nodup ∧ faI N ≤ rs.length) ∨
 (m.so = 6 ∧ (∃ s ∈ sent, s.so = 5 ∧ s.bal = m.bal ∧ s.c = m.c ∧ s.vt = o.vt ∧ s.vl = o.vl) ∧ ∃ rs : List An, (∀ r ∈ rs, r ∈ got ∧ rightA r = true ∧ r.so = 6 ∧ r.c = m.c ∧ r.bal = m.bal) ∧ (rs.map An.fr).Nodup ∧ clI N ≤ rs.length)
structure ResP (nd N : Int) (sent got : List An) (E : An → Prop) (r : Res) : Prop where
 inv : ∀ a, r.1 = some a → InvA nd N (sent ++ r.2) got a
 out : OutA nd N r.2
 st : ∀ o ∈ r.2, o.so = 7 → E o
theorem InvA.mono {nd N : Int} {sent sent' got got' : List An} {a : Att} (h : InvA nd N sent got a) (hs : ∀ x ∈ sent, x ∈ sent') (hg : ∀ x ∈ got, x ∈ got') : InvA nd N sent' got' a :=
 ⟨fun r hr => ⟨(h.gt r hr).1, hg r (h.gt r hr).2⟩, h.so, h.di, h.vl, h.ph, h.ok, h.bl, h.vo, fun e => (by obtain ⟨s, h1, h2⟩ := h.ap e; exact ⟨s, hs s h1, h2⟩), h.na, h.ac, fun e r => (by obtain ⟨s, h1, h2⟩ := h.cl e r; exact ⟨s, hs s h1, h2⟩), h.bb, h.cok⟩
section
variable {nd N : Int} {sent got : List An} {E : An → Prop} {a : Att}
theorem still_P (h : InvA nd N sent got a) : ResP nd N sent got E (some a, []) :=
 ⟨fun a' e => (by obtain rfl := Option.some.inj e; rw [List.append_nil]; exact h), .inl rfl, fun o ho => (by cases ho)⟩
theorem none_P : ResP nd N sent got E (none, []) := ⟨fun a e => (by cases e), .inl rfl, fun o ho => (by cases ho)⟩
theorem fin_P (hN : 3 ≤ N ∧ N ≤ 9) {t : Int} {l : List C7} (hE : rightA (mkA nd a.c a.bal 7 t l false 0) = true → ∀ o : An, o.vt = t → o.vl = l → E o) : ResP nd N sent got E (finF nd N a t l) :=
 ⟨fun a' e => (by cases e), all_out hN, fun o ho _ => by
  by_cases hr : rightA (mkA nd a.c a.bal 7 t l false 0) = true
  · obtain ⟨k, rfl⟩ := all_mem ho; exact hE hr _ rfl rfl
  · change o ∈ allF nd N a.c a.bal 7 t l false at ho
    unfold allF at ho; rw [if_neg hr] at ho; cases ho⟩
structure Bs (nd N : Int) (got : List An) (a : Att) : Prop where
 gt : ∀ r ∈ a.rs, GotA N a.c r ∧ r ∈ got
 so : ∀ r ∈ a.rs, r.so = 1 ∨ r.so = 2 ∨ r.so = 4 ∨ r.so = 6
 di : a.rs.Pairwise fun r s => keyA r ≠ keyA s
 na : ∀ r ∈ a.rs, r.so ≠ 6
 cok : a.c.ok = true ∧ inB nd 9 = true
theorem InvA.bs (h : InvA nd N sent got a) (hp : a.ph ≠ 4) : Bs nd N got a := ⟨h.gt, h.so, h.di, h.na hp, h.cok⟩
theorem prop_P (hN : 3 ≤ N ∧ N ≤ 9) (h : Bs nd N got a) (hb : withinB a.bal 1048576 = true) {t : Int} {l : List C7} (hl : l.length ≤ 1024) (ex : Bool) : ResP nd N sent got E (propF nd N a t l ex) := by
 refine ⟨fun a' e => ?_, all_out hN, fun o ho h7 => (by obtain ⟨k, rfl⟩ := all_mem ho; cases h7)⟩
 obtain rfl := Option.some.inj e
 have hm : ∀ r ∈ proL a, r ∈ a.rs ∧ r.so = 4 := fun r hr => by
  obtain ⟨h1, h2⟩ := List.mem_filter.1 hr
  exact ⟨h1, by simpa using h2⟩
 refine ⟨fun r hr => h.gt r (hm r hr).1, fun r hr => h.so r (hm r hr).1, h.di.sublist List.filter_sublist, hl, .inr (.inr (.inl rfl)), fun _ r hr hs => ?_, fun e => ?_, fun e => ?_, fun e => ?_, fun _ r hr => ?_, fun r hr hs => ?_, fun e => ?_, fun _ => hb, h.cok⟩
 · have := (hm r hr).2; omega
 · exact absurd (show (3 : Int) = 1 from e) (by decide)
 · exact absurd (show (3 : Int) = 1 from e) (by decide)
 · exact absurd (show (3 : Int) = 1 from e) (by decide)
 · have := (hm r hr).2; omega
 · have := (hm r hr).2; omega
 · exact absurd (show (3 : Int) = 4 from e) (by decide)
theorem clos_P (hN : 3 ≤ N ∧ N ≤ 9) (h : Bs nd N got a) (hb : withinB a.bal 1048576 = true) {t : Int} {l : List C7} (hl : l.length ≤ 1024) : ResP nd N sent got E (closF nd N a t l) := by
 refine ⟨fun a' e => ?_, all_out hN, fun o ho h7 => (by obtain ⟨k, rfl⟩ := all_mem ho; cases h7)⟩
 obtain rfl := Option.some.inj e
 refine ⟨h.gt, h.so, h.di, hl, .inr (.inr (.inr rfl)), fun e => ?_, fun e => ?_, fun e => ?_, fun e => ?_, fun e => absurd rfl e, fun r hr hs => absurd hs (h.na r hr), fun _ hr => ?_, fun _ => hb, h.cok⟩
 · exact absurd (show (4 : Int) = 1 ∨ (4 : Int) = 3 from e) (by decide)
 · exact absurd (show (4 : Int) = 1 from e) (by decide)
 · exact absurd (show (4 : Int) = 1 from e) (by decide)
 · exact absurd (show (4 : Int) = 1 from e) (by decide)
 · exact ⟨_, List.mem_append_right _ (all_one hN hr), rfl, rfl, rfl, rfl, rfl⟩
theorem closAll_P (hN : 3 ≤ N ∧ N ≤ 9) (h : Bs nd N got a) (hb : withinB a.bal 1048576 = true) : ResP nd N sent got E (closAllF nd N a) := by
 unfold closAllF
 split
 · exact clos_P hN h hb (ofL2_len _)
 · exact none_P
theorem free_P (hN : 3 ≤ N ∧ N ≤ 9) (h : Bs nd N got a) (hb : withinB a.bal 1048576 = true) {t : Int} {l : List C7} (hl : l.length ≤ 1024) (e : Int) : ResP nd N sent got E (freeF nd N a t l e) := by
 unfold freeF
 split
 · exact prop_P hN h hb hl false
 · exact none_P
theorem raise_P (hN : 3 ≤ N ∧ N ≤ 9) (h : Bs nd N got a) (hb : withinB a.bal 1048576 = true) : ResP nd N sent got E (raiseF nd N a) := by
 unfold raiseF
 split
 · exact free_P hN h hb (ofL2_len _) _
 · exact none_P
theorem slow_P (hN : 3 ≤ N ∧ N ≤ 9) (h : Bs nd N got a) : ResP nd N sent got E (slowF nd N a) := by
 have h1 : Bs nd N got { a with bal := 1 } := ⟨h.gt, h.so, h.di, h.na, h.cok⟩
 unfold slowF
 split
 · exact closAll_P hN h1 (show withinB 1 1048576 = true by decide)
 · exact raise_P hN h1 (show withinB 1 1048576 = true by decide)
structure RepA (nd N : Int) (got : List An) (a : Att) (m : An) : Prop where
 gt : GotA N a.c m
 mg : m ∈ got
 nh : hasF a m = false
 bl : m.bal = a.bal
theorem add_I (h : InvA nd N sent got a) {m : An} (r : RepA nd N got a m) (hs : m.so = 1 ∨ m.so = 2 ∨ m.so = 4 ∨ m.so = 6) (ho : m.so = 1 ∨ m.so = 2 → m.vt = a.vt) (h6 : m.so = 6 → a.ph = 4) (hv : a.ph = 1 → (votes (a.add m) : Int) < faI N) : InvA nd N sent got (a.add m) := by
 have hm : ∀ {P : An → Prop}, (∀ x ∈ a.rs, P x) → P m → ∀ x ∈ (a.add m).rs, P x := fun hP hPm x hx => by
  rcases List.mem_append.1 hx with hx | hx
  · exact hP x hx
  · rw [List.mem_singleton] at hx; subst hx; exact hPm
 refine ⟨hm h.gt ⟨r.gt, r.mg⟩, hm h.so hs, ?_, h.vl, h.ph, fun e => hm (h.ok e) fun hs => ⟨r.bl, ho hs⟩, h.bl, hv, h.ap, fun e => hm (h.na e) fun h => e (h6 h), hm h.ac fun _ => r.bl, h.cl, h.bb, h.cok⟩
 show List.Pairwise _ (a.rs ++ [m])
 rw [List.pairwise_append]
 refine ⟨h.di, List.pairwise_singleton _ _, fun x hx y hy => ?_⟩
 rw [List.mem_singleton] at hy
 subst hy
 have := r.nh
 unfold hasF at this
 rw [List.any_eq_false] at this
 have := this x hx
 intro e
 unfold keyA at e
 obtain ⟨e1, e2⟩ := Prod.mk.inj e
 exact this (by simp [e1, e2])
theorem add_bs (h : InvA nd N sent got a) {m : An} (r : RepA nd N got a m) (hs : m.so = 1 ∨ m.so = 2 ∨ m.so = 4) (hp : a.ph ≠ 4) : Bs nd N got (a.add m) := by
 have hm : ∀ {P : An → Prop}, (∀ x ∈ a.rs, P x) → P m → ∀ x ∈ (a.add m).rs, P x := fun hP hPm x hx => by
  rcases List.mem_append.1 hx with hx | hx
  · exact hP x hx
  · rw [List.mem_singleton] at hx; subst hx; exact hPm
 refine ⟨hm h.gt ⟨r.gt, r.mg⟩, hm h.so (by omega), ?_, hm (h.na hp) (by omega), h.cok⟩
 show List.Pairwise _ (a.rs ++ [m])
 rw [List.pairwise_append]
 refine ⟨h.di, List.pairwise_singleton _ _, fun x hx y hy => ?_⟩
 rw [List.mem_singleton] at hy
 subst hy
 have := r.nh
 unfold hasF at this
 rw [List.any_eq_false] at this
 have := this x hx
 intro e
 unfold keyA at e
 obtain ⟨e1, e2⟩ := Prod.mk.inj e
 exact this (by simp [e1, e2])
theorem key_nodup {l : List An} {s : Int} (h : l.Pairwise fun r s => keyA r ≠ keyA s) (hs : ∀ r ∈ l, r.so = s) : (l.map An.fr).Nodup := by
 rw [List.nodup_iff_pairwise_ne, List.pairwise_map]
 refine List.Pairwise.imp_of_mem ?_ h
 intro x y hx hy hk e
 apply hk
 unfold keyA
 rw [hs x hx, hs y hy, e]
theorem votes_add {m : An} (h : m.so ≠ 1) : votes (a.add m) = votes a := by
 have hn : ([1] : List Int).contains m.so = false := by simpa using h
 unfold votes okL saidF Att.add
 simp only [List.filter_append, List.filter_cons, hn, List.filter_nil]
 simp
theorem asked_P (hN : 3 ≤ N ∧ N ≤ 9) (h : InvA nd N sent got a) {m : An} (r : RepA nd N got a m) (hs : m.so = 1 ∨ m.so = 2) (hv : m.vt = a.vt) (hp : a.ph = 1) : ResP nd N sent got (EnA N sent got m) (askedF nd N (a.add m)) := by
 have hbs := add_bs h r (by omega) (by rw [hp]; decide)
 unfold askedF
 split
 · rename_i hq
   refine fin_P hN fun _ o e1 e2 => ?_
   have h1 : m.so = 1 := by
    by_cases h1 : m.so = 1
    · exact h1
    · rw [votes_add h1] at hq
      have := h.vo hp
      omega
   have hcc : m.c = a.c := r.gt.cc
   refine .inr (.inl ⟨h1, ?_, r.bl.trans (h.bl hp), (okL (a.add m)).filter An.fl, fun x hx => ?_, ?_, ?_⟩)
   · obtain ⟨s, h1, h2, h3, h4, h5, h6⟩ := h.ap hp
     exact ⟨s, h1, h2, h3, by rw [hcc]; exact h4, by rw [e1]; exact h5, by rw [e2]; exact h6⟩
   · obtain ⟨hx, hf⟩ := List.mem_filter.1 hx
     obtain ⟨hx, hx1⟩ := List.mem_filter.1 hx
     have hx1 : x.so = 1 := by simpa using hx1
     obtain ⟨g1, g2⟩ := hbs.gt x hx
     have hok : x.bal = a.bal ∧ x.vt = a.vt := by
      rcases List.mem_append.1 hx with hx | hx
      · exact h.ok (.inl hp) x hx (.inl hx1)
      · rw [List.mem_singleton] at hx; subst hx; exact ⟨r.bl, hv⟩
     exact ⟨g2, g1.ri, hx1, by rw [hcc]; exact g1.cc, hok.1.trans (h.bl hp), by rw [e1]; exact hok.2, hf⟩
   · refine key_nodup (s := 1) ?_ fun x hx => ?_
     · exact (hbs.di.sublist List.filter_sublist).sublist List.filter_sublist
     · have := (List.mem_filter.1 (List.mem_filter.1 hx).1).2
       simpa using this
   · unfold votes at hq
     rw [List.countP_eq_length_filter] at hq
     exact hq
 · rename_i hq
   split
   · exact slow_P hN hbs
   · exact still_P (add_I h r (by omega) (fun _ => hv) (by omega) (fun _ => by omega))
theorem proposed_P (hN : 3 ≤ N ∧ N ≤ 9) (h : InvA nd N sent got a) {m : An} (r : RepA nd N got a m) (hs : m.so = 1 ∨ m.so = 2) (hv : m.vt = a.vt) (hp : a.ph = 3) {E : An → Prop} : ResP nd N sent got E (proposedF nd N (a.add m)) := by
 have hbs := add_bs h r (by omega) (by rw [hp]; decide)
 have hb : withinB (a.add m).bal 1048576 = true := h.bb (by rw [hp]; decide)
 unfold proposedF
 split
 · exact closAll_P hN hbs hb
 · split
   · exact free_P hN hbs hb (freshL_len _) _
   · split
     · exact raise_P hN hbs hb
     · exact still_P (add_I h r (by omega) (fun _ => hv) (by omega) (fun e => by rw [hp] at e; cases e))
theorem pro_choice {N : Int} {rs : List An} (h : ∀ x ∈ rs, x.so = 4) (he : (choA N rs).e = 0) : (choA N rs).k ≠ 0 := by
 have hf : (rs.map ofA).find? isS = none := by
  rw [List.find?_eq_none]
  intro x hx
  obtain ⟨y, hy, rfl⟩ := List.mem_map.1 hx
  have := h y hy
  unfold isS
  show ¬ decide (y.so = 7) = true
  rw [this]; decide
 unfold choA choF at he ⊢
 split at he
 · rename_i hp
   rw [if_pos hp]
   rw [hf] at he ⊢
   simp only at he ⊢
   split
   · simp
   · split
     · simp
     · split
       · simp
       · rename_i h3 _ h4 hne
         rw [h3, h4] at he
         simp only at he
         rw [if_neg hne] at he
         exact absurd he hne
 · exact absurd he (by decide)
theorem promise_P (hN : 3 ≤ N ∧ N ≤ 9) (h : InvA nd N sent got a) {m : An} (r : RepA nd N got a m) (hs : m.so = 4) {E : An → Prop} : ResP nd N sent got E (promiseF nd N a m) := by
 unfold promiseF
 split
 · exact still_P h
 · rename_i hph
   have hp4 : a.ph ≠ 4 := fun e => hph ⟨by rw [e]; decide, fun h => by rw [e] at h; exact absurd h.1 (by decide)⟩
   have hp1 : a.ph ≠ 1 := fun e => hph ⟨by rw [e]; decide, fun h => by rw [e] at h; exact absurd h.1 (by decide)⟩
   have hbs := add_bs h r (by omega) hp4
   have hb : withinB (a.add m).bal 1048576 = true := h.bb hp1
   have hadd : InvA nd N sent got (a.add m) := add_I h r (by omega) (by omega) (by omega) (fun e => absurd e hp1)
   split
   · exact still_P hadd
   · split
     · rename_i he
       have hk := pro_choice (fun x hx => by have := (List.mem_filter.1 hx).2; simpa using this) he
       have hlen : (choA N (proL (a.add m))).l.length ≤ 1024 := choF_len fun x hx => by
        obtain ⟨y, hy, rfl⟩ := List.mem_map.1 hx
        exact (hbs.gt y (List.mem_filter.1 hy).1).1.sh
       unfold goOnF
       split
       · rename_i h0; exact absurd h0 hk
       · split
         · exact clos_P hN hbs hb hlen
         · split
           · split
             · exact still_P hadd
             · exact prop_P hN hbs hb hlen true
           · exact prop_P hN hbs hb hlen false
     · exact none_P
theorem accepted_P (hN : 3 ≤ N ∧ N ≤ 9) (h : InvA nd N sent got a) {m : An} (r : RepA nd N got a m) (hs : m.so = 6) : ResP nd N sent got (EnA N sent got m) (acceptedF nd N a m) := by
 unfold acceptedF
 split
 · exact still_P h
 · rename_i hph
   have hp : a.ph = 4 := Classical.not_not.1 hph
   have hadd : InvA nd N sent got (a.add m) := add_I h r (by omega) (by omega) (fun _ => hp) (fun e => by rw [hp] at e; exact absurd e (by decide))
   split
   · exact still_P hadd
   · rename_i hq
     refine fin_P hN fun hr o e1 e2 => ?_
     have hcc : m.c = a.c := r.gt.cc
     obtain ⟨s, h1, h2, h3, h4, h5, h6⟩ := h.cl hp (clos_right hr (h.bb (by rw [hp]; decide)))
     refine .inr (.inr ⟨hs, ⟨s, h1, h2, by rw [r.bl]; exact h3, by rw [hcc]; exact h4, by rw [e1]; exact h5, by rw [e2]; exact h6⟩, accL (a.add m), fun x hx => ?_, ?_, by omega⟩)
     · obtain ⟨hx, hx1⟩ := List.mem_filter.1 hx
       have hx1 : x.so = 6 := by simpa using hx1
       obtain ⟨g1, g2⟩ := hadd.gt x hx
       exact ⟨g2, g1.ri, hx1, by rw [hcc]; exact g1.cc, by rw [r.bl]; exact hadd.ac x hx hx1⟩
     · refine key_nodup (s := 6) (hadd.di.sublist List.filter_sublist) fun x hx => ?_
       have := (List.mem_filter.1 hx).2
       simpa using this
theorem reply_P (hN : 3 ≤ N ∧ N ≤ 9) (h : InvA nd N sent got a) {m : An} (hg : GotA N a.c m) (hm : m ∈ got) : ResP nd N sent got (EnA N sent got m) (replyF nd N a m) := by
 unfold replyF
 split
 · rename_i h7
   exact fin_P hN fun _ o e1 e2 => .inl ⟨h7, e1.symm, e2.symm⟩
 · split
   · exact still_P h
   · rename_i hb
     have r : RepA nd N got a m := ⟨hg, hm, by
      rcases hh : hasF a m with _ | _
      · rfl
      · exact absurd (.inr hh) hb, by
      by_cases e : m.bal = a.bal
      · exact e
      · exact absurd (.inl e) hb⟩
     split
     · rename_i hs
       unfold voteF
       split
       · exact still_P h
       · rename_i hv
         have hv1 : m.vt = a.vt := by
          by_cases e : m.vt = a.vt
          · exact e
          · exact absurd (.inl e) hv
         split
         · rename_i hp; exact asked_P hN h r hs hv1 hp
         · rename_i hp
           have hp3 : a.ph = 3 := by
            by_cases e : a.ph = 3
            · exact e
            · exact absurd (.inr ⟨hp, e⟩) hv
           exact proposed_P hN h r hs hv1 hp3
     · split
       · rename_i h4; exact promise_P hN h r h4
       · split
         · rename_i h6; exact accepted_P hN h r h6
         · split
           · exact none_P
           · exact still_P h
theorem begin_P (hN : 3 ≤ N ∧ N ≤ 9) {old : Option Att} (ho : ∀ a, old = some a → InvA nd N sent got a) {c : C7} {bal ph so vt : Int} {vl : List C7} (hp : (ph = 1 ∧ bal = 0 ∧ so = 0) ∨ (ph = 2 ∧ vl = [] ∧ so = 3)) {E : An → Prop} : ResP nd N sent got E (beginF nd N old ⟨c, bal, ph, vt, vl, false, []⟩ so vt vl) := by
 unfold beginF
 split
 · rename_i hr
   refine ⟨fun a e => ?_, all_out hN, fun o hx h7 => (by obtain ⟨k, rfl⟩ := all_mem hx; change so = 7 at h7; omega)⟩
   obtain rfl := Option.some.inj e
   obtain ⟨r1, r2, r3, r4, r5, r6⟩ := right_own hr
   refine ⟨fun r hr => (by cases hr), fun r hr => (by cases hr), List.Pairwise.nil, ?_, ?_, fun _ r hr => (by cases hr), ?_, fun e => ?_, fun e => ?_, fun _ r hr => (by cases hr), fun r hr => (by cases hr), fun e => ?_, fun e => ?_, r5, r2⟩
   · rcases hp with ⟨_, _, h0⟩ | ⟨_, h0, _⟩
     · have := own_full hr (.inl h0)
       unfold fullB setB at this
       simp only [Bool.and_eq_true, decide_eq_true_eq] at this
       exact this.2.1.1
     · rw [h0]; exact Nat.zero_le _
   · rcases hp with ⟨h0, _, _⟩ | ⟨h0, _, _⟩
     · exact .inl h0
     · exact .inr (.inl h0)
   · intro e
     rcases hp with ⟨_, h0, _⟩ | ⟨h0, _, _⟩
     · exact h0
     · change ph = 1 at e; omega
   · show ((0 : Nat) : Int) < faI N
     unfold faI
     rw [if_pos hN]; omega
   · rcases hp with ⟨_, h0, h1⟩ | ⟨h0, _, _⟩
     · exact ⟨_, List.mem_append_right _ (all_one hN hr), h1, by show (if so = 7 then 0 else bal) = 0; rw [h0]; split <;> rfl, rfl, rfl, rfl⟩
     · change ph = 1 at e; omega
   · change ph = 4 at e; omega
   · change ph ≠ 1 at e
     change withinB (if so = 7 then 0 else bal) 1048576 = true at r4
     rwa [if_neg (by omega)] at r4
 · exact ⟨fun a e => (by rw [List.append_nil]; exact ho a e), .inl rfl, fun o hx => (by cases hx)⟩
end
def InvL (nd N : Int) (sent got : List An) (g : Lst) : Prop := ∀ i a, g i = some a → InvA nd N sent got a
theorem InvL.put {nd N : Int} {sent got : List An} {g : Lst} (h : InvL nd N sent got g) (i : Int) {r : Res} {E : An → Prop} (hr : ResP nd N sent got E r) : InvL nd N (sent ++ r.2) got (g.put i r.1) := fun j a e => by
 unfold Lst.put at e
 split at e
 · exact hr.inv a e
 · exact (h j a e).mono (fun x hx => List.mem_append_left _ hx) fun x hx => hx
structure StP (nd N : Int) (sent got : List An) (E : An → Prop) (r : Lst × List An) : Prop where
 inv : InvL nd N (sent ++ r.2) got r.1
 out : OutA nd N r.2
 st : ∀ o ∈ r.2, o.so = 7 → E o
section
variable {nd N : Int} {sent got : List An} {E : An → Prop} {g : Lst}
theorem put_P (h : InvL nd N sent got g) (i : Int) {r : Res} (hr : ResP nd N sent got E r) : StP nd N sent got E (g.put i r.1, r.2) := ⟨h.put i hr, hr.out, hr.st⟩
theorem same_P (h : InvL nd N sent got g) : StP nd N sent got E (g, []) := ⟨(by rw [List.append_nil]; exact h), .inl rfl, fun o ho => (by cases ho)⟩
theorem start_P (hN : 3 ≤ N ∧ N ≤ 9) (h : InvL nd N sent got g) (c : C7) (vt : Int) (vl : List C7) : StP nd N sent got E (startF nd N g c vt vl) :=
 put_P h c.i (begin_P hN (h c.i) (.inl ⟨rfl, rfl, rfl⟩))
theorem take_P (hN : 3 ≤ N ∧ N ≤ 9) (h : InvL nd N sent got g) (c : C7) (bal : Int) : StP nd N sent got E (takeF nd N g c bal) := by
 unfold takeF
 split
 · exact put_P h c.i (begin_P hN (h c.i) (.inr ⟨rfl, rfl, rfl⟩))
 · exact same_P h
theorem hurry_P (hN : 3 ≤ N ∧ N ≤ 9) (h : InvL nd N sent got g) (i : Int) : StP nd N sent got E (hurryF nd N g i) := by
 unfold hurryF
 rcases hg : g i with _ | a
 · exact same_P h
 · simp only
   split
   · exact same_P h
   · rename_i hp
     have hp1 : a.ph = 1 := by
      by_cases e : a.ph = 1
      · exact e
      · exact absurd (.inl e) hp
     exact put_P h i (slow_P hN ((h i a hg).bs (by rw [hp1]; decide)))
theorem hand_P (hN : 3 ≤ N ∧ N ≤ 9) (h : InvL nd N sent got g) {m : An} (hs : (ofA m).short 1024) (hm : m ∈ got) : StP nd N sent got (EnA N sent got m) (handF nd N g m) := by
 unfold handF
 split
 · rename_i hr
   rcases hg : g m.c.i with _ | a
   · exact same_P h
   · simp only
     split
     · rename_i hc
       have hfr := rightA_fr hr.1
       exact put_P h m.c.i (reply_P hN (h _ a hg) ⟨hr.1, (C7.same_iff.1 hc).symm, ⟨hfr.1, hr.2.2⟩, hs⟩ hm)
     · exact same_P h
 · exact same_P h
end
end Go.Proofs.YtplodoindppleaaGreat

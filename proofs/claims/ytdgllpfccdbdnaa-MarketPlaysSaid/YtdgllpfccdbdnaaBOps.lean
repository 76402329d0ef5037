/- The program's book: each act, whatever it is asked, on a book that may be. -/
import Derived.Test.YtdgllpfccdbdnaaBFine
import Derived.Test.YtdgllpfccdbdnaaBPlaceFull0
import Derived.Test.YtdgllpfccdbdnaaBPlaceFull1
import Derived.Test.YtdgllpfccdbdnaaBPlaceAll0
import Derived.Test.YtdgllpfccdbdnaaBPlaceAll1
import Derived.Test.YtdgllpfccdbdnaaBPlaceRest0
import Derived.Test.YtdgllpfccdbdnaaBPlaceRest1
namespace Go.Proofs.Ytdgllpfccdbdnaa
set_option linter.unusedVariables false
open Go.RowKit
open Go.Lib (hid)

/-- Nothing has turned, with an error. -/
def NoR (bs ss : List Od) (err : Int) (fs : List Fl) (left : Int) (bs' ss' : List Od) : Prop := err ≠ 0 ∧ fs = [] ∧ left = 0 ∧ bs' = bs ∧ ss' = ss
def PlaceR (bs ss : List Od) (o : Od) (err : Int) (fs : List Fl) (left : Int) (bs' ss' : List Od) : Prop :=
  FineB bs' ss' ∧ (NoR bs ss err fs left bs' ss' ∨
    (err = 0 ∧ sumO bs' + sumO ss' = sumO bs + sumO ss + o.n - 2 * sumF fs ∧ sumF fs + left = o.n ∧ 0 ≤ left ∧ 0 ≤ sumF fs ∧ fs.length ≤ 8 ∧ mayB o = true ∧ ((o.s = 0 ∧ (fs, left) = fillG 0 o.p o.n ss) ∨ (o.s = 1 ∧ (fs, left) = fillG 1 o.p o.n bs))))
def CancelR (bs ss : List Od) (id err : Int) (fs : List Fl) (left : Int) (bs' ss' : List Od) : Prop :=
  FineB bs' ss' ∧ (NoR bs ss err fs left bs' ss' ∨ (err = 0 ∧ fs = [] ∧ wOk bs ss id = true ∧ sumO bs' + sumO ss' = sumO bs + sumO ss - left ∧ 0 ≤ left ∧ left ≤ 1048576))
def AmendR (bs ss : List Od) (id q err : Int) (fs : List Fl) (left : Int) (bs' ss' : List Od) : Prop :=
  FineB bs' ss' ∧ (NoR bs ss err fs left bs' ss' ∨ (err = 0 ∧ fs = [] ∧ wOk bs ss id = true ∧ left = q ∧ sumO bs' + sumO ss' = sumO bs + sumO ss + q - (fO bs ss id).n ∧ 1 ≤ q ∧ q ≤ 1048576 ∧ 1 ≤ (fO bs ss id).n ∧ (fO bs ss id).n ≤ 1048576))
/-- What an act comes to, of which R says what it tells, and leaves. -/
def ActTo (w w' : World) (B p : Nat) (va vb : Value) (e : Ending) (R : Int → List Fl → Int → List Od → List Od → Prop) : Prop := ∃ err fs left bs' ss', Told w w' B p va vb e err fs left bs' ss' ∧ R err fs left bs' ss'
theorem ActTo.mk {w w' : World} {B p : Nat} {va vb : Value} {e : Ending} {R : Int → List Fl → Int → List Od → List Od → Prop} {err : Int} {fs : List Fl} {left : Int} {bs' ss' : List Od} (h : Told w w' B p va vb e err fs left bs' ss') (hR : R err fs left bs' ss') : ActTo w w' B p va vb e R := ⟨err, fs, left, bs', ss', h, hR⟩
theorem FineB.lens {bs ss : List Od} (h : FineB bs ss) : bs.length ≤ 1000 ∧ ss.length ≤ 1000 := by have := h.len; omega
theorem any_at {p : Od → Bool} {l : List Od} (h : l.any p = true) : ∃ o, l[l.findIdx p]? = some o := ⟨_, List.getElem?_eq_getElem (idxO_any h).2⟩

theorem cCancel {w : World} {B p : Nat} {va vb : Value} {bs ss : List Od} (h : BkA w B p va vb bs ss) (hF : FineB bs ss) (id : Int) :
    Calls Try.prog 34 #[ptr p, .int .i64 id] w fun e w' => ActTo w w' B p va vb e (CancelR bs ss id) := by
  rcases ha : bs.any (isI id) with _ | _
  · rcases hb : ss.any (isI id) with _ | _
    · exact (cCancel_no h hF.lens id ha hb).mono fun e w' ht => ActTo.mk ht ⟨hF, .inl ⟨by decide, rfl, rfl, rfl, rfl⟩⟩
    · obtain ⟨o, ho⟩ := any_at hb
      have hok := hF.fs o (List.mem_of_getElem? ho)
      unfold okO at hok
      have hlt := (List.getElem?_eq_some_iff.1 ho).1
      exact (cCancel_1 h hF.lens id ha hb _ rfl o ho).mono fun e w' ht => ActTo.mk ht ⟨⟨hF.fb, all_less hF.fs, hF.gb, sorted_less hF.gs _, fun x hx y hy => hF.un x hx y (mem_less hy), by have := less_len hlt; have := hF.len; omega⟩, .inr ⟨rfl, rfl, by unfold wOk; rw [ha, hb]; rfl, by rw [sum_less ho]; omega, by omega, by omega⟩⟩
  · obtain ⟨o, ho⟩ := any_at ha
    have hok := hF.fb o (List.mem_of_getElem? ho)
    unfold okO at hok
    have hlt := (List.getElem?_eq_some_iff.1 ho).1
    exact (cCancel_0 h hF.lens id ha _ rfl o ho).mono fun e w' ht => ActTo.mk ht ⟨⟨all_less hF.fb, hF.fs, sorted_less hF.gb _, hF.gs, fun x hx y hy => hF.un x (mem_less hx) y hy, by have := less_len hlt; have := hF.len; omega⟩, .inr ⟨rfl, rfl, by unfold wOk; rw [ha]; rfl, by rw [sum_less ho]; omega, by omega, by omega⟩⟩

theorem ok_mk {s i p n : Int} (h1 : 1 ≤ i) (h2 : 1 ≤ p) (h3 : p ≤ 1048576) (h4 : 1 ≤ n) (h5 : n ≤ 1048576) : okO s ⟨i, s, p, n⟩ := ⟨rfl, h1, h2, h3, h4, h5⟩
theorem all_set {s : Int} {l : List Od} {k : Nat} {o : Od} {q : Int} (h : AllO s l) (ho : l[k]? = some o) (h4 : 1 ≤ q) (h5 : q ≤ 1048576) : AllO s (l.set k { o with n := q }) := fun y hy => by
  rcases mem_set' hy with rfl | hy
  · have := h o (List.mem_of_getElem? ho)
    exact ⟨this.1, this.2.1, this.2.2.1, this.2.2.2.1, h4, h5⟩
  · exact h y hy
theorem sorted_ins' {s i p n : Int} (l : List Od) (h : Sorted s l) : Sorted s (insG l (l.findIdx (isW ⟨i, s, p, n⟩)) ⟨i, s, p, n⟩) := sorted_ins (o := ⟨i, s, p, n⟩) rfl l h
theorem pair_zero {fr x : List Fl × Int} (h0 : fr.2 = 0) (h : fr = x) : (fr.1, (0 : Int)) = x := by rw [← h0]; exact h
theorem un_set {l : List Od} {k : Nat} {o : Od} {q : Int} (ho : l[k]? = some o) {P : Int → Prop} (h : ∀ x ∈ l, P x.p) : ∀ x ∈ l.set k { o with n := q }, P x.p := fun x hx => by
  rcases mem_set' hx with rfl | hx
  · exact h o (List.mem_of_getElem? ho)
  · exact h x hx
theorem un_gt {l : List Od} {k j : Nat} {o o' : Od} (ho : l[k]? = some o) (hp : o'.p = o.p) {P : Int → Prop} (h : ∀ x ∈ l, P x.p) : ∀ x ∈ insG (less l k) j o', P x.p := fun x hx => by
  rcases mem_ins.1 hx with rfl | hx
  · rw [hp]; exact h o (List.mem_of_getElem? ho)
  · exact h x (mem_less hx)
theorem ins_len (l : List Od) (o : Od) : (insG l (l.findIdx (isW o)) o).length = l.length + 1 := insG_len List.findIdx_le_length

theorem cAmend {w : World} {B p : Nat} {va vb : Value} {bs ss : List Od} (h : BkA w B p va vb bs ss) (hF : FineB bs ss) (hB : B ≤ w.heap.size) (id q : Int) :
    Calls Try.prog 35 #[ptr p, .int .i64 id, .int .i64 q] w fun e w' => ActTo w w' B p va vb e (AmendR bs ss id q) := by
  by_cases hq : q < 1
  · exact (cAmend_zero h hF.lens id q hq).mono fun e w' ht => ActTo.mk ht ⟨hF, .inl ⟨by decide, rfl, rfl, rfl, rfl⟩⟩
  by_cases hq2 : 1048576 < q
  · exact (cAmend_much h hF.lens id q hq hq2).mono fun e w' ht => ActTo.mk ht ⟨hF, .inl ⟨by decide, rfl, rfl, rfl, rfl⟩⟩
  rcases ha : bs.any (isI id) with _ | _
  · rcases hb : ss.any (isI id) with _ | _
    · exact (cAmend_none h hF.lens id q hq hq2 ha hb).mono fun e w' ht => ActTo.mk ht ⟨hF, .inl ⟨by decide, rfl, rfl, rfl, rfl⟩⟩
    · obtain ⟨o, ho⟩ := any_at hb
      have hok := hF.fs o (List.mem_of_getElem? ho)
      have hok2 := hok
      unfold okO at hok
      have hlt := (List.getElem?_eq_some_iff.1 ho).1
      have hfo : fO bs ss id = o := by unfold fO; rw [ha, hb, ho]; rfl
      have hw : wOk bs ss id = true := by unfold wOk; rw [ha, hb]; rfl
      by_cases hm : o.n < q
      · exact (cAmend_1gt h hF.lens id q hq hq2 ha hb _ rfl o ho hm hok.1 hB).mono fun e w' ht => ActTo.mk ht ⟨⟨hF.fb, all_ins (all_less hF.fs) (ok_mk (by omega) (by omega) (by omega) (by omega) (by omega)), hF.gb, sorted_ins' _ (sorted_less hF.gs _), fun x hx => un_gt (o' := ⟨o.i, 1, o.p, q⟩) (P := fun z => x.p < z) ho rfl fun y hy => hF.un x hx y hy, by rw [ins_len]; have := less_len hlt; have := hF.len; omega⟩, .inr ⟨rfl, rfl, hw, rfl, by rw [sum_ins, sum_less ho, hfo]; simp only; omega, by omega, by omega, by rw [hfo]; omega, by rw [hfo]; omega⟩⟩
      · exact (cAmend_1le h hF.lens id q hq hq2 ha hb _ rfl o ho hm).mono fun e w' ht => ActTo.mk ht ⟨⟨hF.fb, all_set hF.fs ho (by omega) (by omega), hF.gb, sorted_set hF.gs ho q, fun x hx => un_set (P := fun z => x.p < z) ho fun y hy => hF.un x hx y hy, by rw [List.length_set]; exact hF.len⟩, .inr ⟨rfl, rfl, hw, rfl, by rw [sum_set ho, hfo]; omega, by omega, by omega, by rw [hfo]; omega, by rw [hfo]; omega⟩⟩
  · obtain ⟨o, ho⟩ := any_at ha
    have hok := hF.fb o (List.mem_of_getElem? ho)
    unfold okO at hok
    have hlt := (List.getElem?_eq_some_iff.1 ho).1
    have hfo : fO bs ss id = o := by unfold fO; rw [ha, ho]; rfl
    have hw : wOk bs ss id = true := by unfold wOk; rw [ha]; rfl
    by_cases hm : o.n < q
    · exact (cAmend_0gt h hF.lens id q hq hq2 ha _ rfl o ho hm hok.1 hB).mono fun e w' ht => ActTo.mk ht ⟨⟨all_ins (all_less hF.fb) (ok_mk (by omega) (by omega) (by omega) (by omega) (by omega)), hF.fs, sorted_ins' _ (sorted_less hF.gb _), hF.gs, un_gt (o' := ⟨o.i, 0, o.p, q⟩) (P := fun z => ∀ y ∈ ss, z < y.p) ho rfl fun x hx y hy => hF.un x hx y hy, by rw [ins_len]; have := less_len hlt; have := hF.len; omega⟩, .inr ⟨rfl, rfl, hw, rfl, by rw [sum_ins, sum_less ho, hfo]; simp only; omega, by omega, by omega, by rw [hfo]; omega, by rw [hfo]; omega⟩⟩
    · exact (cAmend_0le h hF.lens id q hq hq2 ha _ rfl o ho hm).mono fun e w' ht => ActTo.mk ht ⟨⟨all_set hF.fb ho (by omega) (by omega), hF.fs, sorted_set hF.gb ho q, hF.gs, un_set (P := fun z => ∀ y ∈ ss, z < y.p) ho fun x hx y hy => hF.un x hx y hy, by rw [List.length_set]; exact hF.len⟩, .inr ⟨rfl, rfl, hw, rfl, by rw [sum_set ho, hfo]; omega, by omega, by omega, by rw [hfo]; omega, by rw [hfo]; omega⟩⟩

theorem cPlace {w : World} {B p : Nat} {va vb : Value} {bs ss : List Od} (h : BkA w B p va vb bs ss) (hF : FineB bs ss) (hB : B ≤ w.heap.size) (i s pr m : Int) :
    Calls Try.prog 33 #[ptr p, .agg #[.int .i64 i, .int .i64 s, .int .i64 pr, .int .i64 m]] w fun e w' => ActTo w w' B p va vb e (PlaceR bs ss ⟨i, s, pr, m⟩) := by
  by_cases he : refE bs ss ⟨i, s, pr, m⟩ = 0
  · have hmay : mayB ⟨i, s, pr, m⟩ = true := by
      unfold refE at he
      split at he
      · cases he
      · split at he
        · cases he
        · rename_i hh; simpa using hh
    have hm2 := may_iff.1 hmay
    simp only at hm2
    obtain ⟨hs, hi1, hp1, hp2, hn1, hn2⟩ := hm2
    have hlen := hF.len
    rcases hs with rfl | rfl
    · have hx : ∀ x ∈ ss, 1 ≤ x.n ∧ x.n ≤ 1048576 := fun x hx => by have := hF.fs x hx; unfold okO at this; omega
      obtain ⟨fr, hfr⟩ : ∃ fr, fr = fillG 0 pr m ss := ⟨_, rfl⟩
      obtain ⟨⟨p1, p2, p3⟩, p4, p5, p6, p7, p8, p9, p10⟩ := place_fine (s := 0) (t := 1) (o := ⟨i, 0, pr, m⟩) (.inl ⟨rfl, rfl⟩) (ok_mk (by omega) (by omega) (by omega) (by omega) (by omega)) hF.fb hF.fs hF.gb hF.gs (fun x hx y hy => by have := hF.un x hx y hy; unfold meetsB; simp; omega) fr hfr
      simp only at p4 p6 p8
      have hun : ∀ x ∈ bs, ∀ y ∈ withoutG ss fr.1, x.p < y.p := fun x hx y hy => by have := p3 x hx y hy; unfold meetsB at this; simp at this; exact this
      have hwl := without_len ss fr.1
      have hf0 : 0 ≤ sumF fr.1 := by omega
      rcases Int.lt_or_le 0 fr.2 with hleft | hleft
      · by_cases hroom : 8 ≤ (bs.length : Int) + (ss.length : Int) - (fr.1.length : Int)
        · exact (cPlace_full0 h hF.lens hB i pr m he (by omega) hn2 hx fr hfr hleft hroom).mono fun e w' ht => ActTo.mk ht ⟨hF, .inl ⟨by decide, rfl, rfl, rfl, rfl⟩⟩
        · have hpl := p10 hleft
          have hun2 := p4 hleft
          exact (cPlace_rest0 h hF.lens hB i pr m he (by omega) hn2 hx fr hfr hleft (by omega)).mono fun e w' ht => ActTo.mk ht ⟨⟨all_ins hF.fb (ok_mk (by omega) (by omega) (by omega) (by omega) (by omega)), p1, sorted_ins' _ hF.gb, p2, fun x hx y hy => by
            rcases mem_ins.1 hx with rfl | hx
            · have := hun2 y hy; unfold meetsB at this; simp at this; exact this
            · exact hun x hx y hy, by rw [ins_len]; omega⟩, .inr ⟨rfl, by rw [sum_ins, p5]; simp only; omega, p6, p7, hf0, by omega, hmay, .inl ⟨rfl, hfr⟩⟩⟩
      · have h0 : fr.2 = 0 := by omega
        exact (cPlace_all0 h hF.lens hB i pr m he (by omega) hn2 hx fr hfr h0).mono fun e w' ht => ActTo.mk ht ⟨⟨hF.fb, p1, hF.gb, p2, hun, by omega⟩, .inr ⟨rfl, by rw [p5]; simp only; omega, by simp only; omega, by omega, hf0, by omega, hmay, .inl ⟨rfl, pair_zero h0 hfr⟩⟩⟩
    · have hx : ∀ x ∈ bs, 1 ≤ x.n ∧ x.n ≤ 1048576 := fun x hx => by have := hF.fb x hx; unfold okO at this; omega
      obtain ⟨fr, hfr⟩ : ∃ fr, fr = fillG 1 pr m bs := ⟨_, rfl⟩
      obtain ⟨⟨p1, p2, p3⟩, p4, p5, p6, p7, p8, p9, p10⟩ := place_fine (s := 1) (t := 0) (o := ⟨i, 1, pr, m⟩) (.inr ⟨rfl, rfl⟩) (ok_mk (by omega) (by omega) (by omega) (by omega) (by omega)) hF.fs hF.fb hF.gs hF.gb (fun x hx y hy => by have := hF.un y hy x hx; unfold meetsB; simp; omega) fr hfr
      simp only at p4 p6 p8
      have hun : ∀ x ∈ withoutG bs fr.1, ∀ y ∈ ss, x.p < y.p := fun x hx y hy => by have := p3 y hy x hx; unfold meetsB at this; simp at this; exact this
      have hwl := without_len bs fr.1
      have hf0 : 0 ≤ sumF fr.1 := by omega
      rcases Int.lt_or_le 0 fr.2 with hleft | hleft
      · by_cases hroom : 8 ≤ (bs.length : Int) + (ss.length : Int) - (fr.1.length : Int)
        · exact (cPlace_full1 h hF.lens hB i pr m he (by omega) hn2 hx fr hfr hleft hroom).mono fun e w' ht => ActTo.mk ht ⟨hF, .inl ⟨by decide, rfl, rfl, rfl, rfl⟩⟩
        · have hpl := p10 hleft
          have hun2 := p4 hleft
          exact (cPlace_rest1 h hF.lens hB i pr m he (by omega) hn2 hx fr hfr hleft (by omega)).mono fun e w' ht => ActTo.mk ht ⟨⟨p1, all_ins hF.fs (ok_mk (by omega) (by omega) (by omega) (by omega) (by omega)), p2, sorted_ins' _ hF.gs, fun x hx y hy => by
            rcases mem_ins.1 hy with rfl | hy
            · have := hun2 x hx; unfold meetsB at this; simp at this; exact this
            · exact hun x hx y hy, by rw [ins_len]; omega⟩, .inr ⟨rfl, by rw [sum_ins, p5]; simp only; omega, p6, p7, hf0, by omega, hmay, .inr ⟨rfl, hfr⟩⟩⟩
      · have h0 : fr.2 = 0 := by omega
        exact (cPlace_all1 h hF.lens hB i pr m he (by omega) hn2 hx fr hfr h0).mono fun e w' ht => ActTo.mk ht ⟨⟨p1, hF.fs, p2, hF.gs, hun, by omega⟩, .inr ⟨rfl, by rw [p5]; simp only; omega, by simp only; omega, by omega, hf0, by omega, hmay, .inr ⟨rfl, pair_zero h0 hfr⟩⟩⟩
  · exact (cPlace_bad h hF.lens ⟨i, s, pr, m⟩ _ rfl he).mono fun e w' ht => ActTo.mk ht ⟨hF, .inl ⟨he, rfl, rfl, rfl, rfl⟩⟩
end Go.Proofs.Ytdgllpfccdbdnaa

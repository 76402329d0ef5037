/- The program's book: what each act tells and leaves, as a function of what rests. -/
import Derived.Test.YtdgllpfccdbdnaaBOps
namespace Go.Proofs.Ytdgllpfccdbdnaa
set_option linter.unusedVariables false
set_option linter.unusedSimpArgs false
open Go.RowKit
open Go.Lib (hid)

/-- An act's error, fills, what is left; the two sides behind it. -/
abbrev Res := Int × List Fl × Int × List Od × List Od
def cancelF (bs ss : List Od) (id : Int) : Res :=
  if bs.any (isI id) then (0, [], ((bs[bs.findIdx (isI id)]?).getD default).n, less bs (bs.findIdx (isI id)), ss)
  else if ss.any (isI id) then (0, [], ((ss[ss.findIdx (isI id)]?).getD default).n, bs, less ss (ss.findIdx (isI id)))
  else (5, [], 0, bs, ss)
def amendG (s : Int) (l : List Od) (k : Nat) (o : Od) (q : Int) : List Od :=
  if o.n < q then insG (less l k) ((less l k).findIdx (isW ⟨o.i, s, o.p, q⟩)) ⟨o.i, s, o.p, q⟩ else l.set k { o with n := q }
def amendF (bs ss : List Od) (id q : Int) : Res :=
  if q < 1 then (7, [], 0, bs, ss) else if 1048576 < q then (1, [], 0, bs, ss)
  else if bs.any (isI id) then (0, [], q, amendG 0 bs (bs.findIdx (isI id)) ((bs[bs.findIdx (isI id)]?).getD default) q, ss)
  else if ss.any (isI id) then (0, [], q, bs, amendG 1 ss (ss.findIdx (isI id)) ((ss[ss.findIdx (isI id)]?).getD default) q)
  else (5, [], 0, bs, ss)
def placeF (bs ss : List Od) (o : Od) : Res :=
  if refE bs ss o ≠ 0 then (refE bs ss o, [], 0, bs, ss)
  else if o.s = 0 then
    if 0 < (fillG 0 o.p o.n ss).2 then
      if 8 ≤ (bs.length : Int) + (ss.length : Int) - ((fillG 0 o.p o.n ss).1.length : Int) then (4, [], 0, bs, ss)
      else (0, (fillG 0 o.p o.n ss).1, (fillG 0 o.p o.n ss).2, insG bs (bs.findIdx (isW ⟨o.i, 0, o.p, (fillG 0 o.p o.n ss).2⟩)) ⟨o.i, 0, o.p, (fillG 0 o.p o.n ss).2⟩, withoutG ss (fillG 0 o.p o.n ss).1)
    else (0, (fillG 0 o.p o.n ss).1, 0, bs, withoutG ss (fillG 0 o.p o.n ss).1)
  else
    if 0 < (fillG 1 o.p o.n bs).2 then
      if 8 ≤ (bs.length : Int) + (ss.length : Int) - ((fillG 1 o.p o.n bs).1.length : Int) then (4, [], 0, bs, ss)
      else (0, (fillG 1 o.p o.n bs).1, (fillG 1 o.p o.n bs).2, withoutG bs (fillG 1 o.p o.n bs).1, insG ss (ss.findIdx (isW ⟨o.i, 1, o.p, (fillG 1 o.p o.n bs).2⟩)) ⟨o.i, 1, o.p, (fillG 1 o.p o.n bs).2⟩)
    else (0, (fillG 1 o.p o.n bs).1, 0, withoutG bs (fillG 1 o.p o.n bs).1, ss)
def EqR (r : Res) (err : Int) (fs : List Fl) (left : Int) (bs' ss' : List Od) : Prop := FineB bs' ss' ∧ (err, fs, left, bs', ss') = r

theorem eCancel {w : World} {B p : Nat} {va vb : Value} {bs ss : List Od} (h : BkA w B p va vb bs ss) (hF : FineB bs ss) (id : Int) :
    Calls Try.prog 34 #[ptr p, .int .i64 id] w fun e w' => ActTo w w' B p va vb e (EqR (cancelF bs ss id)) := by
  rcases ha : bs.any (isI id) with _ | _
  · rcases hb : ss.any (isI id) with _ | _
    · exact (cCancel_no h hF.lens id ha hb).mono fun e w' ht => ActTo.mk ht ⟨hF, by (first | (simp [cancelF, ha, hb, ho]; done) | (simp [cancelF, ha, ho]; done) | (simp [cancelF, ha, hb]; done))⟩
    · obtain ⟨o, ho⟩ := any_at hb
      have hok := hF.fs o (List.mem_of_getElem? ho)
      unfold okO at hok
      have hlt := (List.getElem?_eq_some_iff.1 ho).1
      exact (cCancel_1 h hF.lens id ha hb _ rfl o ho).mono fun e w' ht => ActTo.mk ht ⟨⟨hF.fb, all_less hF.fs, hF.gb, sorted_less hF.gs _, fun x hx y hy => hF.un x hx y (mem_less hy), by have := less_len hlt; have := hF.len; omega⟩, by (first | (simp [cancelF, ha, hb, ho]; done) | (simp [cancelF, ha, ho]; done) | (simp [cancelF, ha, hb]; done))⟩
  · obtain ⟨o, ho⟩ := any_at ha
    have hok := hF.fb o (List.mem_of_getElem? ho)
    unfold okO at hok
    have hlt := (List.getElem?_eq_some_iff.1 ho).1
    exact (cCancel_0 h hF.lens id ha _ rfl o ho).mono fun e w' ht => ActTo.mk ht ⟨⟨all_less hF.fb, hF.fs, sorted_less hF.gb _, hF.gs, fun x hx y hy => hF.un x (mem_less hx) y hy, by have := less_len hlt; have := hF.len; omega⟩, by (first | (simp [cancelF, ha, hb, ho]; done) | (simp [cancelF, ha, ho]; done) | (simp [cancelF, ha, hb]; done))⟩

theorem eAmend {w : World} {B p : Nat} {va vb : Value} {bs ss : List Od} (h : BkA w B p va vb bs ss) (hF : FineB bs ss) (hB : B ≤ w.heap.size) (id q : Int) :
    Calls Try.prog 35 #[ptr p, .int .i64 id, .int .i64 q] w fun e w' => ActTo w w' B p va vb e (EqR (amendF bs ss id q)) := by
  by_cases hq : q < 1
  · exact (cAmend_zero h hF.lens id q hq).mono fun e w' ht => ActTo.mk ht ⟨hF, by (first | (simp [amendF, amendG, hq, hq2, ha, hb, ho, hm]; done) | (simp [amendF, amendG, hq, hq2, ha, ho, hm]; done) | (simp [amendF, amendG, hq, hq2, ha, hb]; done) | (simp [amendF, amendG, hq, hq2]; done) | (simp [amendF, amendG, hq]; done))⟩
  by_cases hq2 : 1048576 < q
  · exact (cAmend_much h hF.lens id q hq hq2).mono fun e w' ht => ActTo.mk ht ⟨hF, by (first | (simp [amendF, amendG, hq, hq2, ha, hb, ho, hm]; done) | (simp [amendF, amendG, hq, hq2, ha, ho, hm]; done) | (simp [amendF, amendG, hq, hq2, ha, hb]; done) | (simp [amendF, amendG, hq, hq2]; done) | (simp [amendF, amendG, hq]; done))⟩
  rcases ha : bs.any (isI id) with _ | _
  · rcases hb : ss.any (isI id) with _ | _
    · exact (cAmend_none h hF.lens id q hq hq2 ha hb).mono fun e w' ht => ActTo.mk ht ⟨hF, by (first | (simp [amendF, amendG, hq, hq2, ha, hb, ho, hm]; done) | (simp [amendF, amendG, hq, hq2, ha, ho, hm]; done) | (simp [amendF, amendG, hq, hq2, ha, hb]; done) | (simp [amendF, amendG, hq, hq2]; done) | (simp [amendF, amendG, hq]; done))⟩
    · obtain ⟨o, ho⟩ := any_at hb
      have hok := hF.fs o (List.mem_of_getElem? ho)
      have hok2 := hok
      unfold okO at hok
      have hlt := (List.getElem?_eq_some_iff.1 ho).1
      have hfo : fO bs ss id = o := by unfold fO; rw [ha, hb, ho]; rfl
      have hw : wOk bs ss id = true := by unfold wOk; rw [ha, hb]; rfl
      by_cases hm : o.n < q
      · exact (cAmend_1gt h hF.lens id q hq hq2 ha hb _ rfl o ho hm hok.1 hB).mono fun e w' ht => ActTo.mk ht ⟨⟨hF.fb, all_ins (all_less hF.fs) (ok_mk (by omega) (by omega) (by omega) (by omega) (by omega)), hF.gb, sorted_ins' _ (sorted_less hF.gs _), fun x hx => un_gt (o' := ⟨o.i, 1, o.p, q⟩) (P := fun z => x.p < z) ho rfl fun y hy => hF.un x hx y hy, by rw [ins_len]; have := less_len hlt; have := hF.len; omega⟩, by (first | (simp [amendF, amendG, hq, hq2, ha, hb, ho, hm]; done) | (simp [amendF, amendG, hq, hq2, ha, ho, hm]; done) | (simp [amendF, amendG, hq, hq2, ha, hb]; done) | (simp [amendF, amendG, hq, hq2]; done) | (simp [amendF, amendG, hq]; done))⟩
      · exact (cAmend_1le h hF.lens id q hq hq2 ha hb _ rfl o ho hm).mono fun e w' ht => ActTo.mk ht ⟨⟨hF.fb, all_set hF.fs ho (by omega) (by omega), hF.gb, sorted_set hF.gs ho q, fun x hx => un_set (P := fun z => x.p < z) ho fun y hy => hF.un x hx y hy, by rw [List.length_set]; exact hF.len⟩, by (first | (simp [amendF, amendG, hq, hq2, ha, hb, ho, hm]; done) | (simp [amendF, amendG, hq, hq2, ha, ho, hm]; done) | (simp [amendF, amendG, hq, hq2, ha, hb]; done) | (simp [amendF, amendG, hq, hq2]; done) | (simp [amendF, amendG, hq]; done))⟩
  · obtain ⟨o, ho⟩ := any_at ha
    have hok := hF.fb o (List.mem_of_getElem? ho)
    unfold okO at hok
    have hlt := (List.getElem?_eq_some_iff.1 ho).1
    have hfo : fO bs ss id = o := by unfold fO; rw [ha, ho]; rfl
    have hw : wOk bs ss id = true := by unfold wOk; rw [ha]; rfl
    by_cases hm : o.n < q
    · exact (cAmend_0gt h hF.lens id q hq hq2 ha _ rfl o ho hm hok.1 hB).mono fun e w' ht => ActTo.mk ht ⟨⟨all_ins (all_less hF.fb) (ok_mk (by omega) (by omega) (by omega) (by omega) (by omega)), hF.fs, sorted_ins' _ (sorted_less hF.gb _), hF.gs, un_gt (o' := ⟨o.i, 0, o.p, q⟩) (P := fun z => ∀ y ∈ ss, z < y.p) ho rfl fun x hx y hy => hF.un x hx y hy, by rw [ins_len]; have := less_len hlt; have := hF.len; omega⟩, by (first | (simp [amendF, amendG, hq, hq2, ha, hb, ho, hm]; done) | (simp [amendF, amendG, hq, hq2, ha, ho, hm]; done) | (simp [amendF, amendG, hq, hq2, ha, hb]; done) | (simp [amendF, amendG, hq, hq2]; done) | (simp [amendF, amendG, hq]; done))⟩
    · exact (cAmend_0le h hF.lens id q hq hq2 ha _ rfl o ho hm).mono fun e w' ht => ActTo.mk ht ⟨⟨all_set hF.fb ho (by omega) (by omega), hF.fs, sorted_set hF.gb ho q, hF.gs, un_set (P := fun z => ∀ y ∈ ss, z < y.p) ho fun x hx y hy => hF.un x hx y hy, by rw [List.length_set]; exact hF.len⟩, by (first | (simp [amendF, amendG, hq, hq2, ha, hb, ho, hm]; done) | (simp [amendF, amendG, hq, hq2, ha, ho, hm]; done) | (simp [amendF, amendG, hq, hq2, ha, hb]; done) | (simp [amendF, amendG, hq, hq2]; done) | (simp [amendF, amendG, hq]; done))⟩

theorem ePlace {w : World} {B p : Nat} {va vb : Value} {bs ss : List Od} (h : BkA w B p va vb bs ss) (hF : FineB bs ss) (hB : B ≤ w.heap.size) (i s pr m : Int) :
    Calls Try.prog 33 #[ptr p, .agg #[.int .i64 i, .int .i64 s, .int .i64 pr, .int .i64 m]] w fun e w' => ActTo w w' B p va vb e (EqR (placeF bs ss ⟨i, s, pr, m⟩)) := by
  by_cases he : refE bs ss ⟨i, s, pr, m⟩ = 0
  · have hmay : mayB ⟨i, s, pr, m⟩ = true := by
      unfold refE at he
      split at he
      · cases he
      · split at he
        · cases he
        · rename_i hh; simpa using hh
    have hm2 := may_iff.1 hmay
    simp only at hm2
    obtain ⟨hs, hi1, hp1, hp2, hn1, hn2⟩ := hm2
    have hlen := hF.len
    rcases hs with rfl | rfl
    · have hx : ∀ x ∈ ss, 1 ≤ x.n ∧ x.n ≤ 1048576 := fun x hx => by have := hF.fs x hx; unfold okO at this; omega
      obtain ⟨fr, hfr⟩ : ∃ fr, fr = fillG 0 pr m ss := ⟨_, rfl⟩
      obtain ⟨⟨p1, p2, p3⟩, p4, p5, p6, p7, p8, p9, p10⟩ := place_fine (s := 0) (t := 1) (o := ⟨i, 0, pr, m⟩) (.inl ⟨rfl, rfl⟩) (ok_mk (by omega) (by omega) (by omega) (by omega) (by omega)) hF.fb hF.fs hF.gb hF.gs (fun x hx y hy => by have := hF.un x hx y hy; unfold meetsB; simp; omega) fr hfr
      simp only at p4 p6 p8
      have hun : ∀ x ∈ bs, ∀ y ∈ withoutG ss fr.1, x.p < y.p := fun x hx y hy => by have := p3 x hx y hy; unfold meetsB at this; simp at this; exact this
      have hwl := without_len ss fr.1
      have hf0 : 0 ≤ sumF fr.1 := by omega
      rcases Int.lt_or_le 0 fr.2 with hleft | hleft
      · by_cases hroom : 8 ≤ (bs.length : Int) + (ss.length : Int) - (fr.1.length : Int)
        · exact (cPlace_full0 h hF.lens hB i pr m he (by omega) hn2 hx fr hfr hleft hroom).mono fun e w' ht => ActTo.mk ht ⟨hF, by (first | (simp [placeF, he, ← hfr, hleft, hroom]; done) | (simp [placeF, he, ← hfr, h0]; done) | (simp [placeF, he]; done))⟩
        · have hpl := p10 hleft
          have hun2 := p4 hleft
          exact (cPlace_rest0 h hF.lens hB i pr m he (by omega) hn2 hx fr hfr hleft (by omega)).mono fun e w' ht => ActTo.mk ht ⟨⟨all_ins hF.fb (ok_mk (by omega) (by omega) (by omega) (by omega) (by omega)), p1, sorted_ins' _ hF.gb, p2, fun x hx y hy => by
            rcases mem_ins.1 hx with rfl | hx
            · have := hun2 y hy; unfold meetsB at this; simp at this; exact this
            · exact hun x hx y hy, by rw [ins_len]; omega⟩, by (first | (simp [placeF, he, ← hfr, hleft, hroom]; done) | (simp [placeF, he, ← hfr, h0]; done) | (simp [placeF, he]; done))⟩
      · have h0 : fr.2 = 0 := by omega
        exact (cPlace_all0 h hF.lens hB i pr m he (by omega) hn2 hx fr hfr h0).mono fun e w' ht => ActTo.mk ht ⟨⟨hF.fb, p1, hF.gb, p2, hun, by omega⟩, by (first | (simp [placeF, he, ← hfr, hleft, hroom]; done) | (simp [placeF, he, ← hfr, h0]; done) | (simp [placeF, he]; done))⟩
    · have hx : ∀ x ∈ bs, 1 ≤ x.n ∧ x.n ≤ 1048576 := fun x hx => by have := hF.fb x hx; unfold okO at this; omega
      obtain ⟨fr, hfr⟩ : ∃ fr, fr = fillG 1 pr m bs := ⟨_, rfl⟩
      obtain ⟨⟨p1, p2, p3⟩, p4, p5, p6, p7, p8, p9, p10⟩ := place_fine (s := 1) (t := 0) (o := ⟨i, 1, pr, m⟩) (.inr ⟨rfl, rfl⟩) (ok_mk (by omega) (by omega) (by omega) (by omega) (by omega)) hF.fs hF.fb hF.gs hF.gb (fun x hx y hy => by have := hF.un y hy x hx; unfold meetsB; simp; omega) fr hfr
      simp only at p4 p6 p8
      have hun : ∀ x ∈ withoutG bs fr.1, ∀ y ∈ ss, x.p < y.p := fun x hx y hy => by have := p3 y hy x hx; unfold meetsB at this; simp at this; exact this
      have hwl := without_len bs fr.1
      have hf0 : 0 ≤ sumF fr.1 := by omega
      rcases Int.lt_or_le 0 fr.2 with hleft | hleft
      · by_cases hroom : 8 ≤ (bs.length : Int) + (ss.length : Int) - (fr.1.length : Int)
        · exact (cPlace_full1 h hF.lens hB i pr m he (by omega) hn2 hx fr hfr hleft hroom).mono fun e w' ht => ActTo.mk ht ⟨hF, by (first | (simp [placeF, he, ← hfr, hleft, hroom]; done) | (simp [placeF, he, ← hfr, h0]; done) | (simp [placeF, he]; done))⟩
        · have hpl := p10 hleft
          have hun2 := p4 hleft
          exact (cPlace_rest1 h hF.lens hB i pr m he (by omega) hn2 hx fr hfr hleft (by omega)).mono fun e w' ht => ActTo.mk ht ⟨⟨p1, all_ins hF.fs (ok_mk (by omega) (by omega) (by omega) (by omega) (by omega)), p2, sorted_ins' _ hF.gs, fun x hx y hy => by
            rcases mem_ins.1 hy with rfl | hy
            · have := hun2 x hx; unfold meetsB at this; simp at this; exact this
            · exact hun x hx y hy, by rw [ins_len]; omega⟩, by (first | (simp [placeF, he, ← hfr, hleft, hroom]; done) | (simp [placeF, he, ← hfr, h0]; done) | (simp [placeF, he]; done))⟩
      · have h0 : fr.2 = 0 := by omega
        exact (cPlace_all1 h hF.lens hB i pr m he (by omega) hn2 hx fr hfr h0).mono fun e w' ht => ActTo.mk ht ⟨⟨p1, hF.fs, p2, hF.gs, hun, by omega⟩, by (first | (simp [placeF, he, ← hfr, hleft, hroom]; done) | (simp [placeF, he, ← hfr, h0]; done) | (simp [placeF, he]; done))⟩
  · exact (cPlace_bad h hF.lens ⟨i, s, pr, m⟩ _ rfl he).mono fun e w' ht => ActTo.mk ht ⟨hF, by (first | (simp [placeF, he, ← hfr, hleft, hroom]; done) | (simp [placeF, he, ← hfr, h0]; done) | (simp [placeF, he]; done))⟩
end Go.Proofs.Ytdgllpfccdbdnaa

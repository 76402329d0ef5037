import Derived.Test.YtmggggijamligaaG08
import Derived.Test.YtmggggijamligaaZNextZm
import Derived.Maps.OwnRows
namespace Go.Proofs.Ytmggggijamligaa
set_option linter.unusedVariables false
open Go.RowKit
open Go.Lib (hid)
open Go.ChangeShapes Go.WideElems
def SaysG (D : DataW Value) (bh : Int → List Int) : Prop := ∀ id, (D.atKey (keyI id) .nil = .nil ∧ bh id = []) ∨ D.atKey (keyI id) .nil = .slice (lits .i64 (bh id)) []
def Gr (w : World) (M Bg n : Nat) (bh : Int → List Int) : Prop := ∃ D : DataW Value, w.ownsGroups Try.prog 3 Bg 3 .i64 M n D ∧ SaysG D bh ∧ Maps.IsMap D
theorem lits_inj {q : IntKind} {a b : List Int} (h : (lits q a : List (DataW Value)) = lits q b) : a = b := by
  unfold lits at h
  exact (List.map_inj_right (fun x y hxy => by injection hxy with h; injection h)).1 h
theorem Gr.blk {w : World} {M Bg n : Nat} {bh : Int → List Int} (h : Gr w M Bg n bh) : ∃ es clock, w.heap[M]? = some (.map es clock) := by obtain ⟨D, ⟨es, clock, hb, _⟩, _⟩ := h; exact ⟨es, clock, hb⟩
theorem Gr.lt {w : World} {M Bg n : Nat} {bh : Int → List Int} (h : Gr w M Bg n bh) : M < w.heap.size := by obtain ⟨es, clock, hb⟩ := h.blk; exact (Array.getElem?_eq_some_iff.1 hb).1
theorem Gr.mBg {w : World} {M Bg n : Nat} {bh : Int → List Int} (h : Gr w M Bg n bh) : M < Bg := by obtain ⟨D, ⟨es, clock, hb, _, _, _, hbb, _⟩, _⟩ := h; exact hbb
theorem Gr.ofEmpty {w : World} {M Bg : Nat} (h : w.heap[M]? = some (.map #[] 0)) (hb : M < Bg) : Gr w M Bg 0 (fun _ => []) :=
  ⟨.map [], ⟨#[], 0, h, ⟨by simp, MapKept.stamped_empty 0, by simp⟩, Nat.le_refl _, rfl, hb, by simp, by simp⟩, fun i => .inl ⟨rfl, rfl⟩, ⟨_, rfl⟩⟩
theorem ints_tch {S : Nat → Prop} {w w' : World} {Bg : Nat} {v : Value} {zs : List Int} (h : w.ownsInts Bg 3 .i64 v zs) (ht : Tch S w w') (hv : ∀ k, v.ownBlock = some k → ¬ S k) : w'.ownsInts Bg 3 .i64 v zs := ⟨own_tch h.1 ht hv, h.2⟩
theorem ints_int {w : World} {Bg : Nat} {v : Value} {zs : List Int} (h : w.ownsInts Bg 3 .i64 v zs) {k : Nat} (hk : v.ownBlock = some k) : ∃ cur, w.heap[k]? = some (.cells cur 3 (0, 0)) := by
  rcases h.1.2 with ⟨e, _⟩ | ⟨g, cap, cur, e, _, hg, _⟩
  · rw [e] at hk; cases hk
  · rw [e] at hk; cases hk; exact ⟨cur, hg⟩
theorem Gr.tch {S : Nat → Prop} {w w' : World} {M Bg n : Nat} {bh : Int → List Int} (h : Gr w M Bg n bh) (ht : Tch S w w') (hM : ¬ S M) (hS : ∀ k, S k → Bg ≤ k → ∀ cur, w.heap[k]? ≠ some (.cells cur 3 (0, 0))) : Gr w' M Bg n bh := by
  obtain ⟨D, ⟨es, clock, hb, F, hs, hD, hbb, hlen, hap⟩, hsay, him⟩ := h
  have hne : ∀ {v : Value} {zs : List Int}, w.ownsInts Bg 3 .i64 v zs → ∀ k, v.ownBlock = some k → ¬ S k := fun {v zs} ho k hk hSk => by
    obtain ⟨cur, hc⟩ := ints_int ho hk
    exact hS k hSk (ho.1.lt k hk).1 cur hc
  have hst : ∀ x ∈ es.toList, ∀ z, rowElem (H := Value) w Bg 3 .i64 x.val = some z → rowElem w' Bg 3 .i64 x.val = some z := fun x hx z hz => by
    obtain ⟨zs, ho, rfl⟩ := rowElem_inv hz
    exact rowElem_mk (ints_tch ho ht (hne ho))
  obtain ⟨F1, hmap, _⟩ := F.stay hst
  refine ⟨D, ⟨es, clock, ht.ob hb hM, F1, hs, by rw [hD, hmap], hbb, fun x hx zs ho => ?_, hap⟩, hsay, him⟩
  obtain ⟨y, hy⟩ := F.reads x hx
  obtain ⟨z, hz, _⟩ := Go.WideElems.rd_val hy
  obtain ⟨zs0, ho0, _⟩ := rowElem_inv hz
  rw [ho.unique (ints_tch ho0 ht (hne ho0))]
  exact hlen x hx zs0 ho0
theorem key_one {P : Program} {k : TypeId} {R : Value → Option (DataW Value × List MemPlace)} {es : Array MapEntry} {clock : Nat} (K : Maps.Keyed P k) (F : Go.WideElems.Fit P k R es clock) {x y : MapEntry} (hx : x ∈ es.toList) (hy : y ∈ es.toList) (h : x.key = y.key) : x = y := by
  have hp := Maps.fit_apart K F
  rw [List.pairwise_map] at hp
  have hi : ∀ (l : List MapEntry), l.Pairwise (fun a b => (Go.WideElems.rg P k R a).1 ≠ (Go.WideElems.rg P k R b).1) → ∀ a ∈ l, ∀ b ∈ l, (Go.WideElems.rg P k R a).1 = (Go.WideElems.rg P k R b).1 → a = b := by
    intro l hl
    induction hl with
    | nil => intro a ha; cases ha
    | cons h1 _ ih =>
      intro a ha b hb hab
      rcases List.mem_cons.1 ha with ea | ha2
      · rcases List.mem_cons.1 hb with eb | hb2
        · rw [ea, eb]
        · rw [ea] at hab; exact absurd hab (h1 b hb2)
      · rcases List.mem_cons.1 hb with eb | hb2
        · rw [eb] at hab; exact absurd hab.symm (h1 a ha2)
        · exact ih a ha2 b hb2 hab
  refine hi _ hp x hx y hy ?_
  obtain ⟨p, hp1⟩ := F.reads x hx
  obtain ⟨q, hq1⟩ := F.reads y hy
  have e1 := Go.WideElems.rd_key hp1
  have e2 := Go.WideElems.rd_key hq1
  rw [h, e2] at e1
  rw [rg_of hp1, rg_of hq1]
  exact (Option.some.inj e1).symm
theorem Gr.look {w : World} {M Bg n : Nat} {bh : Int → List Int} (h : Gr w M Bg n bh) (hn : n < maxLen) {i : Int} (hw : wfI i) :
    ∃ v D, (∀ w' : World, w'.heap[M]? = w.heap[M]? → Sem.run Try.prog (Instr.lookup 69 (.map (some M)) (.int .i64 i) false) w' = .ok v w') ∧ w.ownsInts Bg 3 .i64 v (bh i) ∧ (bh i).length ≤ n ∧ SaysG D bh ∧ Maps.IsMap D ∧ w.groupBack Try.prog 69 3 Bg 3 .i64 M n D (.int .i64 i) (keyI i) v := by
  obtain ⟨D, hD, hS, hI⟩ := h
  have hkey : keyOf Try.prog 3 (.int .i64 i) = some (keyI i) := Maps.keyOf_int_mk Try.underlying3 hw
  obtain ⟨v, zs, hrun, hat, hoi, hzl, hback⟩ := hD.at (Maps.int_keyed Try.underlying3) Try.underlying69 (Try.zeroValue23 w) hn hkey
  have hz : zs = bh i := by
    rcases hS i with ⟨h1, h2⟩ | h1
    · rw [h1] at hat
      rcases hoi.datum (H := Value) with ⟨_, h3⟩ | h3
      · rw [h3, h2]
      · rw [h3] at hat; cases hat
    · rw [h1] at hat
      rcases hoi.datum (H := Value) with ⟨h3, _⟩ | h3
      · rw [h3] at hat; cases hat
      · rw [h3] at hat
        injection hat with h4 _
        exact (lits_inj h4).symm
  subst hz
  refine ⟨v, D, fun w' hw' => ?_, hoi, hzl, hS, hI, hback⟩
  obtain ⟨es, clock, hb, F, _⟩ := hD
  have F0 : Go.WideElems.Fit Try.prog 3 (fun _ => some ((.nil : DataW Value), ([] : List MemPlace))) es clock := ⟨F.size, F.stamped, fun x hx => by
    obtain ⟨y, hy⟩ := F.reads x hx
    exact ⟨(y.1, .nil), by simp [Go.WideElems.rd, Go.WideElems.rd_key hy]⟩⟩
  have hb' : w'.heap[M]? = some (.map es clock) := hw'.trans hb
  rcases Maps.fit_look false (Maps.int_keyed Try.underlying3) Try.underlying69 (Try.zeroValue23 w) hb F0 hkey with ⟨h1, h2, _⟩ | ⟨e0, y, h1, h2, h3, _⟩
  · rcases Maps.fit_look false (Maps.int_keyed Try.underlying3) Try.underlying69 (Try.zeroValue23 w') hb' F0 hkey with ⟨g1, _⟩ | ⟨e1, _, g1, g2, _⟩
    · rw [hrun] at h1
      have hv : v = .slice none 0 0 := by simpa using h1
      rw [hv]; exact g1
    · exact absurd g2 (h2 e1 g1)
  · rcases Maps.fit_look false (Maps.int_keyed Try.underlying3) Try.underlying69 (Try.zeroValue23 w') hb' F0 hkey with ⟨_, g2, _⟩ | ⟨e1, _, g1, g2, g3, _⟩
    · exact absurd h2 (g2 e0 h1)
    · obtain rfl := key_one (Maps.int_keyed Try.underlying3) F0 h1 g1 (h2.trans g2.symm)
      rw [hrun] at h3
      have hv : v = e0.val := by simpa using h3
      rw [hv]; exact g3
theorem SaysG.put {D : DataW Value} {bh : Int → List Int} (h : SaysG D bh) (hD : Maps.IsMap D) (i : Int) {d : DataW Value} {zs : List Int} (hd : (d = .nil ∧ zs = []) ∨ d = .slice (lits .i64 zs) []) : SaysG (D.put (keyI i) d) (fun id => if id = i then zs else bh id) := fun id => by
  by_cases e : id = i
  · subst e
    simp only [if_true]
    rw [Maps.atKey_put_same hD (k := keyI id) trivial]
    exact hd
  · simp only [if_neg e]
    rw [Maps.atKey_put_other (keyI_ne e)]
    exact h id
end Go.Proofs.Ytmggggijamligaa
namespace Go.Proofs.Ytmggggijamligaa
set_option linter.unusedVariables false
open Go.RowKit
open Go.Lib (hid)
structure Rv where
  lv : Value
  sv : Value
  tv : Value
  ov : Value
  F : Nat
  H : Nat
  M : Nat
  Bg : Nat
  nf : Nat
  nh : Nat
  ng : Nat
  R : Nat
def rnC (p : Rv) : Array Value := #[p.lv, .map (some p.F), .map (some p.H), p.sv, .map (some p.M), p.tv, p.ov]
structure Sd (W0 W : World) (p : Rv) (l : List En) (had : List Int) (st : List Int) (bh : Int → List Int) : Prop where
  bel : Below W0.heap.size W0 W
  sl : SlE W0 p.lv (evs l)
  at' : AllAt W0 l
  wf : WfA l had
  mf : Mf W p.F p.nf (findN l)
  mh : Mh W p.H p.nh had
  mb : W0.heap.size ≤ p.M
  fm : p.F ≠ p.M
  hm : p.H ≠ p.M
  st : OwnI W W0.heap.size p.sv st
  sb : ∀ k, p.sv.ownBlock = some k → k < p.Bg
  gr : Gr W p.M p.Bg p.ng bh
  bg : p.Bg ≤ W.heap.size
structure Rn (W0 W : World) (p : Rv) (l : List En) (had : List Int) (st : List Int) (bh : Int → List Int) (tu : List Tn) (tl : List C7) : Prop where
  sd : Sd W0 W p l had st bh
  blk : W.heap[p.R]? = some (.cells (rnC p) 73 (0, 0))
  rb : W0.heap.size ≤ p.R
  tu : OwnT W W0.heap.size p.tv tu
  td : Own W W0.heap.size p.ov tl
theorem Sd.vw {W0 W : World} {p : Rv} {l : List En} {had st : List Int} {bh : Int → List Int} (h : Sd W0 W p l had st bh) : Vw W p.lv p.F p.H p.nf p.nh l had := ⟨h.sl.on h.bel, h.at'.on h.bel, h.mf, h.mh, h.wf⟩
theorem cellsNot {W : World} {k : Nat} {es : Array MapEntry} {clock : Nat} {vs : Array Value} {T : TypeId} (h : W.heap[k]? = some (.map es clock)) (h2 : W.heap[k]? = some (.cells vs T (0, 0))) : False := by
  rw [h] at h2; cases h2
theorem ownI_int {w : World} {B : Nat} {v : Value} {zs : List Int} (h : OwnI w B v zs) {k : Nat} (hk : v.ownBlock = some k) : ∃ cur, w.heap[k]? = some (.cells cur 3 (0, 0)) := by
  rcases h.2 with ⟨e, _⟩ | ⟨g, cap, cur, e, _, hg, _⟩
  · rw [e] at hk; cases hk
  · rw [e] at hk; cases hk; exact ⟨cur, hg⟩
theorem ownT_ty {w : World} {B : Nat} {v : Value} {l : List Tn} (h : OwnT w B v l) {k : Nat} (hk : v.ownBlock = some k) : ∃ cur, w.heap[k]? = some (.cells cur 81 (0, 0)) := by
  rcases h.2 with ⟨e, _⟩ | ⟨g, cap, cur, e, _, hg, _⟩
  · rw [e] at hk; cases hk
  · rw [e] at hk; cases hk; exact ⟨cur, hg⟩
theorem own_ty {w : World} {B : Nat} {v : Value} {l : List C7} (h : Own w B v l) {k : Nat} (hk : v.ownBlock = some k) : ∃ cur, w.heap[k]? = some (.cells cur 31 (0, 0)) := by
  rcases h.2 with ⟨e, _⟩ | ⟨g, cap, cur, e, _, hg, _⟩
  · rw [e] at hk; cases hk
  · rw [e] at hk; cases hk; exact ⟨cur, hg⟩
theorem tyNe {W : World} {k : Nat} {c c' : Array Value} {T T' : TypeId} (h : W.heap[k]? = some (.cells c T (0, 0))) (h' : W.heap[k]? = some (.cells c' T' (0, 0))) : T = T' := by
  rw [h] at h'
  injection h' with h'
  injection h' with _ e2
def NoInt (W : World) (B : Nat) (S : Nat → Prop) : Prop := ∀ k, S k → k < W.heap.size → B ≤ k ∧ ∃ vs T, W.heap[k]? = some (.cells vs T (0, 0)) ∧ T ≠ 3
theorem Sd.tch {S : Nat → Prop} {W0 W W' : World} {p : Rv} {l : List En} {had st : List Int} {bh : Int → List Int} (h : Sd W0 W p l had st bh) (ht : Tch S W W') (hS : NoInt W W0.heap.size S) : Sd W0 W' p l had st bh := by
  have hsz := h.bel.size
  have nm : ∀ k es clock, W.heap[k]? = some (.map es clock) → ¬ S k := fun k es clock hk hs => by
    obtain ⟨_, vs, T, h2, _⟩ := hS k hs (Array.getElem?_eq_some_iff.1 hk).1
    exact cellsNot hk h2
  obtain ⟨fe, fc, hfb⟩ := h.mf.blk
  obtain ⟨he, hc, hhb⟩ := h.mh.blk
  obtain ⟨me, mc, hmb⟩ := h.gr.blk
  refine ⟨?_, h.sl, h.at', h.wf, h.mf.same (ht.block _ h.mf.lt (nm _ _ _ hfb)), h.mh.same (ht.block _ h.mh.lt (nm _ _ _ hhb)), h.mb, h.fm, h.hm, ?_, h.sb, ?_, Nat.le_trans h.bg ht.size⟩
  · exact ⟨ht.os.trans h.bel.os, ht.tape.trans h.bel.tape, ht.output.trans h.bel.output, Nat.le_trans hsz ht.size, fun k hk => by
      rw [ht.block k (by omega) fun hs => by have := (hS k hs (by omega)).1; omega]; exact h.bel.block k hk⟩
  · refine own_tch h.st ht fun k hk hs => ?_
    obtain ⟨cur, hcu⟩ := ownI_int h.st hk
    obtain ⟨_, vs, T, h2, hT⟩ := hS k hs (h.st.lt k hk).2
    exact hT (tyNe h2 hcu)
  · refine h.gr.tch ht (nm _ _ _ hmb) fun k hs _ cur hcu => ?_
    obtain ⟨_, vs, T, h2, hT⟩ := hS k hs (Array.getElem?_eq_some_iff.1 hcu).1
    exact hT (tyNe h2 hcu)
theorem Rn.R_lt {W0 W : World} {p : Rv} {l : List En} {had st : List Int} {bh : Int → List Int} {tu : List Tn} {tl : List C7} (h : Rn W0 W p l had st bh tu tl) : p.R < W.heap.size := (Array.getElem?_eq_some_iff.1 h.blk).1
theorem Rn.hp {W0 W : World} {p : Rv} {l : List En} {had st : List Int} {bh : Int → List Int} {tu : List Tn} {tl : List C7} (h : Rn W0 W p l had st bh tu tl) : HpAt W W0.heap.size p.R (rnC p) p.tv tu := ⟨h.blk, rfl, h.tu⟩
theorem Rn.cell {W0 W : World} {p : Rv} {l : List En} {had st : List Int} {bh : Int → List Int} {tu : List Tn} {tl : List C7} (h : Rn W0 W p l had st bh tu tl) {j : Nat} {v : Value} (hv : (rnC p)[j]? = some v) : W.cell? ⟨p.R, j, none⟩ = some v := (cellAt' h.blk j).trans hv
theorem Rn.on {W0 W W' : World} {p : Rv} {l : List En} {had st : List Int} {bh : Int → List Int} {tu : List Tn} {tl : List C7} (h : Rn W0 W p l had st bh tu tl) (hb : Below W.heap.size W W') : Rn W0 W' p l had st bh tu tl :=
  ⟨h.sd.tch (Tch.ofBelow (S := fun _ => False) hb) (fun k hk => hk.elim), obOn h.blk hb h.R_lt, h.rb, h.tu.on hb, h.td.onB hb⟩
theorem Rn.hps {W0 W : World} {p : Rv} {l : List En} {had st : List Int} {bh : Int → List Int} {tu : List Tn} {tl : List C7} (h : Rn W0 W p l had st bh tu tl) : NoInt W W0.heap.size (HpS p.R p.tv) := fun k hs hk => by
  rcases hs with rfl | hs
  · exact ⟨h.rb, _, _, h.blk, by decide⟩
  · obtain ⟨cur, hc⟩ := ownT_ty h.tu hs
    exact ⟨(h.tu.lt k hs).1, _, _, hc, by decide⟩
theorem Rn.turned {W0 W W' : World} {p : Rv} {l : List En} {had st : List Int} {bh : Int → List Int} {tu tu' : List Tn} {tl : List C7} {tv' : Value} (h : Rn W0 W p l had st bh tu tl) (hH : HpAt W' W0.heap.size p.R ((rnC p).setIfInBounds 5 tv') tv' tu') (ht : Tch (HpS p.R p.tv) W W') : Rn W0 W' { p with tv := tv' } l had st bh tu' tl := by
  have hsd := h.sd.tch ht h.hps
  refine ⟨⟨hsd.bel, hsd.sl, hsd.at', hsd.wf, hsd.mf, hsd.mh, hsd.mb, hsd.fm, hsd.hm, hsd.st, hsd.sb, hsd.gr, hsd.bg⟩, hH.blk, h.rb, hH.own, ?_⟩
  refine own_tch h.td ht fun k hk hs => ?_
  obtain ⟨cur, hc⟩ := own_ty h.td hk
  rcases hs with rfl | hs
  · exact absurd (tyNe h.blk hc) (by decide)
  · obtain ⟨c2, hc2⟩ := ownT_ty h.tu hs
    exact absurd (tyNe hc2 hc) (by decide)
theorem nums_set (l : List Int) (i : Nat) (x : Int) : nums (l.set i x) = (nums l).set i (.int .i64 x) := by unfold nums; rw [List.map_set]
theorem Rn.stored {W0 W : World} {p : Rv} {l : List En} {had st : List Int} {bh : Int → List Int} {tu : List Tn} {tl : List C7} (h : Rn W0 W p l had st bh tu tl) {g n cap : Nat} (hv : p.sv = .slice (some ⟨g, 0, none⟩) n cap) (hn : n = st.length) (i : Nat) (x : Int) : Rn W0 (W.setCell ⟨g, i, none⟩ (.int .i64 x)) p l had (st.set i x) bh tu tl := by
  have hs := h.sd.st
  unfold OwnI at hs
  rw [hv, ← hn] at hs
  obtain ⟨h1, hg⟩ := World.ownsRow.stored hs i (.int .i64 x)
  have hgb : p.sv.ownBlock = some g := by rw [hv]; rfl
  obtain ⟨cur, hc⟩ := ownI_int h.sd.st hgb
  have hgB := (h.sd.st.lt g hgb).1
  have ht : Tch (fun k => k = g) W (W.setCell ⟨g, i, none⟩ (.int .i64 x)) := Tch.ofGrown hg (fun k hk => by cases hk; rfl)
  have nm : ∀ k es clock, W.heap[k]? = some (.map es clock) → ¬ k = g := fun k es clock hk e => by subst e; exact cellsNot hk hc
  obtain ⟨fe, fc, hfb⟩ := h.sd.mf.blk
  obtain ⟨he, hc2, hhb⟩ := h.sd.mh.blk
  obtain ⟨me, mc, hmb⟩ := h.sd.gr.blk
  refine ⟨⟨?_, h.sd.sl, h.sd.at', h.sd.wf, h.sd.mf.same (ht.block _ h.sd.mf.lt (nm _ _ _ hfb)), h.sd.mh.same (ht.block _ h.sd.mh.lt (nm _ _ _ hhb)), h.sd.mb, h.sd.fm, h.sd.hm, ?_, h.sd.sb, ?_, Nat.le_trans h.sd.bg ht.size⟩, ?_, h.rb, ?_, ?_⟩
  · exact h.sd.bel.grown hg h.sd.bel.size (fun k hk => by cases hk; exact hgB)
  · rw [hv]
    show World.ownsRow _ _ _ _ _ _ _
    rw [List.length_set, nums_set, ← hn]; exact h1
  · exact h.sd.gr.tch ht (nm _ _ _ hmb) fun k hk hB => by have := h.sd.sb g hgb; omega
  · exact ht.ob h.blk fun e => by
      have e' : p.R = g := e
      rw [← e'] at hc
      exact absurd (tyNe h.blk hc) (by decide)
  · refine own_tch h.tu ht fun k hk e => ?_
    obtain ⟨c2, hc2⟩ := ownT_ty h.tu hk
    have e' : k = g := e
    subst e'
    exact absurd (tyNe hc2 hc) (by decide)
  · refine own_tch h.td ht fun k hk e => ?_
    obtain ⟨c2, hc2⟩ := own_ty h.td hk
    have e' : k = g := e
    subst e'
    exact absurd (tyNe hc2 hc) (by decide)
theorem Rn.told {W0 W W1 : World} {p : Rv} {l : List En} {had st : List Int} {bh : Int → List Int} {tu : List Tn} {tl tl' : List C7} {ov' : Value} (h : Rn W0 W p l had st bh tu tl) (hg : W.grownBy W1 p.ov.ownBlock) (ho : Own W1 W0.heap.size ov' tl') : Rn W0 (W1.setCell ⟨p.R, 6, none⟩ ov') { p with ov := ov' } l had st bh tu tl' := by
  have hneR : ∀ k, p.ov.ownBlock = some k → p.R ≠ k := fun k hk e => by
    obtain ⟨cur, hc⟩ := own_ty h.td hk
    rw [← e] at hc
    exact absurd (tyNe h.blk hc) (by decide)
  have hb1 : W1.heap[p.R]? = some (.cells (rnC p) 73 (0, 0)) := (hg.block p.R h.R_lt (fun e => hneR _ e.symm rfl)).trans h.blk
  have ht : Tch (fun k => k = p.R ∨ p.ov.ownBlock = some k) W (W1.setCell ⟨p.R, 6, none⟩ ov') := (Tch.ofGrown hg (fun k hk => .inr hk)).trans (Tch.ofGrown (grownSet W1 ⟨p.R, 6, none⟩ ov') (fun k hk => .inl (by cases hk; rfl)))
  have hS : NoInt W W0.heap.size (fun k => k = p.R ∨ p.ov.ownBlock = some k) := fun k hs hk => by
    rcases hs with rfl | hs
    · exact ⟨h.rb, _, _, h.blk, by decide⟩
    · obtain ⟨cur, hc⟩ := own_ty h.td hs
      exact ⟨(h.td.lt k hs).1, _, _, hc, by decide⟩
  have hsd := h.sd.tch ht hS
  refine ⟨⟨hsd.bel, hsd.sl, hsd.at', hsd.wf, hsd.mf, hsd.mh, hsd.mb, hsd.fm, hsd.hm, hsd.st, hsd.sb, hsd.gr, hsd.bg⟩, setR hb1 6 ov', h.rb, ?_, ?_⟩
  · refine own_tch h.tu ht fun k hk hs => ?_
    obtain ⟨cur, hc⟩ := ownT_ty h.tu hk
    rcases hs with rfl | hs
    · exact absurd (tyNe h.blk hc) (by decide)
    · obtain ⟨c2, hc2⟩ := own_ty h.td hs
      exact absurd (tyNe hc2 hc) (by decide)
  · refine own_tch ho (S := fun k => k = p.R) (Tch.ofGrown (grownSet W1 ⟨p.R, 6, none⟩ ov') (fun k hk => by cases hk; rfl)) fun k hk e => ?_
    obtain ⟨cur, hc⟩ := own_ty ho hk
    have e' : k = p.R := e
    subst e'
    exact absurd (tyNe hb1 hc) (by decide)
end Go.Proofs.Ytmggggijamligaa
namespace Go.Proofs.Ytmggggijamligaa
set_option linter.unusedVariables false
open Go.RowKit
open Go.Lib (hid)
set_option maxHeartbeats 4000000 in
set_option maxRecDepth 100000 in
theorem cLine {W0 W : World} {p : Rv} {l : List En} {had st : List Int} {bh : Int → List Int} {tu : List Tn} {tl : List C7} (h : Rn W0 W p l had st bh tu tl) (hl : l.length ≤ 1000) {i : Nat} {x : En} (hx : l[i]? = some x) (hh : HeapTo tu tu.length) (htl : tu.length ≤ 900000) :
    Calls Try.prog 33 #[.pointer (some ⟨p.R, 0, none⟩), .int .i64 i] W fun e W' => e = .returned (.tuple #[]) ∧ ∃ tv' tu', tu'.Perm ((x.e.vt, i) :: tu) ∧ HeapTo tu' tu'.length ∧ Rn W0 W' { p with tv := tv' } l had st bh tu' tl ∧ Tch (HpS p.R p.tv) W W' := by
  obtain ⟨b, o, cap, hlv, hbw, hrg⟩ := h.sd.sl.entry hx
  have hil := (List.getElem?_eq_some_iff.1 hx).1
  obtain ⟨m, hm⟩ : ∃ m, m = l.length := ⟨_, rfl⟩
  rw [← hm] at hlv hil hl
  obtain ⟨t, ht⟩ : ∃ z, z = x.e.vt := ⟨_, rfl⟩
  rw [← ht]
  have HV : Hid (∃ v, v = (Value.agg #[.int .i64 t, .int .i64 (i : Int)])) := hid ⟨_, rfl⟩
  have HR := hid h
  have HHT := hid hh
  have HTL := hid htl
  obtain ⟨R, hR⟩ : ∃ R, R = p.R := ⟨_, rfl⟩
  have HRR := hid hR
  have HG : Hid (∀ W', Below W0.heap.size W0 W' → W'.cell? ⟨b, o + i * 19 + 17, none⟩ = some (.int .i64 t)) := hid (fun W' hW' => (hW'.cell hbw).trans (by rw [ht]; exact hrg 17 _ rfl))
  have HC : Hid (∀ W' q, Rn W0 W' q l had st bh tu tl → q.lv = p.lv → W'.cell? ⟨q.R, 0, none⟩ = some (.slice (some ⟨b, o, none⟩) m cap)) := hid (fun W' q hq he => by rw [← hlv, ← he]; exact hq.cell rfl)
  have hji : ((i : Int) < m) := by omega
  rw [← hR]
  have HLV := hid hlv
  clear h hh htl hx hm hrg ht hR hlv
  go_enter Try.func33, Try.ntmps33
  refine d0 (fun W' => W'.cell? ⟨R, 0, none⟩ = some (.slice (some ⟨b, o, none⟩) m cap) ∧ W'.cell? ⟨b, o + i * 19 + 17, none⟩ = some (.int .i64 t)) 18 (Array.replicate 18 false) ?_
  rw [show Array.replicate 18 false = #[false, false, false, false, false, false, false, false, false, false, false, false, false, false, false, false, false, false] from rfl]
  have HRD : Hid (Rn W0 W.drew p l had st bh tu tl) := hid (HR.out.on (belowDrew (Below.refl _ W)))
  have HTD : Hid (Tch (HpS R p.tv) W W.drew) := hid (Tch.refl _ W).drew
  generalize W.drew = wd at HRD HTD ⊢
  have HS0 : Hid (wd.cell? ⟨R, 0, none⟩ = some (.slice (some ⟨b, o, none⟩) m cap) ∧ wd.cell? ⟨b, o + i * 19 + 17, none⟩ = some (.int .i64 t)) := hid ⟨by rw [HRR.out]; exact HC.out wd p HRD.out rfl, HG.out wd HRD.out.sd.bel⟩
  refine dt 0 HS0.out ?_
  refine dt 1 HS0.out ?_
  refine dt 2 HS0.out ?_
  refine dt 3 HS0.out ?_
  refine dt 4 HS0.out ?_
  refine dt 5 HS0.out ?_
  refine dt 6 HS0.out ?_
  refine dt 7 HS0.out ?_
  refine dt 8 HS0.out ?_ (hv := by (intro W2 hW2; have c := hW2.1; go_simp; try with_reducible rfl))
  refine dt 9 HS0.out ?_
  refine dt 10 HS0.out ?_
  refine dt 11 HS0.out ?_
  refine dt 12 HS0.out ?_
  refine dt 13 HS0.out ?_ (hv := by (intro W2 hW2; have c := hW2.2; go_simp; try with_reducible rfl))
  refine dt 14 HS0.out ?_
  refine dt 15 HS0.out ?_
  refine dt 16 HS0.out ?_
  refine dop 17 ?_
  intro K hK
  go_simp
  have hP := cHPush HRD.out.hp HHT.out HTL.out HRD.out.sd.bel.size (t, i)
  rw [← HRR.out] at hP
  refine hP.mono ?_
  clear hP
  rintro e w2 ⟨rfl, tv2, tu2, hp2, hh2, hH2, ht2⟩
  have HP2 := hid hp2
  have HH2 := hid hh2
  have HR2 : Hid (Rn W0 w2 { p with tv := tv2 } l had st bh tu2 tl) := hid (HRD.out.turned (by rw [← HRR.out]; exact hH2) (by rw [← HRR.out]; exact ht2))
  have HT2 : Hid (Tch (HpS R p.tv) W w2) := hid (HTD.out.trans ht2)
  clear hp2 hh2 hH2 ht2
  have HS2 : Hid (w2.cell? ⟨R, 0, none⟩ = some (.slice (some ⟨b, o, none⟩) m cap) ∧ w2.cell? ⟨b, o + i * 19 + 17, none⟩ = some (.int .i64 t)) := hid ⟨by rw [HRR.out]; exact (HR2.out.cell (j := 0) (v := p.lv) rfl).trans (by rw [← HLV.out]), HG.out w2 HR2.out.sd.bel⟩
  refine hK.out _ _ HS2.out ?_
  clear hK K
  refine wpAnyH_done (by kernel_rfl) ?_ _
  go_end0
  exact ⟨rfl, tv2, tu2, HP2.out, HH2.out, by rw [HRR.out]; exact HR2.out, HT2.out⟩
end Go.Proofs.Ytmggggijamligaa
namespace Go.Proofs.Ytmggggijamligaa
set_option linter.unusedVariables false
open Go.RowKit
open Go.Lib (hid)
theorem Rn.grouped {W0 W w1 w2 : World} {p : Rv} {l : List En} {had st : List Int} {bh bh' : Int → List Int} {tu : List Tn} {tl : List C7} {v : Value} {zs : List Int} (h : Rn W0 W p l had st bh tu tl) (hv : W.ownsInts p.Bg 3 .i64 v zs) (hg : W.grownBy w1 v.ownBlock) (hg2 : w1.grownBy w2 (some p.M)) (hG : Gr w2 p.M p.Bg (p.ng + 1) bh') : Rn W0 w2 { p with ng := p.ng + 1 } l had st bh' tu tl := by
  have ht : Tch (fun k => v.ownBlock = some k ∨ k = p.M) W w2 := (Tch.ofGrown hg (fun k hk => .inl hk)).trans (Tch.ofGrown hg2 (fun k hk => .inr (by cases hk; rfl)))
  obtain ⟨me, mc, hmb⟩ := h.sd.gr.blk
  have nm : ∀ k es clock, W.heap[k]? = some (.map es clock) → k ≠ p.M → ¬ (v.ownBlock = some k ∨ k = p.M) := fun k es clock hk hne hs => by
    rcases hs with hs | hs
    · obtain ⟨cur, hc⟩ := ints_int hv hs
      exact cellsNot hk hc
    · exact hne hs
  have nc : ∀ k cs T, W.heap[k]? = some (.cells cs T (0, 0)) → T ≠ 3 → ¬ (v.ownBlock = some k ∨ k = p.M) := fun k cs T hk hT hs => by
    rcases hs with hs | hs
    · obtain ⟨cur, hc⟩ := ints_int hv hs
      exact hT (tyNe hk hc)
    · subst hs; exact cellsNot hmb hk
  obtain ⟨fe, fc, hfb⟩ := h.sd.mf.blk
  obtain ⟨he, hc, hhb⟩ := h.sd.mh.blk
  have hB : W0.heap.size ≤ p.Bg := Nat.le_trans h.sd.mb (Nat.le_of_lt h.sd.gr.mBg)
  refine ⟨⟨?_, h.sd.sl, h.sd.at', h.sd.wf, h.sd.mf.same (ht.block _ h.sd.mf.lt (nm _ _ _ hfb h.sd.fm)), h.sd.mh.same (ht.block _ h.sd.mh.lt (nm _ _ _ hhb h.sd.hm)), h.sd.mb, h.sd.fm, h.sd.hm, ?_, h.sd.sb, hG, Nat.le_trans h.sd.bg ht.size⟩, ht.ob h.blk (nc _ _ _ h.blk (by decide)), h.rb, ?_, ?_⟩
  · have hb := h.sd.bel
    exact ⟨ht.os.trans hb.os, ht.tape.trans hb.tape, ht.output.trans hb.output, Nat.le_trans hb.size ht.size, fun k hk => by
      have hsz := hb.size
      rw [ht.block k (by omega) fun hs => by
        rcases hs with hs | hs
        · have := (hv.1.lt k hs).1; omega
        · have := h.sd.mb; omega]
      exact hb.block k hk⟩
  · refine own_tch h.sd.st ht fun k hk hs => ?_
    rcases hs with hs | hs
    · have := (hv.1.lt k hs).1; have := h.sd.sb k hk; omega
    · obtain ⟨cur, hc⟩ := ownI_int h.sd.st hk
      subst hs; exact cellsNot hmb hc
  · refine own_tch h.tu ht fun k hk => ?_
    obtain ⟨cur, hc⟩ := ownT_ty h.tu hk
    exact nc _ _ _ hc (by decide)
  · refine own_tch h.td ht fun k hk => ?_
    obtain ⟨cur, hc⟩ := own_ty h.td hk
    exact nc _ _ _ hc (by decide)
def StG (l : List En) (F : Nat → Nat) (st : List Int) : Prop := st.length = l.length ∧ ∀ j, j < l.length → st[j]? = some ((F j : Nat) : Int)
def BhG (l : List En) (G : Int → Nat → Nat) (bh : Int → List Int) : Prop := ∀ id, (∀ z ∈ bh id, ∃ j : Nat, z = (j : Int) ∧ j < l.length) ∧ ∀ j, j < l.length → (bh id).count (j : Int) = G id j
theorem StG.set {l : List En} {F F' : Nat → Nat} {st : List Int} (h : StG l F st) {i : Nat} (n : Nat) (h1 : F' i = n) (h2 : ∀ j, j ≠ i → F' j = F j) : StG l F' (st.set i (n : Int)) :=
  ⟨by rw [List.length_set]; exact h.1, fun j hj => by
    by_cases e : j = i
    · subst e
      rw [List.getElem?_set_self (by rw [h.1]; exact hj), h1]
    · rw [List.getElem?_set_ne (Ne.symm e), h2 j e]; exact h.2 j hj⟩
theorem StG.same {l : List En} {F F' : Nat → Nat} {st : List Int} (h : StG l F st) (he : ∀ j, j < l.length → F' j = F j) : StG l F' st := ⟨h.1, fun j hj => by rw [he j hj]; exact h.2 j hj⟩
theorem BhG.same {l : List En} {G G' : Int → Nat → Nat} {bh : Int → List Int} (h : BhG l G bh) (he : ∀ id j, j < l.length → G' id j = G id j) : BhG l G' bh := fun id => ⟨(h id).1, fun j hj => by rw [he id j hj]; exact (h id).2 j hj⟩
theorem BhG.put {l : List En} {G G' : Int → Nat → Nat} {bh : Int → List Int} (h : BhG l G bh) {i : Nat} (hi : i < l.length) (nm : Int) (h1 : G' nm i = G nm i + 1) (h2 : ∀ id j, (id ≠ nm ∨ j ≠ i) → G' id j = G id j) : BhG l G' (fun id => if id = nm then bh nm ++ [(i : Int)] else bh id) := fun id => by
  by_cases e : id = nm
  · subst e
    simp only [if_true]
    refine ⟨fun z hz => ?_, fun j hj => ?_⟩
    · rcases List.mem_append.1 hz with hz | hz
      · exact (h id).1 z hz
      · rw [List.mem_singleton] at hz; exact ⟨i, hz, hi⟩
    · rw [List.count_append, (h id).2 j hj]
      by_cases e2 : j = i
      · subst e2; rw [h1]; simp
      · rw [h2 id j (.inr e2)]
        have : List.count (j : Int) [(i : Int)] = 0 := by
          rw [List.count_eq_zero, List.mem_singleton]
          intro e3; exact e2 (by omega)
        rw [this]; rfl
  · simp only [if_neg e]
    exact ⟨(h id).1, fun j hj => by rw [h2 id j (.inl e)]; exact (h id).2 j hj⟩
def cntK (l : List En) (had : List Int) (x : En) (k : Nat) : Nat := (x.v.take k).countP fun c => !depB l had x.e.vt c
def cntJ (l : List En) (had : List Int) (x : En) (k : Nat) (id : Int) : Nat := (x.v.take k).countP fun c => decide (c.i = id) && !depB l had x.e.vt c
theorem cntK_all (l : List En) (had : List Int) (x : En) : cntK l had x x.v.length = cntP l had x := by unfold cntK cntP; rw [List.take_length]
theorem cntJ_all (l : List En) (had : List Int) (x : En) (id : Int) : cntJ l had x x.v.length id = cntI l had x id := by unfold cntJ cntI; rw [List.take_length]
theorem cntK_yes {l : List En} {had : List Int} {x : En} {k : Nat} {c : C7} (hc : x.v[k]? = some c) (h : depB l had x.e.vt c = false) : cntK l had x (k + 1) = cntK l had x k + 1 := by
  unfold cntK; rw [List.take_add_one, hc, List.countP_append]; simp [h]
theorem cntK_no {l : List En} {had : List Int} {x : En} {k : Nat} {c : C7} (hc : x.v[k]? = some c) (h : depB l had x.e.vt c = true) : cntK l had x (k + 1) = cntK l had x k := by
  unfold cntK; rw [List.take_add_one, hc, List.countP_append]; simp [h]
theorem cntJ_yes {l : List En} {had : List Int} {x : En} {k : Nat} {c : C7} (hc : x.v[k]? = some c) (h : depB l had x.e.vt c = false) : cntJ l had x (k + 1) c.i = cntJ l had x k c.i + 1 := by
  unfold cntJ; rw [List.take_add_one, hc, List.countP_append]; simp [h]
theorem cntJ_ne {l : List En} {had : List Int} {x : En} {k : Nat} {c : C7} (hc : x.v[k]? = some c) {id : Int} (h : c.i ≠ id) : cntJ l had x (k + 1) id = cntJ l had x k id := by
  unfold cntJ; rw [List.take_add_one, hc, List.countP_append]; simp [h]
theorem cntJ_no {l : List En} {had : List Int} {x : En} {k : Nat} {c : C7} (hc : x.v[k]? = some c) (h : depB l had x.e.vt c = true) (id : Int) : cntJ l had x (k + 1) id = cntJ l had x k id := by
  unfold cntJ; rw [List.take_add_one, hc, List.countP_append]; simp [h]
theorem cntK_le (l : List En) (had : List Int) (x : En) (k : Nat) : cntK l had x k ≤ k := by
  unfold cntK
  exact Nat.le_trans List.countP_le_length (by rw [List.length_take]; omega)
end Go.Proofs.Ytmggggijamligaa

/- A net of the program's beside one of the document's; the law's step. -/
import Derived.Test.YtcfkifiejojciaaNFits
import Derived.Deep.RegionHeld3
namespace Go.Proofs.Ytcfkifiejojciaa
set_option linter.unusedVariables false
open Go.RowKit
open Go.Lib (hid)

/-- What is done with the one net leaves the other. -/
theorem act_beside {T T' : TypeId} {w w1 : World} {B p q : Nat} {room lost lost2 l' room2 : Int} {v u : Value} {ps us : Ps} {ls' : List (List UInt8)} (hT8 : T ≠ 5) (hTs : T ≠ 40) (hT'8 : T' ≠ 5) (hT's : T' ≠ 40) (hne : T ≠ T')
    (h : NetA T w B p room v lost ps) (h2 : NetA T' w B q room2 u lost2 us) (ha : Apt u v) (hl : LeftA T w w1 B p room v l' ls') : ∃ v' ps', NetA T w1 B p room v' l' ps' ∧ bs ps' = ls' ∧ NetA T' w1 B q room2 u lost2 us ∧ Apt u v' ∧ Tch (Nb p v) w w1 := by
  obtain ⟨v', ps', h3, h4, ht, hf⟩ := hl
  have hpq : q ≠ p := fun e => by
    subst e
    have h5 := h.1
    have h6 := h2.1
    unfold Tri at h5 h6
    rw [h5] at h6
    injection h6 with h7
    injection h7 with h8 h9
    exact hne h9
  have hq : ¬ Nb p v q := by
    rintro (e | e)
    · exact hpq e
    · exact Tri.off h2.1 hT's h.2.1 e
  refine ⟨v', ps', h3, h4, ⟨ht.ob h2.1 hq, h2.2.1.tch ht (h.nb hT8) (fun k hk => ?_), h2.2.2⟩, ha.next (fun k hk => (h2.2.1.blk hk).2.1) hf, ht⟩
  rintro (e | e)
  · subst e; exact Tri.off h.1 hTs h2.2.1 hk
  · exact ha k hk e

/-- A block of another kind is none of a net's. -/
theorem NetA.box {T T' : TypeId} {w : World} {B p k : Nat} {room lost : Int} {v : Value} {ps : Ps} {cs : Array Value} {fz : Nat × Nat} (h : NetA T w B p room v lost ps) (hb : w.heap[k]? = some (.cells cs T' fz)) (h1 : T ≠ T') (h2 : T' ≠ 40) : ¬ Nb p v k := by
  rintro (e | e)
  · subst e
    have h5 := h.1
    unfold Tri at h5
    rw [h5] at hb
    injection hb with h7
    injection h7 with h8 h9
    exact h1 h9
  · rcases h.2.1.1.2 with ⟨e2, _⟩ | ⟨g, cap, cur, e2, _, hg, _⟩
    · rw [e2] at e; cases e
    · rw [e2] at e
      simp [Value.ownBlock] at e
      subst e
      rw [hb] at hg
      injection hg with h7
      injection h7 with h8 h9
      exact h2 h9

/-- Two nets that hold the same. -/
def Two (w : World) (B p q : Nat) (room lost : Int) (ls : List (List UInt8)) : Prop :=
  ∃ v u ps us, NetP w B p room v lost ps ∧ NetR w B q room u lost us ∧ bs ps = ls ∧ bs us = ls ∧ Apt u v ∧ (ls.length : Int) ≤ room ∧ (∀ l ∈ ls, l.length ≤ 3000) ∧ 0 ≤ lost
theorem Two.on {w w' : World} {B p q : Nat} {room lost : Int} {ls : List (List UInt8)} (h : Two w B p q room lost ls) (hb : Below w.heap.size w w') : Two w' B p q room lost ls := by
  obtain ⟨v, u, ps, us, h1, h2, r⟩ := h
  exact ⟨v, u, ps, us, h1.on hb, h2.on hb, r⟩
def StepPost (w : World) (B p q : Nat) (room lost : Int) (n : Nat) (e : Ending) (w' : World) : Prop := e = .returned (.bool true) ∧ ∃ lost' ls', Two w' B p q room lost' ls' ∧ lost' ≤ lost + n ∧ Below B w w'

/-- Both acts done: what stands then. -/
theorem step_post {w W w1 w2 w3 : World} {B p q n : Nat} {room lost l' : Int} {v u : Value} {ps us : Ps} {ls' : List (List UInt8)} (hB : B ≤ w.heap.size) (hW : Below w.heap.size w W) (h : NetP W B p room v lost ps) (h2 : NetR W B q room u lost us) (ha : Apt u v)
    (k1 : LeftA 47 W w1 B p room v l' ls') (k2 : LeftA 33 w1 w2 B q room u l' ls') (hr : (ls'.length : Int) ≤ room) (hl : ∀ l ∈ ls', l.length ≤ 3000) (h0 : 0 ≤ l') (hn : l' ≤ lost + n) (h3 : Below w2.heap.size w2 w3) : StepPost w B p q room lost n (.returned (.bool true)) w3 := by
  obtain ⟨v', ps', a1, a2, a3, a4, a5⟩ := act_beside (by decide) (by decide) (by decide) (by decide) (by decide) h h2 ha k1
  obtain ⟨u', us', b1, b2, b3, b4, b5⟩ := act_beside (by decide) (by decide) (by decide) (by decide) (by decide) a3 a1 a4.symm k2
  refine ⟨rfl, l', ls', Two.on ⟨v', u', ps', us', b3, b1, a2, b2, b4.symm, hr, hl, h0⟩ h3, hn, ?_⟩
  have e0 := hW.size
  have e1 := a5.size
  have e2 := b5.size
  exact (((hW.mono hB).trans (a5.below (fun k hk => (h.nb (by decide) k hk).1) (by omega))).trans (b5.below (fun k hk => (a3.nb (by decide) k hk).1) (by omega))).trans (h3.mono (by omega))
/-- Nothing was done. -/
theorem step_stay {w W w2 : World} {B p q n : Nat} {room lost : Int} {ls : List (List UInt8)} (hB : B ≤ w.heap.size) (hW : Below w.heap.size w W) (h : Two W B p q room lost ls) (h2 : Below W.heap.size W w2) : StepPost w B p q room lost n (.returned (.bool true)) w2 :=
  ⟨rfl, lost, ls, h.on h2, by omega, (hW.mono hB).trans (h2.mono (Nat.le_trans hB hW.size))⟩
theorem less_good {α : Type} {l : List α} {i : Nat} {P : α → Prop} (h : ∀ x ∈ l, P x) : ∀ x ∈ less l i, P x := fun x hx => h x (less_mem hx)
theorem less_le {α : Type} (l : List α) (i : Nat) : (less l i).length ≤ l.length := by unfold less; rw [List.length_append, List.length_take, List.length_drop]; omega

set_option maxHeartbeats 1600000 in
set_option maxRecDepth 100000 in
theorem step_send0 {w : World} {B p q : Nat} {room lost : Int} {ls : List (List UInt8)} {x : Av} (hT : Two w B p q room lost ls) (hB : B ≤ w.heap.size) (hx : Sr w B x.s.v x.qs) (hxb : 0 < x.qs.length → ∀ k, x.s.v.ownBlock = some k → k < B) (hxl : ∀ y ∈ x.qs, y.2.length ≤ 3000) (hxn : x.qs.length ≤ 3000) (hr : roomB room = true) (hlo : lost ≤ 100000) (hk : x.k % 5 = 0) (hk8 : x.k < 256) :
    Calls Try.prog 9 #[ptr p, ptr q, .agg x.arr] w (StepPost w B p q room lost x.qs.length) := by
  obtain ⟨k, ⟨sa, sn, sc⟩, qs, z⟩ := x
  dsimp only at *
  have hb1 := (Below.refl _ w).alloc (Nat.le_refl _) (.cells #[.int .u8 k, .slice sa sn sc, .int .i64 z] 36)
  have hbx : (w.alloc (.cells #[.int .u8 k, .slice sa sn sc, .int .i64 z] 36)).heap[w.heap.size]? = some (.cells #[.int .u8 k, .slice sa sn sc, .int .i64 z] 36) := heap_alloc_new w _
  obtain ⟨W1, hW1⟩ : ∃ W, W = w.alloc (.cells #[.int .u8 k, .slice sa sn sc, .int .i64 z] 36) := ⟨_, rfl⟩
  have HW := hid hW1
  go_enter Try.func9, Try.ntmps9
  rw [← hW1] at hb1 hbx
  have HB1 := hid hb1
  have HBX := hid hbx
  have HT1 := hid (hT.on hb1)
  have HX1 : Hid (Sr W1 B (.slice sa sn sc) qs) := hid (hx.on hb1)
  have HXB : Hid (0 < qs.length → ∀ k, (Value.slice sa sn sc).ownBlock = some k → k < B) := hid hxb
  have HXL := hid hxl
  have HBW : Hid (B ≤ w.heap.size) := hid hB
  have HBW1 : Hid (B ≤ W1.heap.size) := hid (Nat.le_trans hB hb1.size)
  have HR := hid hr
  have HLO := hid (And.intro hlo hxn)
  have hr2 := hr
  unfold roomB at hr2
  simp at hr2
  have HR2 := hid hr2
  have hk1 : (k : Int) % 5 = 0 := by omega
  have hk2 : (k : Int).tmod 5 = 0 := by rw [Int.tmod_eq_emod_of_nonneg (by omega)]; omega
  obtain ⟨v, u, ps, us, hP, hQ, hbp, hbu, hap, hroom, hgood, hl0⟩ := HT1.out
  have HT := hid (And.intro hP (And.intro hQ (And.intro hbp (And.intro hbu (And.intro hap (And.intro hroom (And.intro hgood hl0)))))))
  have hpl : ps.length = ls.length := by rw [← hbp, bs_len]
  have hul : us.length = ls.length := by rw [← hbu, bs_len]
  have HLEN := hid (And.intro hpl hul)
  have HBK : Hid (¬ Nb p v w.heap.size) := hid (hP.box hbx (by decide) (by decide))
  have HBS : Hid (w.heap.size < W1.heap.size) := hid (Array.getElem?_eq_some_iff.1 hbx).1
  clear hT hx hxb hxl hxn hr hlo hk hbx hb1 hW1 hP hQ hbp hbu hap hroom hgood hl0 hpl hul hB hr2
  go_wp2_with fail
  rw [← HW.out]
  go_at_call 17
  refine (cSend HT.out.1 HBW1.out HR.out (by have h1 := HLEN.out.1; have h2 := HT.out.2.2.2.2.2.1; omega) HX1.out (by have := HLO.out; omega) (fun y hy => by have := HXL.out y hy; omega) HT.out.2.2.2.2.2.2.2 (by have := HLO.out; omega) (fun h0 k hk h => by have h1 := HXB.out h0 k hk; have h2 := (HT.out.1.nb (by decide) k h).1; omega)).mono ?_
  rintro e w2 ⟨rfl, hL⟩
  obtain ⟨v', ps', a1, a2, a3, a4, a5⟩ := act_beside (by decide) (by decide) (by decide) (by decide) (by decide) HT.out.1 HT.out.2.1 HT.out.2.2.2.2.1 hL
  have HL := hid hL
  have HA := hid (And.intro a3 a5)
  have HX2 : Hid (Sr w2 B (.slice sa sn sc) qs) := hid (HX1.out.tch a5 (HT.out.1.nb (by decide)) (fun h0 k hk h => by have h1 := HXB.out h0 k hk; have h2 := (HT.out.1.nb (by decide) k h).1; omega))
  have hbx2 := a5.ob HBX.out HBK.out
  have box1 : w2.cell? ⟨w.heap.size, 1, none⟩ = some (.slice sa sn sc) := cellAt' hbx2 1
  have HB2 : Hid (B ≤ w2.heap.size) := hid (Nat.le_trans HBW1.out a5.size)
  clear hL a1 a2 a3 a4 a5 hbx2
  go_wp2_with fail
  go_at_call 19
  refine (rSend HA.out.1 HB2.out HR2.out.2 (by have h1 := HLEN.out.2; have h2 := HT.out.2.2.2.2.2.1; omega) HX2.out (by have := HLO.out; omega) HT.out.2.2.2.2.2.2.2 (by have := HLO.out; omega) (fun h0 k hk h => by have h1 := HXB.out h0 k hk; have h2 := (HA.out.1.nb (by decide) k h).1; omega)).mono ?_
  rintro e w3 ⟨rfl, hL2⟩
  have HL2 := hid hL2
  have hee : fitN room ps.length qs.length = fitN room us.length qs.length := by rw [HLEN.out.1, HLEN.out.2]
  have HE := hid hee
  clear hL2 box1
  obtain ⟨f1, hf1⟩ : ∃ f1, f1 = fitN room ps.length qs.length := ⟨_, rfl⟩
  rw [← hee, ← hf1]
  have HF1 := hid hf1
  clear hee hf1
  go_wp2_with fail
  go_ret
  have hfit : ls.length + f1 ≤ room.toNat := by have h1 := HF1.out; have h2 := HLEN.out.1; have h3 := HT.out.2.2.2.2.2.1; unfold fitN at h1; omega
  have hfq : f1 ≤ qs.length := by have h1 := HF1.out; unfold fitN at h1; omega
  have h1 := HL.out
  have h2 := HL2.out
  rw [HT.out.2.2.1, ← HF1.out] at h1
  rw [HT.out.2.2.2.1, ← HE.out, ← HF1.out] at h2
  refine step_post HBW.out HB1.out HT.out.1 HT.out.2.1 HT.out.2.2.2.2.1 h1 h2 ?_ ?_ ?_ ?_ (Below.refl _ _)
  · rw [List.length_append, List.length_take, bs_len]; have := HR2.out.1; omega
  · intro l hl
    rcases List.mem_append.1 hl with hl | hl
    · exact HT.out.2.2.2.2.2.2.1 l hl
    · have hl2 := List.mem_of_mem_take hl
      obtain ⟨y, hy, rfl⟩ := List.mem_map.1 hl2
      exact HXL.out y hy
  · have := HT.out.2.2.2.2.2.2.2; omega
  · omega

set_option maxHeartbeats 1600000 in
set_option maxRecDepth 100000 in
theorem step_send1 {w : World} {B p q : Nat} {room lost : Int} {ls : List (List UInt8)} {x : Av} (hT : Two w B p q room lost ls) (hB : B ≤ w.heap.size) (hx : Sr w B x.s.v x.qs) (hxb : 0 < x.qs.length → ∀ k, x.s.v.ownBlock = some k → k < B) (hxl : ∀ y ∈ x.qs, y.2.length ≤ 3000) (hxn : x.qs.length ≤ 3000) (hr : roomB room = true) (hlo : lost ≤ 100000) (hk : x.k % 5 = 1) (hk8 : x.k < 256) :
    Calls Try.prog 9 #[ptr p, ptr q, .agg x.arr] w (StepPost w B p q room lost x.qs.length) := by
  obtain ⟨k, ⟨sa, sn, sc⟩, qs, z⟩ := x
  dsimp only at *
  have hb1 := (Below.refl _ w).alloc (Nat.le_refl _) (.cells #[.int .u8 k, .slice sa sn sc, .int .i64 z] 36)
  have hbx : (w.alloc (.cells #[.int .u8 k, .slice sa sn sc, .int .i64 z] 36)).heap[w.heap.size]? = some (.cells #[.int .u8 k, .slice sa sn sc, .int .i64 z] 36) := heap_alloc_new w _
  obtain ⟨W1, hW1⟩ : ∃ W, W = w.alloc (.cells #[.int .u8 k, .slice sa sn sc, .int .i64 z] 36) := ⟨_, rfl⟩
  have HW := hid hW1
  go_enter Try.func9, Try.ntmps9
  rw [← hW1] at hb1 hbx
  have HB1 := hid hb1
  have HBX := hid hbx
  have HT1 := hid (hT.on hb1)
  have HX1 : Hid (Sr W1 B (.slice sa sn sc) qs) := hid (hx.on hb1)
  have HXB : Hid (0 < qs.length → ∀ k, (Value.slice sa sn sc).ownBlock = some k → k < B) := hid hxb
  have HXL := hid hxl
  have HBW : Hid (B ≤ w.heap.size) := hid hB
  have HBW1 : Hid (B ≤ W1.heap.size) := hid (Nat.le_trans hB hb1.size)
  have HR := hid hr
  have HLO := hid (And.intro hlo hxn)
  have hr2 := hr
  unfold roomB at hr2
  simp at hr2
  have HR2 := hid hr2
  have hk1 : (k : Int) % 5 = 1 := by omega
  have hk2 : (k : Int).tmod 5 = 1 := by rw [Int.tmod_eq_emod_of_nonneg (by omega)]; omega
  obtain ⟨v, u, ps, us, hP, hQ, hbp, hbu, hap, hroom, hgood, hl0⟩ := HT1.out
  have HT := hid (And.intro hP (And.intro hQ (And.intro hbp (And.intro hbu (And.intro hap (And.intro hroom (And.intro hgood hl0)))))))
  have hpl : ps.length = ls.length := by rw [← hbp, bs_len]
  have hul : us.length = ls.length := by rw [← hbu, bs_len]
  have HLEN := hid (And.intro hpl hul)
  have HBK : Hid (¬ Nb p v w.heap.size) := hid (hP.box hbx (by decide) (by decide))
  have HBS : Hid (w.heap.size < W1.heap.size) := hid (Array.getElem?_eq_some_iff.1 hbx).1
  clear hT hx hxb hxl hxn hr hlo hk hbx hb1 hW1 hP hQ hbp hbu hap hroom hgood hl0 hpl hul hB hr2
  go_wp2_with fail
  rw [← HW.out]
  go_at_call 17
  refine (cSend HT.out.1 HBW1.out HR.out (by have h1 := HLEN.out.1; have h2 := HT.out.2.2.2.2.2.1; omega) HX1.out (by have := HLO.out; omega) (fun y hy => by have := HXL.out y hy; omega) HT.out.2.2.2.2.2.2.2 (by have := HLO.out; omega) (fun h0 k hk h => by have h1 := HXB.out h0 k hk; have h2 := (HT.out.1.nb (by decide) k h).1; omega)).mono ?_
  rintro e w2 ⟨rfl, hL⟩
  obtain ⟨v', ps', a1, a2, a3, a4, a5⟩ := act_beside (by decide) (by decide) (by decide) (by decide) (by decide) HT.out.1 HT.out.2.1 HT.out.2.2.2.2.1 hL
  have HL := hid hL
  have HA := hid (And.intro a3 a5)
  have HX2 : Hid (Sr w2 B (.slice sa sn sc) qs) := hid (HX1.out.tch a5 (HT.out.1.nb (by decide)) (fun h0 k hk h => by have h1 := HXB.out h0 k hk; have h2 := (HT.out.1.nb (by decide) k h).1; omega))
  have hbx2 := a5.ob HBX.out HBK.out
  have box1 : w2.cell? ⟨w.heap.size, 1, none⟩ = some (.slice sa sn sc) := cellAt' hbx2 1
  have HB2 : Hid (B ≤ w2.heap.size) := hid (Nat.le_trans HBW1.out a5.size)
  clear hL a1 a2 a3 a4 a5 hbx2
  go_wp2_with fail
  go_at_call 19
  refine (rSend HA.out.1 HB2.out HR2.out.2 (by have h1 := HLEN.out.2; have h2 := HT.out.2.2.2.2.2.1; omega) HX2.out (by have := HLO.out; omega) HT.out.2.2.2.2.2.2.2 (by have := HLO.out; omega) (fun h0 k hk h => by have h1 := HXB.out h0 k hk; have h2 := (HA.out.1.nb (by decide) k h).1; omega)).mono ?_
  rintro e w3 ⟨rfl, hL2⟩
  have HL2 := hid hL2
  have hee : fitN room ps.length qs.length = fitN room us.length qs.length := by rw [HLEN.out.1, HLEN.out.2]
  have HE := hid hee
  clear hL2 box1
  obtain ⟨f1, hf1⟩ : ∃ f1, f1 = fitN room ps.length qs.length := ⟨_, rfl⟩
  rw [← hee, ← hf1]
  have HF1 := hid hf1
  clear hee hf1
  go_wp2_with fail
  go_ret
  have hfit : ls.length + f1 ≤ room.toNat := by have h1 := HF1.out; have h2 := HLEN.out.1; have h3 := HT.out.2.2.2.2.2.1; unfold fitN at h1; omega
  have hfq : f1 ≤ qs.length := by have h1 := HF1.out; unfold fitN at h1; omega
  have h1 := HL.out
  have h2 := HL2.out
  rw [HT.out.2.2.1, ← HF1.out] at h1
  rw [HT.out.2.2.2.1, ← HE.out, ← HF1.out] at h2
  refine step_post HBW.out HB1.out HT.out.1 HT.out.2.1 HT.out.2.2.2.2.1 h1 h2 ?_ ?_ ?_ ?_ (Below.refl _ _)
  · rw [List.length_append, List.length_take, bs_len]; have := HR2.out.1; omega
  · intro l hl
    rcases List.mem_append.1 hl with hl | hl
    · exact HT.out.2.2.2.2.2.2.1 l hl
    · have hl2 := List.mem_of_mem_take hl
      obtain ⟨y, hy, rfl⟩ := List.mem_map.1 hl2
      exact HXL.out y hy
  · have := HT.out.2.2.2.2.2.2.2; omega
  · omega

set_option maxHeartbeats 1600000 in
set_option maxRecDepth 100000 in
theorem step_notake2 {w : World} {B p q : Nat} {room lost : Int} {ls : List (List UInt8)} {x : Av} (hT : Two w B p q room lost ls) (hB : B ≤ w.heap.size) (hx : Sr w B x.s.v x.qs) (hxb : 0 < x.qs.length → ∀ k, x.s.v.ownBlock = some k → k < B) (hxl : ∀ y ∈ x.qs, y.2.length ≤ 3000) (hxn : x.qs.length ≤ 3000) (hr : roomB room = true) (hlo : lost ≤ 100000) (hk : x.k % 5 = 2) (hk8 : x.k < 256) (hf : x.i < 0 ∨ (ls.length : Int) ≤ x.i) :
    Calls Try.prog 9 #[ptr p, ptr q, .agg x.arr] w (StepPost w B p q room lost x.qs.length) := by
  obtain ⟨k, ⟨sa, sn, sc⟩, qs, z⟩ := x
  dsimp only at *
  have hb1 := (Below.refl _ w).alloc (Nat.le_refl _) (.cells #[.int .u8 k, .slice sa sn sc, .int .i64 z] 36)
  have hbx : (w.alloc (.cells #[.int .u8 k, .slice sa sn sc, .int .i64 z] 36)).heap[w.heap.size]? = some (.cells #[.int .u8 k, .slice sa sn sc, .int .i64 z] 36) := heap_alloc_new w _
  obtain ⟨W1, hW1⟩ : ∃ W, W = w.alloc (.cells #[.int .u8 k, .slice sa sn sc, .int .i64 z] 36) := ⟨_, rfl⟩
  have HW := hid hW1
  go_enter Try.func9, Try.ntmps9
  rw [← hW1] at hb1 hbx
  have HB1 := hid hb1
  have HBX := hid hbx
  have HT1 := hid (hT.on hb1)
  have HX1 : Hid (Sr W1 B (.slice sa sn sc) qs) := hid (hx.on hb1)
  have HXB : Hid (0 < qs.length → ∀ k, (Value.slice sa sn sc).ownBlock = some k → k < B) := hid hxb
  have HXL := hid hxl
  have HBW : Hid (B ≤ w.heap.size) := hid hB
  have HBW1 : Hid (B ≤ W1.heap.size) := hid (Nat.le_trans hB hb1.size)
  have HR := hid hr
  have HLO := hid (And.intro hlo hxn)
  have hr2 := hr
  unfold roomB at hr2
  simp at hr2
  have HR2 := hid hr2
  have hk1 : (k : Int) % 5 = 2 := by omega
  have hk2 : (k : Int).tmod 5 = 2 := by rw [Int.tmod_eq_emod_of_nonneg (by omega)]; omega
  obtain ⟨v, u, ps, us, hP, hQ, hbp, hbu, hap, hroom, hgood, hl0⟩ := HT1.out
  have HT := hid (And.intro hP (And.intro hQ (And.intro hbp (And.intro hbu (And.intro hap (And.intro hroom (And.intro hgood hl0)))))))
  have hpl : ps.length = ls.length := by rw [← hbp, bs_len]
  have hul : us.length = ls.length := by rw [← hbu, bs_len]
  have HLEN := hid (And.intro hpl hul)
  have HBK : Hid (¬ Nb p v w.heap.size) := hid (hP.box hbx (by decide) (by decide))
  have HBS : Hid (w.heap.size < W1.heap.size) := hid (Array.getElem?_eq_some_iff.1 hbx).1
  have HF := hid hf
  clear hf
  clear hT hx hxb hxl hxn hr hlo hk hbx hb1 hW1 hP hQ hbp hbu hap hroom hgood hl0 hpl hul hB hr2
  go_wp2_with fail
  rw [← HW.out]
  go_at_call 15
  refine (cTake_no HT.out.1 z (by rw [HLEN.out.1]; exact HF.out)).mono ?_
  rintro e w2 ⟨rfl, rfl⟩
  have box2 : W1.cell? ⟨w.heap.size, 2, none⟩ = some (.int .i64 z) := cellAt' HBX.out 2
  have kn := fun (W : World) => @convB W (.slice none 0 0) [] (SlB.nil W)
  go_wp2_with fail
  go_at_call 20
  refine (rTake_no HT.out.2.1 z (by rw [HLEN.out.2]; exact HF.out)).mono ?_
  rintro e w3 ⟨rfl, rfl⟩
  go_wp2_with fail
  go_ret
  exact step_stay HBW.out HB1.out HT1.out (Below.refl _ _)

set_option maxHeartbeats 1600000 in
set_option maxRecDepth 100000 in
theorem step_take2 {w : World} {B p q : Nat} {room lost : Int} {ls : List (List UInt8)} {x : Av} (hT : Two w B p q room lost ls) (hB : B ≤ w.heap.size) (hx : Sr w B x.s.v x.qs) (hxb : 0 < x.qs.length → ∀ k, x.s.v.ownBlock = some k → k < B) (hxl : ∀ y ∈ x.qs, y.2.length ≤ 3000) (hxn : x.qs.length ≤ 3000) (hr : roomB room = true) (hlo : lost ≤ 100000) (hk : x.k % 5 = 2) (hk8 : x.k < 256) (hf : ¬ (x.i < 0 ∨ (ls.length : Int) ≤ x.i)) :
    Calls Try.prog 9 #[ptr p, ptr q, .agg x.arr] w (StepPost w B p q room lost x.qs.length) := by
  obtain ⟨k, ⟨sa, sn, sc⟩, qs, z⟩ := x
  dsimp only at *
  have hb1 := (Below.refl _ w).alloc (Nat.le_refl _) (.cells #[.int .u8 k, .slice sa sn sc, .int .i64 z] 36)
  have hbx : (w.alloc (.cells #[.int .u8 k, .slice sa sn sc, .int .i64 z] 36)).heap[w.heap.size]? = some (.cells #[.int .u8 k, .slice sa sn sc, .int .i64 z] 36) := heap_alloc_new w _
  obtain ⟨W1, hW1⟩ : ∃ W, W = w.alloc (.cells #[.int .u8 k, .slice sa sn sc, .int .i64 z] 36) := ⟨_, rfl⟩
  have HW := hid hW1
  go_enter Try.func9, Try.ntmps9
  rw [← hW1] at hb1 hbx
  have HB1 := hid hb1
  have HBX := hid hbx
  have HT1 := hid (hT.on hb1)
  have HX1 : Hid (Sr W1 B (.slice sa sn sc) qs) := hid (hx.on hb1)
  have HXB : Hid (0 < qs.length → ∀ k, (Value.slice sa sn sc).ownBlock = some k → k < B) := hid hxb
  have HXL := hid hxl
  have HBW : Hid (B ≤ w.heap.size) := hid hB
  have HBW1 : Hid (B ≤ W1.heap.size) := hid (Nat.le_trans hB hb1.size)
  have HR := hid hr
  have HLO := hid (And.intro hlo hxn)
  have hr2 := hr
  unfold roomB at hr2
  simp at hr2
  have HR2 := hid hr2
  have hk1 : (k : Int) % 5 = 2 := by omega
  have hk2 : (k : Int).tmod 5 = 2 := by rw [Int.tmod_eq_emod_of_nonneg (by omega)]; omega
  obtain ⟨v, u, ps, us, hP, hQ, hbp, hbu, hap, hroom, hgood, hl0⟩ := HT1.out
  have HT := hid (And.intro hP (And.intro hQ (And.intro hbp (And.intro hbu (And.intro hap (And.intro hroom (And.intro hgood hl0)))))))
  have hpl : ps.length = ls.length := by rw [← hbp, bs_len]
  have hul : us.length = ls.length := by rw [← hbu, bs_len]
  have HLEN := hid (And.intro hpl hul)
  have HBK : Hid (¬ Nb p v w.heap.size) := hid (hP.box hbx (by decide) (by decide))
  have HBS : Hid (w.heap.size < W1.heap.size) := hid (Array.getElem?_eq_some_iff.1 hbx).1
  obtain ⟨i, rfl⟩ : ∃ i : Nat, z = i := ⟨z.toNat, by omega⟩
  have hil : i < ls.length := by omega
  obtain ⟨y, hy⟩ : ∃ y, ps[i]? = some y := ⟨ps[i]'(by omega), List.getElem?_eq_getElem (by omega)⟩
  obtain ⟨x', hy2⟩ : ∃ x', us[i]? = some x' := ⟨us[i]'(by omega), List.getElem?_eq_getElem (by omega)⟩
  have e1 : ls[i]? = some y.2 := by rw [← hbp]; exact bs_at hy
  have e2 : ls[i]? = some x'.2 := by rw [← hbu]; exact bs_at hy2
  have HYY := hid (show y.2 = x'.2 from by rw [e1] at e2; exact Option.some.inj e2)
  have HYL := hid (hgood _ (List.mem_of_getElem? e1))
  have HY := hid hy
  have HY2 := hid hy2
  have HF := hid hf
  have HIL := hid hil
  have HE1 := hid e1
  clear hy hy2 e1 e2 hf hil
  clear hT hx hxb hxl hxn hr hlo hk hbx hb1 hW1 hP hQ hbp hbu hap hroom hgood hl0 hpl hul hB hr2
  go_wp2_with fail
  rw [← HW.out]
  go_at_call 15
  refine (cTake_yes HT.out.1 HBW1.out i HY.out (by have := HYL.out; omega) (by have h1 := HLEN.out.1; have h2 := HT.out.2.2.2.2.2.1; have h3 := HR2.out.2; omega)).mono ?_
  rintro e w2 ⟨r, v', rfl, hO, hN, hTc, hF⟩
  have hL : LeftA 47 W1 w2 B p room v lost (less ls i) := ⟨v', _, hN, by rw [bs_less, HT.out.2.2.1], hTc, hF⟩
  obtain ⟨v2, ps2, a1, a2, a3, a4, a5⟩ := act_beside (by decide) (by decide) (by decide) (by decide) (by decide) HT.out.1 HT.out.2.1 HT.out.2.2.2.2.1 hL
  have HL := hid hL
  have HA := hid (And.intro a3 a5)
  have hbx2 := a5.ob HBX.out HBK.out
  have box2 : w2.cell? ⟨w.heap.size, 2, none⟩ = some (.int .i64 (i : Int)) := cellAt' hbx2 2
  have HB2 : Hid (B ≤ w2.heap.size) := hid (Nat.le_trans HBW1.out a5.size)
  obtain ⟨⟨ra, rn, rc⟩, rfl, hO2⟩ := OwnB.sv hO
  have HO : Hid (Bt w2 B ⟨ra, rn, rc⟩ y.2) := hid (OwnB.bt hO2)
  have HZ : Hid (Bt w2 B x'.1 x'.2) := hid (a3.2.1.2 _ (List.mem_of_getElem? HY2.out))
  clear hL a1 a2 a3 a4 a5 hbx2 hO hO2 hN hTc hF
  go_wp2_with fail
  go_at_call 20
  refine (rTake_yes HA.out.1 HB2.out i HY2.out (by have h1 := HLEN.out.2; have h2 := HT.out.2.2.2.2.2.1; have h3 := HR2.out.2; omega)).mono ?_
  rintro e w3 ⟨rfl, hL2⟩
  rw [bs_less, HT.out.2.2.2.1] at hL2
  have HL2 := hid hL2
  have ht3 : Tch (Nb q u) w2 w3 := by obtain ⟨_, _, _, _, h3, _⟩ := hL2; exact h3
  have k1 := convB (HO.out.tch ht3 (HA.out.1.nb (by decide))).1
  have k2 := convB (HZ.out.tch ht3 (HA.out.1.nb (by decide))).1
  rw [HYY.out] at k1
  obtain ⟨⟨xa, xn, xc⟩, xl⟩ := x'
  dsimp only at k1 k2 ⊢
  clear hL2 ht3 box2
  go_wp2_with fail
  go_ret
  exact step_post HBW.out HB1.out HT.out.1 HT.out.2.1 HT.out.2.2.2.2.1 HL.out HL2.out (by have h1 := less_le ls i; have h2 := HT.out.2.2.2.2.2.1; omega) (less_good HT.out.2.2.2.2.2.2.1) HT.out.2.2.2.2.2.2.2 (by omega) (Below.refl _ _)

set_option maxHeartbeats 1600000 in
set_option maxRecDepth 100000 in
theorem step_notake3 {w : World} {B p q : Nat} {room lost : Int} {ls : List (List UInt8)} {x : Av} (hT : Two w B p q room lost ls) (hB : B ≤ w.heap.size) (hx : Sr w B x.s.v x.qs) (hxb : 0 < x.qs.length → ∀ k, x.s.v.ownBlock = some k → k < B) (hxl : ∀ y ∈ x.qs, y.2.length ≤ 3000) (hxn : x.qs.length ≤ 3000) (hr : roomB room = true) (hlo : lost ≤ 100000) (hk : x.k % 5 = 3) (hk8 : x.k < 256) (hf : x.i < 0 ∨ (ls.length : Int) ≤ x.i) :
    Calls Try.prog 9 #[ptr p, ptr q, .agg x.arr] w (StepPost w B p q room lost x.qs.length) := by
  obtain ⟨k, ⟨sa, sn, sc⟩, qs, z⟩ := x
  dsimp only at *
  have hb1 := (Below.refl _ w).alloc (Nat.le_refl _) (.cells #[.int .u8 k, .slice sa sn sc, .int .i64 z] 36)
  have hbx : (w.alloc (.cells #[.int .u8 k, .slice sa sn sc, .int .i64 z] 36)).heap[w.heap.size]? = some (.cells #[.int .u8 k, .slice sa sn sc, .int .i64 z] 36) := heap_alloc_new w _
  obtain ⟨W1, hW1⟩ : ∃ W, W = w.alloc (.cells #[.int .u8 k, .slice sa sn sc, .int .i64 z] 36) := ⟨_, rfl⟩
  have HW := hid hW1
  go_enter Try.func9, Try.ntmps9
  rw [← hW1] at hb1 hbx
  have HB1 := hid hb1
  have HBX := hid hbx
  have HT1 := hid (hT.on hb1)
  have HX1 : Hid (Sr W1 B (.slice sa sn sc) qs) := hid (hx.on hb1)
  have HXB : Hid (0 < qs.length → ∀ k, (Value.slice sa sn sc).ownBlock = some k → k < B) := hid hxb
  have HXL := hid hxl
  have HBW : Hid (B ≤ w.heap.size) := hid hB
  have HBW1 : Hid (B ≤ W1.heap.size) := hid (Nat.le_trans hB hb1.size)
  have HR := hid hr
  have HLO := hid (And.intro hlo hxn)
  have hr2 := hr
  unfold roomB at hr2
  simp at hr2
  have HR2 := hid hr2
  have hk1 : (k : Int) % 5 = 3 := by omega
  have hk2 : (k : Int).tmod 5 = 3 := by rw [Int.tmod_eq_emod_of_nonneg (by omega)]; omega
  obtain ⟨v, u, ps, us, hP, hQ, hbp, hbu, hap, hroom, hgood, hl0⟩ := HT1.out
  have HT := hid (And.intro hP (And.intro hQ (And.intro hbp (And.intro hbu (And.intro hap (And.intro hroom (And.intro hgood hl0)))))))
  have hpl : ps.length = ls.length := by rw [← hbp, bs_len]
  have hul : us.length = ls.length := by rw [← hbu, bs_len]
  have HLEN := hid (And.intro hpl hul)
  have HBK : Hid (¬ Nb p v w.heap.size) := hid (hP.box hbx (by decide) (by decide))
  have HBS : Hid (w.heap.size < W1.heap.size) := hid (Array.getElem?_eq_some_iff.1 hbx).1
  have HF := hid hf
  clear hf
  clear hT hx hxb hxl hxn hr hlo hk hbx hb1 hW1 hP hQ hbp hbu hap hroom hgood hl0 hpl hul hB hr2
  go_wp2_with fail
  rw [← HW.out]
  go_at_call 15
  refine (cTake_no HT.out.1 z (by rw [HLEN.out.1]; exact HF.out)).mono ?_
  rintro e w2 ⟨rfl, rfl⟩
  have box2 : W1.cell? ⟨w.heap.size, 2, none⟩ = some (.int .i64 z) := cellAt' HBX.out 2
  have kn := fun (W : World) => @convB W (.slice none 0 0) [] (SlB.nil W)
  go_wp2_with fail
  go_at_call 20
  refine (rTake_no HT.out.2.1 z (by rw [HLEN.out.2]; exact HF.out)).mono ?_
  rintro e w3 ⟨rfl, rfl⟩
  go_wp2_with fail
  go_ret
  exact step_stay HBW.out HB1.out HT1.out (Below.refl _ _)

set_option maxHeartbeats 1600000 in
set_option maxRecDepth 100000 in
theorem step_take3 {w : World} {B p q : Nat} {room lost : Int} {ls : List (List UInt8)} {x : Av} (hT : Two w B p q room lost ls) (hB : B ≤ w.heap.size) (hx : Sr w B x.s.v x.qs) (hxb : 0 < x.qs.length → ∀ k, x.s.v.ownBlock = some k → k < B) (hxl : ∀ y ∈ x.qs, y.2.length ≤ 3000) (hxn : x.qs.length ≤ 3000) (hr : roomB room = true) (hlo : lost ≤ 100000) (hk : x.k % 5 = 3) (hk8 : x.k < 256) (hf : ¬ (x.i < 0 ∨ (ls.length : Int) ≤ x.i)) :
    Calls Try.prog 9 #[ptr p, ptr q, .agg x.arr] w (StepPost w B p q room lost x.qs.length) := by
  obtain ⟨k, ⟨sa, sn, sc⟩, qs, z⟩ := x
  dsimp only at *
  have hb1 := (Below.refl _ w).alloc (Nat.le_refl _) (.cells #[.int .u8 k, .slice sa sn sc, .int .i64 z] 36)
  have hbx : (w.alloc (.cells #[.int .u8 k, .slice sa sn sc, .int .i64 z] 36)).heap[w.heap.size]? = some (.cells #[.int .u8 k, .slice sa sn sc, .int .i64 z] 36) := heap_alloc_new w _
  obtain ⟨W1, hW1⟩ : ∃ W, W = w.alloc (.cells #[.int .u8 k, .slice sa sn sc, .int .i64 z] 36) := ⟨_, rfl⟩
  have HW := hid hW1
  go_enter Try.func9, Try.ntmps9
  rw [← hW1] at hb1 hbx
  have HB1 := hid hb1
  have HBX := hid hbx
  have HT1 := hid (hT.on hb1)
  have HX1 : Hid (Sr W1 B (.slice sa sn sc) qs) := hid (hx.on hb1)
  have HXB : Hid (0 < qs.length → ∀ k, (Value.slice sa sn sc).ownBlock = some k → k < B) := hid hxb
  have HXL := hid hxl
  have HBW : Hid (B ≤ w.heap.size) := hid hB
  have HBW1 : Hid (B ≤ W1.heap.size) := hid (Nat.le_trans hB hb1.size)
  have HR := hid hr
  have HLO := hid (And.intro hlo hxn)
  have hr2 := hr
  unfold roomB at hr2
  simp at hr2
  have HR2 := hid hr2
  have hk1 : (k : Int) % 5 = 3 := by omega
  have hk2 : (k : Int).tmod 5 = 3 := by rw [Int.tmod_eq_emod_of_nonneg (by omega)]; omega
  obtain ⟨v, u, ps, us, hP, hQ, hbp, hbu, hap, hroom, hgood, hl0⟩ := HT1.out
  have HT := hid (And.intro hP (And.intro hQ (And.intro hbp (And.intro hbu (And.intro hap (And.intro hroom (And.intro hgood hl0)))))))
  have hpl : ps.length = ls.length := by rw [← hbp, bs_len]
  have hul : us.length = ls.length := by rw [← hbu, bs_len]
  have HLEN := hid (And.intro hpl hul)
  have HBK : Hid (¬ Nb p v w.heap.size) := hid (hP.box hbx (by decide) (by decide))
  have HBS : Hid (w.heap.size < W1.heap.size) := hid (Array.getElem?_eq_some_iff.1 hbx).1
  obtain ⟨i, rfl⟩ : ∃ i : Nat, z = i := ⟨z.toNat, by omega⟩
  have hil : i < ls.length := by omega
  obtain ⟨y, hy⟩ : ∃ y, ps[i]? = some y := ⟨ps[i]'(by omega), List.getElem?_eq_getElem (by omega)⟩
  obtain ⟨x', hy2⟩ : ∃ x', us[i]? = some x' := ⟨us[i]'(by omega), List.getElem?_eq_getElem (by omega)⟩
  have e1 : ls[i]? = some y.2 := by rw [← hbp]; exact bs_at hy
  have e2 : ls[i]? = some x'.2 := by rw [← hbu]; exact bs_at hy2
  have HYY := hid (show y.2 = x'.2 from by rw [e1] at e2; exact Option.some.inj e2)
  have HYL := hid (hgood _ (List.mem_of_getElem? e1))
  have HY := hid hy
  have HY2 := hid hy2
  have HF := hid hf
  have HIL := hid hil
  have HE1 := hid e1
  clear hy hy2 e1 e2 hf hil
  clear hT hx hxb hxl hxn hr hlo hk hbx hb1 hW1 hP hQ hbp hbu hap hroom hgood hl0 hpl hul hB hr2
  go_wp2_with fail
  rw [← HW.out]
  go_at_call 15
  refine (cTake_yes HT.out.1 HBW1.out i HY.out (by have := HYL.out; omega) (by have h1 := HLEN.out.1; have h2 := HT.out.2.2.2.2.2.1; have h3 := HR2.out.2; omega)).mono ?_
  rintro e w2 ⟨r, v', rfl, hO, hN, hTc, hF⟩
  have hL : LeftA 47 W1 w2 B p room v lost (less ls i) := ⟨v', _, hN, by rw [bs_less, HT.out.2.2.1], hTc, hF⟩
  obtain ⟨v2, ps2, a1, a2, a3, a4, a5⟩ := act_beside (by decide) (by decide) (by decide) (by decide) (by decide) HT.out.1 HT.out.2.1 HT.out.2.2.2.2.1 hL
  have HL := hid hL
  have HA := hid (And.intro a3 a5)
  have hbx2 := a5.ob HBX.out HBK.out
  have box2 : w2.cell? ⟨w.heap.size, 2, none⟩ = some (.int .i64 (i : Int)) := cellAt' hbx2 2
  have HB2 : Hid (B ≤ w2.heap.size) := hid (Nat.le_trans HBW1.out a5.size)
  obtain ⟨⟨ra, rn, rc⟩, rfl, hO2⟩ := OwnB.sv hO
  have HO : Hid (Bt w2 B ⟨ra, rn, rc⟩ y.2) := hid (OwnB.bt hO2)
  have HZ : Hid (Bt w2 B x'.1 x'.2) := hid (a3.2.1.2 _ (List.mem_of_getElem? HY2.out))
  clear hL a1 a2 a3 a4 a5 hbx2 hO hO2 hN hTc hF
  go_wp2_with fail
  go_at_call 20
  refine (rTake_yes HA.out.1 HB2.out i HY2.out (by have h1 := HLEN.out.2; have h2 := HT.out.2.2.2.2.2.1; have h3 := HR2.out.2; omega)).mono ?_
  rintro e w3 ⟨rfl, hL2⟩
  rw [bs_less, HT.out.2.2.2.1] at hL2
  have HL2 := hid hL2
  have ht3 : Tch (Nb q u) w2 w3 := by obtain ⟨_, _, _, _, h3, _⟩ := hL2; exact h3
  have k1 := convB (HO.out.tch ht3 (HA.out.1.nb (by decide))).1
  have k2 := convB (HZ.out.tch ht3 (HA.out.1.nb (by decide))).1
  rw [HYY.out] at k1
  obtain ⟨⟨xa, xn, xc⟩, xl⟩ := x'
  dsimp only at k1 k2 ⊢
  clear hL2 ht3 box2
  go_wp2_with fail
  go_ret
  exact step_post HBW.out HB1.out HT.out.1 HT.out.2.1 HT.out.2.2.2.2.1 HL.out HL2.out (by have h1 := less_le ls i; have h2 := HT.out.2.2.2.2.2.1; omega) (less_good HT.out.2.2.2.2.2.2.1) HT.out.2.2.2.2.2.2.2 (by omega) (Below.refl _ _)

set_option maxHeartbeats 1600000 in
set_option maxRecDepth 100000 in
theorem step_nodouble {w : World} {B p q : Nat} {room lost : Int} {ls : List (List UInt8)} {x : Av} (hT : Two w B p q room lost ls) (hB : B ≤ w.heap.size) (hx : Sr w B x.s.v x.qs) (hxb : 0 < x.qs.length → ∀ k, x.s.v.ownBlock = some k → k < B) (hxl : ∀ y ∈ x.qs, y.2.length ≤ 3000) (hxn : x.qs.length ≤ 3000) (hr : roomB room = true) (hlo : lost ≤ 100000) (hk : x.k % 5 = 4) (hk8 : x.k < 256) (hf : x.i < 0 ∨ (ls.length : Int) ≤ x.i) :
    Calls Try.prog 9 #[ptr p, ptr q, .agg x.arr] w (StepPost w B p q room lost x.qs.length) := by
  obtain ⟨k, ⟨sa, sn, sc⟩, qs, z⟩ := x
  dsimp only at *
  have hb1 := (Below.refl _ w).alloc (Nat.le_refl _) (.cells #[.int .u8 k, .slice sa sn sc, .int .i64 z] 36)
  have hbx : (w.alloc (.cells #[.int .u8 k, .slice sa sn sc, .int .i64 z] 36)).heap[w.heap.size]? = some (.cells #[.int .u8 k, .slice sa sn sc, .int .i64 z] 36) := heap_alloc_new w _
  obtain ⟨W1, hW1⟩ : ∃ W, W = w.alloc (.cells #[.int .u8 k, .slice sa sn sc, .int .i64 z] 36) := ⟨_, rfl⟩
  have HW := hid hW1
  go_enter Try.func9, Try.ntmps9
  rw [← hW1] at hb1 hbx
  have HB1 := hid hb1
  have HBX := hid hbx
  have HT1 := hid (hT.on hb1)
  have HX1 : Hid (Sr W1 B (.slice sa sn sc) qs) := hid (hx.on hb1)
  have HXB : Hid (0 < qs.length → ∀ k, (Value.slice sa sn sc).ownBlock = some k → k < B) := hid hxb
  have HXL := hid hxl
  have HBW : Hid (B ≤ w.heap.size) := hid hB
  have HBW1 : Hid (B ≤ W1.heap.size) := hid (Nat.le_trans hB hb1.size)
  have HR := hid hr
  have HLO := hid (And.intro hlo hxn)
  have hr2 := hr
  unfold roomB at hr2
  simp at hr2
  have HR2 := hid hr2
  have hk1 : (k : Int) % 5 = 4 := by omega
  have hk2 : (k : Int).tmod 5 = 4 := by rw [Int.tmod_eq_emod_of_nonneg (by omega)]; omega
  obtain ⟨v, u, ps, us, hP, hQ, hbp, hbu, hap, hroom, hgood, hl0⟩ := HT1.out
  have HT := hid (And.intro hP (And.intro hQ (And.intro hbp (And.intro hbu (And.intro hap (And.intro hroom (And.intro hgood hl0)))))))
  have hpl : ps.length = ls.length := by rw [← hbp, bs_len]
  have hul : us.length = ls.length := by rw [← hbu, bs_len]
  have HLEN := hid (And.intro hpl hul)
  have HBK : Hid (¬ Nb p v w.heap.size) := hid (hP.box hbx (by decide) (by decide))
  have HBS : Hid (w.heap.size < W1.heap.size) := hid (Array.getElem?_eq_some_iff.1 hbx).1
  have HF := hid hf
  clear hf
  clear hT hx hxb hxl hxn hr hlo hk hbx hb1 hW1 hP hQ hbp hbu hap hroom hgood hl0 hpl hul hB hr2
  go_wp2_with fail
  rw [← HW.out]
  go_at_call 16
  refine (cDouble_no HT.out.1 z (by rw [HLEN.out.1]; exact HF.out)).mono ?_
  rintro e w2 ⟨rfl, rfl⟩
  have box2 : W1.cell? ⟨w.heap.size, 2, none⟩ = some (.int .i64 z) := cellAt' HBX.out 2
  go_wp2_with fail
  go_at_call 21
  refine (rDouble_no HT.out.2.1 z (by rw [HLEN.out.2]; exact HF.out)).mono ?_
  rintro e w3 ⟨rfl, hB3⟩
  go_wp2_with fail
  go_ret
  exact step_stay HBW.out HB1.out HT1.out hB3

set_option maxHeartbeats 1600000 in
set_option maxRecDepth 100000 in
theorem step_full {w : World} {B p q : Nat} {room lost : Int} {ls : List (List UInt8)} {x : Av} (hT : Two w B p q room lost ls) (hB : B ≤ w.heap.size) (hx : Sr w B x.s.v x.qs) (hxb : 0 < x.qs.length → ∀ k, x.s.v.ownBlock = some k → k < B) (hxl : ∀ y ∈ x.qs, y.2.length ≤ 3000) (hxn : x.qs.length ≤ 3000) (hr : roomB room = true) (hlo : lost ≤ 100000) (hk : x.k % 5 = 4) (hk8 : x.k < 256) (hf : ¬ (x.i < 0 ∨ (ls.length : Int) ≤ x.i)) (hg : room ≤ (ls.length : Int)) :
    Calls Try.prog 9 #[ptr p, ptr q, .agg x.arr] w (StepPost w B p q room lost x.qs.length) := by
  obtain ⟨k, ⟨sa, sn, sc⟩, qs, z⟩ := x
  dsimp only at *
  have hb1 := (Below.refl _ w).alloc (Nat.le_refl _) (.cells #[.int .u8 k, .slice sa sn sc, .int .i64 z] 36)
  have hbx : (w.alloc (.cells #[.int .u8 k, .slice sa sn sc, .int .i64 z] 36)).heap[w.heap.size]? = some (.cells #[.int .u8 k, .slice sa sn sc, .int .i64 z] 36) := heap_alloc_new w _
  obtain ⟨W1, hW1⟩ : ∃ W, W = w.alloc (.cells #[.int .u8 k, .slice sa sn sc, .int .i64 z] 36) := ⟨_, rfl⟩
  have HW := hid hW1
  go_enter Try.func9, Try.ntmps9
  rw [← hW1] at hb1 hbx
  have HB1 := hid hb1
  have HBX := hid hbx
  have HT1 := hid (hT.on hb1)
  have HX1 : Hid (Sr W1 B (.slice sa sn sc) qs) := hid (hx.on hb1)
  have HXB : Hid (0 < qs.length → ∀ k, (Value.slice sa sn sc).ownBlock = some k → k < B) := hid hxb
  have HXL := hid hxl
  have HBW : Hid (B ≤ w.heap.size) := hid hB
  have HBW1 : Hid (B ≤ W1.heap.size) := hid (Nat.le_trans hB hb1.size)
  have HR := hid hr
  have HLO := hid (And.intro hlo hxn)
  have hr2 := hr
  unfold roomB at hr2
  simp at hr2
  have HR2 := hid hr2
  have hk1 : (k : Int) % 5 = 4 := by omega
  have hk2 : (k : Int).tmod 5 = 4 := by rw [Int.tmod_eq_emod_of_nonneg (by omega)]; omega
  obtain ⟨v, u, ps, us, hP, hQ, hbp, hbu, hap, hroom, hgood, hl0⟩ := HT1.out
  have HT := hid (And.intro hP (And.intro hQ (And.intro hbp (And.intro hbu (And.intro hap (And.intro hroom (And.intro hgood hl0)))))))
  have hpl : ps.length = ls.length := by rw [← hbp, bs_len]
  have hul : us.length = ls.length := by rw [← hbu, bs_len]
  have HLEN := hid (And.intro hpl hul)
  have HBK : Hid (¬ Nb p v w.heap.size) := hid (hP.box hbx (by decide) (by decide))
  have HBS : Hid (w.heap.size < W1.heap.size) := hid (Array.getElem?_eq_some_iff.1 hbx).1
  obtain ⟨i, rfl⟩ : ∃ i : Nat, z = i := ⟨z.toNat, by omega⟩
  have hil : i < ls.length := by omega
  obtain ⟨y, hy⟩ : ∃ y, ps[i]? = some y := ⟨ps[i]'(by omega), List.getElem?_eq_getElem (by omega)⟩
  obtain ⟨x', hy2⟩ : ∃ x', us[i]? = some x' := ⟨us[i]'(by omega), List.getElem?_eq_getElem (by omega)⟩
  have e1 : ls[i]? = some y.2 := by rw [← hbp]; exact bs_at hy
  have e2 : ls[i]? = some x'.2 := by rw [← hbu]; exact bs_at hy2
  have HYY := hid (show y.2 = x'.2 from by rw [e1] at e2; exact Option.some.inj e2)
  have HYL := hid (hgood _ (List.mem_of_getElem? e1))
  have HY := hid hy
  have HY2 := hid hy2
  have HF := hid hf
  have HIL := hid hil
  have HE1 := hid e1
  clear hy hy2 e1 e2 hf hil
  have HG := hid hg
  clear hg
  clear hT hx hxb hxl hxn hr hlo hk hbx hb1 hW1 hP hQ hbp hbu hap hroom hgood hl0 hpl hul hB hr2
  go_wp2_with fail
  rw [← HW.out]
  go_at_call 16
  refine (cDouble_full HT.out.1 HR.out (by rw [HLEN.out.1]; have h1 := HT.out.2.2.2.2.2.1; have h2 := HG.out; omega) i (by rw [HLEN.out.1]; exact HIL.out)).mono ?_
  rintro e w2 ⟨rfl, hB2⟩
  have hbx2 := obOn HBX.out hB2 HBS.out
  have box2 : w2.cell? ⟨w.heap.size, 2, none⟩ = some (.int .i64 (i : Int)) := cellAt' hbx2 2
  have HB2 := hid hB2
  clear hbx2 hB2
  go_wp2_with fail
  go_at_call 21
  refine (rDouble_full (HT.out.2.1.on HB2.out) i (by rw [HLEN.out.2]; exact HIL.out) (by rw [HLEN.out.2]; exact HG.out)).mono ?_
  rintro e w3 ⟨rfl, hB3⟩
  go_wp2_with fail
  go_ret
  exact step_stay HBW.out HB1.out HT1.out (HB2.out.trans (hB3.mono HB2.out.size))

set_option maxHeartbeats 1600000 in
set_option maxRecDepth 100000 in
theorem step_double {w : World} {B p q : Nat} {room lost : Int} {ls : List (List UInt8)} {x : Av} (hT : Two w B p q room lost ls) (hB : B ≤ w.heap.size) (hx : Sr w B x.s.v x.qs) (hxb : 0 < x.qs.length → ∀ k, x.s.v.ownBlock = some k → k < B) (hxl : ∀ y ∈ x.qs, y.2.length ≤ 3000) (hxn : x.qs.length ≤ 3000) (hr : roomB room = true) (hlo : lost ≤ 100000) (hk : x.k % 5 = 4) (hk8 : x.k < 256) (hf : ¬ (x.i < 0 ∨ (ls.length : Int) ≤ x.i)) (hg : ¬ room ≤ (ls.length : Int)) :
    Calls Try.prog 9 #[ptr p, ptr q, .agg x.arr] w (StepPost w B p q room lost x.qs.length) := by
  obtain ⟨k, ⟨sa, sn, sc⟩, qs, z⟩ := x
  dsimp only at *
  have hb1 := (Below.refl _ w).alloc (Nat.le_refl _) (.cells #[.int .u8 k, .slice sa sn sc, .int .i64 z] 36)
  have hbx : (w.alloc (.cells #[.int .u8 k, .slice sa sn sc, .int .i64 z] 36)).heap[w.heap.size]? = some (.cells #[.int .u8 k, .slice sa sn sc, .int .i64 z] 36) := heap_alloc_new w _
  obtain ⟨W1, hW1⟩ : ∃ W, W = w.alloc (.cells #[.int .u8 k, .slice sa sn sc, .int .i64 z] 36) := ⟨_, rfl⟩
  have HW := hid hW1
  go_enter Try.func9, Try.ntmps9
  rw [← hW1] at hb1 hbx
  have HB1 := hid hb1
  have HBX := hid hbx
  have HT1 := hid (hT.on hb1)
  have HX1 : Hid (Sr W1 B (.slice sa sn sc) qs) := hid (hx.on hb1)
  have HXB : Hid (0 < qs.length → ∀ k, (Value.slice sa sn sc).ownBlock = some k → k < B) := hid hxb
  have HXL := hid hxl
  have HBW : Hid (B ≤ w.heap.size) := hid hB
  have HBW1 : Hid (B ≤ W1.heap.size) := hid (Nat.le_trans hB hb1.size)
  have HR := hid hr
  have HLO := hid (And.intro hlo hxn)
  have hr2 := hr
  unfold roomB at hr2
  simp at hr2
  have HR2 := hid hr2
  have hk1 : (k : Int) % 5 = 4 := by omega
  have hk2 : (k : Int).tmod 5 = 4 := by rw [Int.tmod_eq_emod_of_nonneg (by omega)]; omega
  obtain ⟨v, u, ps, us, hP, hQ, hbp, hbu, hap, hroom, hgood, hl0⟩ := HT1.out
  have HT := hid (And.intro hP (And.intro hQ (And.intro hbp (And.intro hbu (And.intro hap (And.intro hroom (And.intro hgood hl0)))))))
  have hpl : ps.length = ls.length := by rw [← hbp, bs_len]
  have hul : us.length = ls.length := by rw [← hbu, bs_len]
  have HLEN := hid (And.intro hpl hul)
  have HBK : Hid (¬ Nb p v w.heap.size) := hid (hP.box hbx (by decide) (by decide))
  have HBS : Hid (w.heap.size < W1.heap.size) := hid (Array.getElem?_eq_some_iff.1 hbx).1
  obtain ⟨i, rfl⟩ : ∃ i : Nat, z = i := ⟨z.toNat, by omega⟩
  have hil : i < ls.length := by omega
  obtain ⟨y, hy⟩ : ∃ y, ps[i]? = some y := ⟨ps[i]'(by omega), List.getElem?_eq_getElem (by omega)⟩
  obtain ⟨x', hy2⟩ : ∃ x', us[i]? = some x' := ⟨us[i]'(by omega), List.getElem?_eq_getElem (by omega)⟩
  have e1 : ls[i]? = some y.2 := by rw [← hbp]; exact bs_at hy
  have e2 : ls[i]? = some x'.2 := by rw [← hbu]; exact bs_at hy2
  have HYY := hid (show y.2 = x'.2 from by rw [e1] at e2; exact Option.some.inj e2)
  have HYL := hid (hgood _ (List.mem_of_getElem? e1))
  have HY := hid hy
  have HY2 := hid hy2
  have HF := hid hf
  have HIL := hid hil
  have HE1 := hid e1
  clear hy hy2 e1 e2 hf hil
  have HG := hid hg
  clear hg
  clear hT hx hxb hxl hxn hr hlo hk hbx hb1 hW1 hP hQ hbp hbu hap hroom hgood hl0 hpl hul hB hr2
  go_wp2_with fail
  rw [← HW.out]
  go_at_call 16
  refine (cDouble_yes HT.out.1 HBW1.out HR.out (by rw [HLEN.out.1]; have h2 := HG.out; omega) i HY.out).mono ?_
  rintro e w2 ⟨v', rfl, hN, hTc, hF⟩
  have hL : LeftA 47 W1 w2 B p room v lost (ls ++ [y.2]) := ⟨v', _, hN, by rw [bs_append, HT.out.2.2.1]; rfl, hTc, hF⟩
  obtain ⟨v2, ps2, a1, a2, a3, a4, a5⟩ := act_beside (by decide) (by decide) (by decide) (by decide) (by decide) HT.out.1 HT.out.2.1 HT.out.2.2.2.2.1 hL
  have HL := hid hL
  have HA := hid (And.intro a3 a5)
  have hbx2 := a5.ob HBX.out HBK.out
  have box2 : w2.cell? ⟨w.heap.size, 2, none⟩ = some (.int .i64 (i : Int)) := cellAt' hbx2 2
  have HB2 : Hid (B ≤ w2.heap.size) := hid (Nat.le_trans HBW1.out a5.size)
  clear hL a1 a2 a3 a4 a5 hbx2 hN hTc hF
  go_wp2_with fail
  go_at_call 21
  refine (rDouble_yes HA.out.1 HB2.out i HY2.out (by rw [HLEN.out.2]; have h2 := HG.out; omega) HR2.out.2).mono ?_
  rintro e w3 ⟨rfl, hL2⟩
  rw [bs_append, HT.out.2.2.2.1, show bs [x'] = [y.2] from by rw [HYY.out]; rfl] at hL2
  have HL2 := hid hL2
  clear hL2 box2
  go_wp2_with fail
  go_ret
  exact step_post HBW.out HB1.out HT.out.1 HT.out.2.1 HT.out.2.2.2.2.1 HL.out HL2.out (by rw [List.length_append, List.length_singleton]; have h2 := HG.out; omega) (fun l hl => by rcases List.mem_append.1 hl with h | h; exact HT.out.2.2.2.2.2.2.1 l h; rw [List.mem_singleton.1 h]; exact HYL.out) HT.out.2.2.2.2.2.2.2 (by omega) (Below.refl _ _)

theorem cStep {w : World} {B p q : Nat} {room lost : Int} {ls : List (List UInt8)} {x : Av} (hT : Two w B p q room lost ls) (hB : B ≤ w.heap.size) (hx : Sr w B x.s.v x.qs) (hxb : 0 < x.qs.length → ∀ k, x.s.v.ownBlock = some k → k < B) (hxl : ∀ y ∈ x.qs, y.2.length ≤ 3000) (hxn : x.qs.length ≤ 3000) (hr : roomB room = true) (hlo : lost ≤ 100000) (hk8 : x.k < 256) :
    Calls Try.prog 9 #[ptr p, ptr q, .agg x.arr] w (StepPost w B p q room lost x.qs.length) := by
  have h5 : x.k % 5 = 0 ∨ x.k % 5 = 1 ∨ x.k % 5 = 2 ∨ x.k % 5 = 3 ∨ x.k % 5 = 4 := by omega
  by_cases hf : x.i < 0 ∨ (ls.length : Int) ≤ x.i
  · rcases h5 with h | h | h | h | h
    · exact step_send0 hT hB hx hxb hxl hxn hr hlo h hk8
    · exact step_send1 hT hB hx hxb hxl hxn hr hlo h hk8
    · exact step_notake2 hT hB hx hxb hxl hxn hr hlo h hk8 hf
    · exact step_notake3 hT hB hx hxb hxl hxn hr hlo h hk8 hf
    · exact step_nodouble hT hB hx hxb hxl hxn hr hlo h hk8 hf
  · rcases h5 with h | h | h | h | h
    · exact step_send0 hT hB hx hxb hxl hxn hr hlo h hk8
    · exact step_send1 hT hB hx hxb hxl hxn hr hlo h hk8
    · exact step_take2 hT hB hx hxb hxl hxn hr hlo h hk8 hf
    · exact step_take3 hT hB hx hxb hxl hxn hr hlo h hk8 hf
    · by_cases hg : room ≤ (ls.length : Int)
      · exact step_full hT hB hx hxb hxl hxn hr hlo h hk8 hf hg
      · exact step_double hT hB hx hxb hxl hxn hr hlo h hk8 hf hg
end Go.Proofs.Ytcfkifiejojciaa

/- Two markets side by side; commands that came in; orders that are the same. -/
import Derived.Test.YtdgllpfccdbdnaaKAlive
import Derived.Laws.StructEq
namespace Go.Proofs.Ytdgllpfccdbdnaa
set_option linter.unusedVariables false
set_option linter.unusedSimpArgs false
open Go.RowKit
open Go.Lib (hid)

/-- What a command tells of its symbol, and leaves there, hangs on that place alone. -/
theorem apply_at {c : C7} {P Q : Nat → Pl} {s : Nat} (h : P s = Q s) (hs : c.s = s) : (applyF c P).1 = (applyF c Q).1 ∧ (applyF c P).2.1 = (applyF c Q).2.1 ∧ (applyF c P).2.2.1 = (applyF c Q).2.2.1 ∧ (applyF c P).2.2.2 s = (applyF c Q).2.2.2 s := by
  have e : c.s.toNat = s := by omega
  unfold applyF
  rw [e, h]
  split
  · exact ⟨rfl, rfl, rfl, h⟩
  · split
    · exact ⟨rfl, rfl, rfl, h⟩
    · exact ⟨rfl, rfl, rfl, by simp only [upd_at]⟩
theorem apply_off {c : C7} {P : Nat → Pl} {s : Nat} (hs : c.s ≠ s) : (applyF c P).2.2.2 s = P s := by
  unfold applyF
  split
  · rfl
  · rename_i hc
    have hok : c.ok = true := by simpa using hc
    have := ok_sym hok
    split
    · rfl
    · exact upd_off _ _ (by omega)
theorem apply_len (c : C7) {P : Nat → Pl} (h : ∀ i, i < 4 → PlOk (P i)) : (applyF c P).2.1.length ≤ 8 := by
  unfold applyF
  split
  · simp
  · rename_i hc
    have hok : c.ok = true := by simpa using hc
    have := ok_sym hok
    split
    · simp
    · exact (does_ok c (h c.s.toNat (by omega)).1).2
theorem Mk.tch {w w' : World} {m m2 : Nat} {q : Nat → Nat} {P : Nat → Pl} {cs : Array Value} (h : Mk w m q P) (hm : w.heap[m2]? = some (.cells cs 62 (0, 0))) (ht : Tch (fun k => k = m2) w w') (hne : m ≠ m2) : Mk w' m q P :=
  ⟨ht.ob h.ob hne, fun i hi => (h.at' i hi).tch hm ht⟩
structure TwoM (w wr : World) (ma mb : Nat) (PA PB : Nat → Pl) : Prop where
  a : ∃ q, Mk wr ma q PA
  b : ∃ q, Mk wr mb q PB
  oa : ∀ i, i < 4 → PlOk (PA i)
  ob : ∀ i, i < 4 → PlOk (PB i)
  be : Below w.heap.size w wr
  ha : w.heap.size ≤ ma
  hb : w.heap.size ≤ mb
  ne : ma ≠ mb
theorem TwoM.on {w wr w' : World} {ma mb : Nat} {PA PB : Nat → Pl} (h : TwoM w wr ma mb PA PB) (hb : Below wr.heap.size wr w') : TwoM w w' ma mb PA PB := by
  obtain ⟨qa, ha⟩ := h.a
  obtain ⟨qb, hb2⟩ := h.b
  exact ⟨⟨qa, ha.on hb⟩, ⟨qb, hb2.on hb⟩, h.oa, h.ob, h.be.trans (hb.mono h.be.size), h.ha, h.hb, h.ne⟩
theorem TwoM.left {w wr w' : World} {ma mb : Nat} {PA PB : Nat → Pl} {e : Ending} {r : Int × List Fl × Int × (Nat → Pl)} (h : TwoM w wr ma mb PA PB) (hA : Appl wr w' ma e r) : TwoM w w' ma mb r.2.2.2 PB := by
  obtain ⟨qa, ha⟩ := h.a
  obtain ⟨qb, hb⟩ := h.b
  obtain ⟨hok, f, q', rfl, hf, hK, hT⟩ := hA
  exact ⟨⟨q', hK⟩, ⟨qb, hb.tch ha.ob hT (fun e => h.ne e.symm)⟩, hok, h.ob, h.be.trans (hT.below (fun k hk => by have := h.ha; omega) h.be.size), h.ha, h.hb, h.ne⟩
theorem TwoM.right {w wr w' : World} {ma mb : Nat} {PA PB : Nat → Pl} {e : Ending} {r : Int × List Fl × Int × (Nat → Pl)} (h : TwoM w wr ma mb PA PB) (hA : Appl wr w' mb e r) : TwoM w w' ma mb PA r.2.2.2 := by
  obtain ⟨qa, ha⟩ := h.a
  obtain ⟨qb, hb⟩ := h.b
  obtain ⟨hok, f, q', rfl, hf, hK, hT⟩ := hA
  exact ⟨⟨qa, ha.tch hb.ob hT h.ne⟩, ⟨q', hK⟩, h.oa, hok, h.be.trans (hT.below (fun k hk => by have := h.hb; omega) h.be.size), h.ha, h.hb, h.ne⟩

/-- Commands that came in. -/
def Sl (w : World) (v : Value) (cs : List C7) : Prop :=
  ∃ (b o cap : Nat) (a : Option Addr), v = .slice a cs.length cap ∧ (a = none → cap = 0) ∧ (0 < cs.length → a = some ⟨b, o, none⟩) ∧ CmsAt w b o cs ∧ (0 < cs.length → b < w.heap.size)
theorem Sl.shape {w : World} {v : Value} {cs : List C7} (h : Sl w v cs) : ∃ a n cap, v = .slice a n cap ∧ n = cs.length ∧ ∀ (j : Nat) c, cs[j]? = some c → ∃ b o, a = some ⟨b, o, none⟩ ∧ b < w.heap.size ∧
    w.cell? ⟨b, o + j * 7, none⟩ = some (.int .i64 c.i) ∧ w.cell? ⟨b, o + j * 7 + 1, none⟩ = some (.int .i64 c.k) ∧ w.cell? ⟨b, o + j * 7 + 2, none⟩ = some (.int .i64 c.s) ∧ w.cell? ⟨b, o + j * 7 + 3, none⟩ = some (.int .i64 c.t) ∧ w.cell? ⟨b, o + j * 7 + 4, none⟩ = some (.int .i64 c.d) ∧ w.cell? ⟨b, o + j * 7 + 5, none⟩ = some (.int .i64 c.p) ∧ w.cell? ⟨b, o + j * 7 + 6, none⟩ = some (.int .i64 c.q) := by
  obtain ⟨b, o, cap, a, rfl, _, ha, hc, hb⟩ := h
  refine ⟨a, _, cap, rfl, rfl, fun j x hx => ?_⟩
  have h0 : 0 < cs.length := by have := (List.getElem?_eq_some_iff.1 hx).1; omega
  exact ⟨b, o, ha h0, hb h0, hc j x hx 0 _ rfl, hc j x hx 1 _ rfl, hc j x hx 2 _ rfl, hc j x hx 3 _ rfl, hc j x hx 4 _ rfl, hc j x hx 5 _ rfl, hc j x hx 6 _ rfl⟩

theorem equalO (a : Od) (w : World) : Sem.run Try.prog (Op.equalIn 10000 52 a.v a.v) w = .ok true w := by
  have u3 := Try.underlying3
  have a3 := Try.isAgg3
  have z3 := Try.sizeOf3
  have u4 := Try.underlying40
  have a4 := Try.isAgg40
  have z4 := Try.sizeOf40
  have hS : Try.prog.underlying 52 = some (.struct (Try.prog.fieldsOf 52)) := by kernel_rfl
  have hp : Try.prog.stoodInHeld 52 = false := by kernel_rfl
  simp only [Od.v]
  rw [show (10000 : Nat) = 9999 + 1 from rfl, run_equalIn_agg w 9999 52 _ _ hS hp]
  simp only [Program.fieldsOf, Try.underlying52]
  go_simp
theorem neqO (a : Od) (w : World) : Sem.run Try.prog (binOp .neq 52 a.v a.v) w = .ok (.bool false) w := by
  rw [Od.v, run_neq_struct]
  have := equalO a w
  rw [Od.v] at this
  rw [this]; rfl
theorem guardO (op : BinOp) (x y : Operand) (a b : Od) (w : World) : Sem.run Try.prog (eqGuard op 52 x y a.v b.v) w = .ok () w := run_eqGuard_agg w op 52 x y _ _ (by kernel_rfl)
/-- A row of the program's orders, its words. -/
theorem OwnO.at {w : World} {B : Nat} {v : Value} {l : List Od} (h : OwnO w B v l) : ∃ a n c, v = .slice a n c ∧ n = l.length ∧ ∀ (j : Nat) o, l[j]? = some o → ∃ g, a = some ⟨g, 0, none⟩ ∧ g < w.heap.size ∧ w.cell? ⟨g, j * 4, none⟩ = some (.int .i64 o.i) ∧ w.cell? ⟨g, j * 4 + 1, none⟩ = some (.int .i64 o.s) ∧ w.cell? ⟨g, j * 4 + 2, none⟩ = some (.int .i64 o.p) ∧ w.cell? ⟨g, j * 4 + 3, none⟩ = some (.int .i64 o.n) := by
  rcases h.shape with ⟨rfl, rfl⟩ | ⟨g, cap, rfl, _, _, _, hg, hc, _⟩
  · exact ⟨none, 0, 0, rfl, rfl, fun j o hj => by simp at hj⟩
  · exact ⟨_, _, cap, rfl, rfl, fun j o hj => ⟨g, rfl, hg, hc j o hj⟩⟩
end Go.Proofs.Ytdgllpfccdbdnaa

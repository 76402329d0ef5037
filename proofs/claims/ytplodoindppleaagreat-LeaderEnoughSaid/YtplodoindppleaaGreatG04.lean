import Derived.Test.YtplodoindppleaaGreatG03
import Derived.Maps.Own
import Derived.Maps.Views
import Derived.Maps.OwnSet
import Derived.Maps.RangeWalk
import Derived.StillTailTactics
import Derived.Deep.RegionHeld
import Derived.Deep.LoopGhost
import Derived.Deep.Light
import Derived.Lib.SliceRun
import Derived.Deep.CutRange
import Derived.Shelf.SlGeneric
namespace Go.Proofs.YtplodoindppleaaGreat
set_option linter.unusedVariables false
open Go.RowKit
open Go.Lib (hid)
structure Tch (S : Nat → Prop) (w w' : World) : Prop where
 os : w'.os = w.os
 tape : w'.tape = w.tape
 output : w'.output = w.output
 size : w.heap.size ≤ w'.heap.size
 block : ∀ k, k < w.heap.size → ¬ S k → w'.heap[k]? = w.heap[k]?
theorem Tch.refl (S : Nat → Prop) (w : World) : Tch S w w := ⟨rfl, rfl, rfl, Nat.le_refl _, fun _ _ _ => rfl⟩
theorem Tch.trans {S : Nat → Prop} {a b c : World} (h : Tch S a b) (k : Tch S b c) : Tch S a c :=
 ⟨k.os.trans h.os, k.tape.trans h.tape, k.output.trans h.output, Nat.le_trans h.size k.size, fun i hi hn => (k.block i (Nat.lt_of_lt_of_le hi h.size) hn).trans (h.block i hi hn)⟩
theorem Tch.mono {S S' : Nat → Prop} {a b : World} (h : Tch S a b) (hS : ∀ k, S k → S' k) : Tch S' a b := ⟨h.os, h.tape, h.output, h.size, fun i hi hn => h.block i hi fun hs => hn (hS i hs)⟩
theorem Tch.ofBelow {S : Nat → Prop} {w w' : World} (h : Below w.heap.size w w') : Tch S w w' := ⟨h.1, h.2, h.3, h.4, fun k hk _ => h.5 k hk⟩
theorem Tch.ofGrown {S : Nat → Prop} {w w' : World} {row : Option Nat} (h : w.grownBy w' row) (hr : ∀ k, row = some k → S k) : Tch S w w' :=
 ⟨h.os, h.tape, h.output, h.size, fun k hk hn => h.block k hk fun e => hn (hr k e.symm)⟩
theorem Tch.below {S : Nat → Prop} {B : Nat} {w w' : World} (h : Tch S w w') (hS : ∀ k, S k → B ≤ k) (hB : B ≤ w.heap.size) : Below B w w' :=
 ⟨h.os, h.tape, h.output, h.size, fun k hk => h.block k (by omega) fun hs => by have := hS k hs; omega⟩
theorem Tch.ob {S : Nat → Prop} {w w' : World} (h : Tch S w w') {k : Nat} {o : Obj} (hk : w.heap[k]? = some o) (hS : ¬ S k) : w'.heap[k]? = some o := (h.block k (Array.getElem?_eq_some_iff.1 hk).1 hS).trans hk
theorem cell_of_heap {w w' : World} {k i : Nat} (h : w'.heap[k]? = w.heap[k]?) : w'.cell? ⟨k, i, none⟩ = w.cell? ⟨k, i, none⟩ := World.cell?_of_block (a := ⟨k, i, none⟩) h
theorem Sl.tch {S : Nat → Prop} {w w' : World} {v : Value} {cs : List C7} (h : Sl w v cs) (ht : Tch S w w') (hS : ∀ k, S k → ∀ i, 6 ≤ i → w.cell? ⟨k, i, none⟩ = none) : Sl w' v cs := by
 obtain ⟨b, o, cap, a, rfl, hn, ha, hc, hl⟩ := h
 refine ⟨b, o, cap, a, rfl, hn, ha, fun j c hj f u hu => ?_, fun h0 => Nat.lt_of_lt_of_le (hl h0) ht.size⟩
 have h0 : 0 < cs.length := by have := (List.getElem?_eq_some_iff.1 hj).1; omega
 have hb : ¬ S b := fun hs => by
  have h6 := hc j c hj 6 _ rfl
  rw [hS b hs _ (by omega)] at h6
  cases h6
 rw [cell_of_heap (ht.block b (hl h0) hb)]
 exact hc j c hj f u hu
theorem En.at.tch {S : Nat → Prop} {w w' : World} {x : En} (h : x.at w) (ht : Tch S w w') (hS : ∀ k, S k → ∀ i, 6 ≤ i → w.cell? ⟨k, i, none⟩ = none) : x.at w' := ⟨h.1.tch ht hS, h.2.1.tch ht hS, h.2.2.tch ht hS⟩
theorem AllAt.tch {S : Nat → Prop} {w w' : World} {xs : List En} (h : AllAt w xs) (ht : Tch S w w') (hS : ∀ k, S k → ∀ i, 6 ≤ i → w.cell? ⟨k, i, none⟩ = none) : AllAt w' xs := fun x hx => (h x hx).tch ht hS
open Classical in
noncomputable def RE (v : Value) : Option (DataW Value × List MemPlace) := if ∃ e : Ev, v = .agg e.arr then some (.held v, []) else none
abbrev key (i : Int) : Lit := .int .i64 i
theorem key_ne {i j : Int} (h : i ≠ j) : key i ≠ key j := fun e => h (by cases e; rfl)
def Says (D : DataW Value) (xs : List En) : Prop := ∀ i, (∀ x, lookG En.id xs i = some x → Maps.has D (key i) = true ∧ ∀ z, D.atKey (key i) z = .held (.agg x.e.arr)) ∧ (lookG En.id xs i = none → Maps.has D (key i) = false)
def Mp (w : World) (b n : Nat) (xs : List En) : Prop := ∃ D : DataW Value, w.ownsMap Tryz.prog 3 RE b n D ∧ Says D xs
theorem own_isMap {w : World} {P : Program} {k : TypeId} {R : Value → Option (DataW Value × List MemPlace)} {b n : Nat} {D : DataW Value} (h : w.ownsMap P k R b n D) : Maps.IsMap D := by
 obtain ⟨es, clock, _, _, _, rfl⟩ := h; exact ⟨_, rfl⟩
theorem Mp.made (w : World) : Mp (w.alloc (.map #[] 0)) w.heap.size 0 [] := ⟨_, World.ownsMap_made w _ _ _, fun i => ⟨fun x h => by simp [lookG] at h, fun _ => rfl⟩⟩
theorem Says.put {D : DataW Value} {xs : List En} (h : Says D xs) (hD : Maps.IsMap D) (x : En) : Says (D.put (key x.id) (.held (.agg x.e.arr))) (xs ++ [x]) := fun i => by
 by_cases hi : x.id = i
 · subst hi
   refine ⟨fun y hy => ?_, fun hy => ?_⟩
   · rw [look_snoc, if_pos rfl] at hy; cases hy
     have hk : WideAt.IsKeyLit (key x.id) := trivial
     exact ⟨Maps.has_put_same hD hk _, fun z => Maps.atKey_put_same hD hk _ z⟩
   · rw [look_snoc, if_pos rfl] at hy; cases hy
 · have hne := key_ne (Ne.symm hi)
   refine ⟨fun y hy => ?_, fun hy => ?_⟩
   · rw [look_snoc, if_neg hi] at hy
     obtain ⟨h1, h2⟩ := (h i).1 y hy
     exact ⟨(Maps.has_put_other hne _).trans h1, fun z => (Maps.atKey_put_other hne _ z).trans (h2 z)⟩
   · rw [look_snoc, if_neg hi] at hy
     exact (Maps.has_put_other hne _).trans ((h i).2 hy)
theorem Mp.lt {w : World} {b n : Nat} {xs : List En} (h : Mp w b n xs) : b < w.heap.size := by obtain ⟨D, h, _⟩ := h; exact h.lt
theorem Mp.keptT {S : Nat → Prop} {w w' : World} {b n : Nat} {xs : List En} (h : Mp w b n xs) (ht : Tch S w w') (hS : ¬ S b) : Mp w' b n xs := by
 obtain ⟨D, ⟨es, clock, hb, hrest⟩, hs⟩ := h
 exact ⟨D, ⟨es, clock, ht.ob hb hS, hrest⟩, hs⟩
theorem Mp.on {w w' : World} {b n : Nat} {xs : List En} (h : Mp w b n xs) (hb : Below w.heap.size w w') : Mp w' b n xs := h.keptT (Tch.ofBelow (S := fun _ => False) hb) (fun h => h)
theorem i64_wf {x : Int} (h : -9223372036854775808 ≤ x ∧ x ≤ 9223372036854775807) : (Lit.int .i64 x).wf = true := by
 have e1 : IntKind.i64.min = -9223372036854775808 := by decide
 have e2 : IntKind.i64.max = 9223372036854775807 := by decide
 simp [Lit.wf, e1, e2]; exact h
end Go.Proofs.YtplodoindppleaaGreat
namespace Go.Proofs.YtplodoindppleaaGreat
set_option linter.unusedVariables false
open Go.RowKit
open Go.Lib (hid)
theorem wanted_plain {o : Oper} {y : Nat → Option Bool} (hg : o.guard = none) : Region.wanted o y = true := by
 unfold Region.wanted; rw [hg]
end Go.Proofs.YtplodoindppleaaGreat
namespace Go.Proofs.YtplodoindppleaaGreat
set_option linter.unusedVariables false
open Go.RowKit
open Go.Lib (hid)
section
variable {P : Program} {md : Region.Mode} {S : World → Prop} {ops : Array Oper} {i : Nat} {o : Oper} {rs : List Nat} {fuel : Nat} {listed listed' : Array Bool} {a a' : Act} {w : World} {Q : Exit → Act → World → Prop}
theorem rh_start {id n : Nat} (hm : P.follows .mixedOrders = true) (hn : ops.size = n) (hl : Array.replicate n false = listed) (h : wpAnyH P .any ops Q S n listed a w.drew) : (Code.region id ops true).wp P Q a w := by
 subst hn hl
 exact wp_region_held hm h
theorem rh_load {cs : List Value} {d : TypeDesc} {T : TypeId} {x : Operand} {b q : Nat} (hi : ops[i]? = some o) (hs : Region.noSelect ops = true) (hf : Region.free md ops listed i = true) (hr : (Region.ready md ops listed).contains i = true)
 (hQ : ∀ c a w, Q (.panic c) (a.put o.dst (.agg cs.toArray)) w → Q (.panic c) a w) (hl : listed.setIfInBounds i true = listed') (hg : o.guard = none) (ho : o.op = .load T x) (hx : a.eval x = .pointer (some ⟨b, q, none⟩)) (hc : ∀ w, S w → w.rangeAt b q cs) (hu : P.underlying T = some d) (hd : d.isRow = true) (hz : (P.info? T).map (·.size) = some cs.length)
 (ha : a.put o.dst (.agg cs.toArray) = a') (hS : S w) (h : wpAnyH P md ops Q S fuel listed' a' w) : wpAnyH P md ops Q S (fuel + 1) listed a w := by
 subst hl ha
 exact wpAnyH_take hi hs hf hr hQ (yieldsIf_load_mid (wanted_plain hg) T x ho b q hx cs d hc hu hd hz) hS h
theorem rh_cons (hi : ops[i]? = some o) (hl : listed.setIfInBounds i true = listed') (hg : o.guard = none) (h : ∀ K' : Act → World → Prop, Shut (∀ a w, S w → wpAnyH P md ops Q S fuel listed' a w → K' a w) → Oper.wp P o a w K' Q) (hs : AllReadyH P md ops Q S fuel listed a w rs) : AllReadyH P md ops Q S fuel listed a w (i :: rs) := by
 subst hl
 refine AllReadyH.cons hi (fun K' hK => ?_) hs
 rw [if_pos (wanted_plain hg)]
 exact h K' (fun a w h1 h2 => hK.out a w h1 (fun _ => h2))
end
section
variable {md : Region.Mode} {S : World → Prop} {ops : Array Oper} {i : Nat} {o : Oper} {rs : List Nat} {fuel : Nat} {listed listed' : Array Bool} {a a' : Act} {w : World} {Q : Exit → Act → World → Prop}
end
end Go.Proofs.YtplodoindppleaaGreat
namespace Go.Proofs.YtplodoindppleaaGreat
set_option linter.unusedVariables false
open Go.RowKit
open Go.Lib (hid)
structure Mg where
 so : Int
 fr : Int
 tt : Int
 bal : Int
 c : C7
 vt : Int
 vp : Sv
 fl : Bool
 s : Int
 ab : Int
 xt : Int
 xp : Sv
 ft : Int
 fp : Sv
def Mg.list (m : Mg) : List Value := [.int .i64 m.so, .int .i64 m.fr, .int .i64 m.tt, .int .i64 m.bal, .int .i64 m.c.i, .int .i64 m.c.k, .int .i64 m.c.s, .int .i64 m.c.t, .int .i64 m.c.d, .int .i64 m.c.p, .int .i64 m.c.q, .int .i64 m.vt, m.vp.v, .bool m.fl, .int .i64 m.s, .int .i64 m.ab, .int .i64 m.xt, m.xp.v, .int .i64 m.ft, m.fp.v]
def Mg.arr (m : Mg) : Array Value := m.list.toArray
theorem Mg.len (m : Mg) : m.list.length = 20 := rfl
theorem Mg.size (m : Mg) : m.arr.size = 20 := rfl
theorem Mg.toList (m : Mg) : m.arr.toList = m.list := by unfold Mg.arr; simp
theorem Mg.one' (m : Mg) : ∀ u ∈ m.list, u.oneCell' = true := fun v hv => by
 unfold Mg.list at hv; simp at hv
 rcases hv with h | h | h | h | h | h | h | h | h | h | h | h | h | h | h | h | h | h | h | h <;> subst h <;> rfl
theorem Mg.one (m : Mg) : m.arr.all (·.oneCell') = true := all_oneCell_toArray m.one'
theorem infoM (m : Mg) : (Tryz.prog.info? 48).map (·.size) = some m.list.length := by rw [Mg.len]; kernel_rfl
theorem infoM' (m : Mg) : (Tryz.prog.info? 48).map (·.size) = some m.arr.size := by rw [Mg.size]; kernel_rfl
abbrev OM (w : World) (q : Nat) (m : Mg) : Prop := w.heap[q]? = some (.cells m.arr 48 (0, 0))
theorem OM.range {w : World} {q : Nat} {m : Mg} (h : OM w q m) : w.rangeAt q 0 m.list := fun j v hv => by
 rw [Nat.zero_add, cellAt' h, ← Array.getElem?_toList, Mg.toList]; exact hv
theorem OM.cell {w : World} {q : Nat} {m : Mg} (h : OM w q m) {j : Nat} {v : Value} (hv : m.list[j]? = some v) : w.cell? ⟨q, j, none⟩ = some v := by
 have := h.range j v hv; rwa [Nat.zero_add] at this
theorem OM.free {w : World} {q : Nat} {m : Mg} (h : OM w q m) (j : Nat) : w.frozen? ⟨q, j, none⟩ = false := frozenAt h j
theorem OM.set {w : World} {q j : Nat} {m m' : Mg} {v : Value} (h : OM w q m) (he : m.arr.setIfInBounds j v = m'.arr) : OM (w.setCell ⟨q, j, none⟩ v) q m' := by
 have := setAt (j := j) (x := v) h
 rw [he] at this; exact this
theorem loadM {ops : Array Oper} {rest : List Oper} {op : Oper} {c : Act} {w : World} {Q : Exit → Act → World → Prop} {x : Operand} {b : Nat} (m : Mg) (hgd : op.guard = none) (ho : op.op = .load 48 x)
 (hx : c.eval x = .pointer (some ⟨b, 0, none⟩)) (hc : OM w b m) (h : wpList Tryz.prog ops Q rest (c.put op.dst (.agg m.arr)) w) : wpList Tryz.prog ops Q (op :: rest) c w :=
 wpList_load_mid hgd 48 x ho b 0 hx m.list _ hc.range Tryz.underlying48 rfl (infoM m) h
theorem loadMl {ops : Array Oper} {rest : List Oper} {op : Oper} {c : Act} {w : World} {Q : Exit → Act → World → Prop} {x : Operand} {b o : Nat} (m : Mg) (hgd : op.guard = none) (ho : op.op = .load 48 x)
 (hx : c.eval x = .pointer (some ⟨b, o, none⟩)) (hc : w.rangeAt b o m.list) (h : wpList Tryz.prog ops Q rest (c.put op.dst (.agg m.arr)) w) : wpList Tryz.prog ops Q (op :: rest) c w :=
 wpList_load_mid hgd 48 x ho b o hx m.list _ hc Tryz.underlying48 rfl (infoM m) h
def RoomM (w : World) (q : Nat) : Prop := ∃ C : Array Value, w.heap[q]? = some (.cells C 48 (0, 0)) ∧ C.size = 20
theorem OM.room {w : World} {q : Nat} {m : Mg} (h : OM w q m) : RoomM w q := ⟨_, h, m.size⟩
theorem setsOM {w : World} {q : Nat} {C : Array Value} (m : Mg) (h : w.heap[q]? = some (.cells C 48 (0, 0))) (hs : C.size = 20) : OM (w.setCells q 0 m.arr.toList) q m := by
 obtain ⟨C', h1, h2, _, h4⟩ := setsAll m.arr.toList 0 C w h
 have : C' = m.arr := by
  apply Array.ext_getElem?
  intro j
  by_cases hj : j < 20
  · have := h4 j (by rw [Mg.toList, Mg.len]; exact hj) (by omega)
    rw [Nat.zero_add] at this
    rw [this]; simp
  · rw [Array.getElem?_eq_none (by omega), Array.getElem?_eq_none (by rw [Mg.size]; omega)]
 subst this
 exact h1
theorem storeM {ops : Array Oper} {rest : List Oper} {op : Oper} {c : Act} {w : World} {Q : Exit → Act → World → Prop} {x y : Operand} {b : Nat} (m : Mg) (hgd : op.guard = none) (ho : op.op = .store 48 x y)
 (hx : c.eval x = .pointer (some ⟨b, 0, none⟩)) (hy : c.eval y = .agg m.arr) (hC : RoomM w b) (h : ∀ W, OM W b m → Upd b w W → wpList Tryz.prog ops Q rest (c.put op.dst undef) W) : wpList Tryz.prog ops Q (op :: rest) c w := by
 obtain ⟨C, hC, hs⟩ := hC
 exact wpList_store_mid hgd 48 x y ho b 0 m.arr hx hy (thereOf hC (by rw [hs]; exact Nat.le_refl _)) (infoM' m) (Mg.one m) (h _ (setsOM m hC hs) (setsUpd w b _))
abbrev zS : Sv := ⟨none, 0, 0⟩
abbrev z7 : C7 := ⟨0, 0, 0, 0, 0, 0, 0⟩
abbrev zM : Mg := ⟨0, 0, 0, 0, z7, 0, zS, false, 0, 0, 0, zS, 0, zS⟩
abbrev zeroMc : Obj := .cells #[.int .i64 0, .int .i64 0, .int .i64 0, .int .i64 0, .int .i64 0, .int .i64 0, .int .i64 0, .int .i64 0, .int .i64 0, .int .i64 0, .int .i64 0, .int .i64 0, .slice none 0 0, .bool false, .int .i64 0, .int .i64 0, .int .i64 0, .slice none 0 0, .int .i64 0, .slice none 0 0] 48
theorem Tryz.infoMz : (Tryz.prog.info? 48).map (fun i => (i.zero, i.size, i.bytes)) = some (some (.agg zM.arr), 20, 208) := by kernel_rfl
structure Ms where
 m : Mg
 v : List C7
 a : List C7
 f : List C7
def Ms.at (w : World) (x : Ms) : Prop := Sl w x.m.vp.v x.v ∧ Sl w x.m.xp.v x.a ∧ Sl w x.m.fp.v x.f
theorem Ms.at.on {w w' : World} {x : Ms} (h : x.at w) (hb : Below w.heap.size w w') : x.at w' := ⟨h.1.on hb, h.2.1.on hb, h.2.2.on hb⟩
theorem Ms.at.tch {S : Nat → Prop} {w w' : World} {x : Ms} (h : x.at w) (ht : Tch S w w') (hS : ∀ k, S k → ∀ i, 6 ≤ i → w.cell? ⟨k, i, none⟩ = none) : x.at w' := ⟨h.1.tch ht hS, h.2.1.tch ht hS, h.2.2.tch ht hS⟩
def Ms.short (n : Nat) (x : Ms) : Prop := x.v.length ≤ n ∧ x.a.length ≤ n ∧ x.f.length ≤ n
abbrev kM : ∀ m : Mg, m.list.length = 20 := Mg.len
abbrev SlM (w : World) (v : Value) (ms : List Mg) : Prop := SlG Mg.list 20 w v ms
abbrev OwnM (w : World) (B : Nat) (v : Value) (ms : List Mg) : Prop := OwnG Mg.list 20 48 w B v ms
abbrev mgs (ms : List Ms) : List Mg := ms.map Ms.m
theorem at_mgs {ms : List Ms} {j : Nat} {x : Ms} (h : ms[j]? = some x) : (mgs ms)[j]? = some x.m := by unfold mgs; rw [List.getElem?_map, h]; rfl
structure An where
 so : Int
 fr : Int
 tt : Int
 bal : Int
 c : C7
 vt : Int
 vl : List C7
 fl : Bool
 s : Int
 ab : Int
 xt : Int
 xl : List C7
 ft : Int
 fpl : List C7
def Ms.an (x : Ms) : An := ⟨x.m.so, x.m.fr, x.m.tt, x.m.bal, x.m.c, x.m.vt, x.v, x.m.fl, x.m.s, x.m.ab, x.m.xt, x.a, x.m.ft, x.f⟩
def inB (x g : Int) : Bool := decide (0 ≤ x) && decide (x < g)
end Go.Proofs.YtplodoindppleaaGreat
namespace Go.Proofs.YtplodoindppleaaGreat
set_option linter.unusedVariables false
open Go.RowKit
open Go.Lib (hid)
set_option maxHeartbeats 600000 in
set_option maxRecDepth 100000 in
theorem cEqual {v v' : Value} {cs ds : List C7} {w : World} (h : Sl w v cs) (h' : Sl w v' ds) (hl : cs.length ≤ 100000) (hl' : ds.length ≤ 100000) : Calls Tryz.prog 124 #[v, v'] w fun e w' => e = .returned (.bool (sameB cs ds)) ∧ Below w.heap.size w w' := by
 obtain ⟨b, o, cap, a, rfl, ha, hc, hb⟩ := h.open
 obtain ⟨b', o', cap', a', rfl, ha', hc', hb'⟩ := h'.open
 clear h h'
 by_cases hlen : cs.length = ds.length
 · rw [hlen] at ha hb hl
   rw [hlen]
   have HL := hid hlen
   clear hlen
   go_enter Tryz.func124, Tryz.ntmps124
   go_wp2
   go_loopw [13] (fun i wr => ∃ k : Nat, k ≤ ds.length ∧ i = .int .i64 k ∧ Hid (∀ j, j < k → ∀ x, cs[j]? = some x → ∀ y, ds[j]? = some y → x.same y = true) ∧ Below w.heap.size w wr) (fun i _ => ds.length - (intOf i).toNat)
   case atStart => exact ⟨0, Nat.zero_le _, rfl, fun j hj => absurd hj (by omega), Below.refl _ _⟩
   case round =>
    obtain ⟨k, hk, rfl, hak, hB⟩ := hrel
    by_cases hlt : k < ds.length
    · obtain rfl := ha (by omega)
      obtain rfl := ha' (by omega)
      obtain ⟨x, hxx⟩ : ∃ x, cs[k]? = some x := ⟨cs[k]'(by rw [HL.out]; exact hlt), List.getElem?_eq_getElem (by rw [HL.out]; exact hlt)⟩
      obtain ⟨y, hyy⟩ : ∃ y, ds[k]? = some y := ⟨ds[k], List.getElem?_eq_getElem (by omega)⟩
      have hbw := hb (by omega)
      have hbw' := hb' (by omega)
      obtain ⟨c0, c1, c2, c3, c4, c5, c6⟩ := (hc.on hB hbw).at hxx
      obtain ⟨d0, d1, d2, d3, d4, d5, d6⟩ := (hc'.on hB hbw').at hyy
      have HX := hid (And.intro hxx hyy)
      have HB := hid hB
      clear hxx hyy hB
      rcases hs : x.same y with _ | _
      · have hE := neqC hs
        have hG := fun op p q W => guardC op p q x y W
        have HS := hid hs
        clear hs
        go_wp2
        go_quiet (fail)
        go_wp2
        go_ret
        exact ⟨ret_bool (same_no HX.out.1 HX.out.2 HS.out).symm, Below.drewN' HB.out _⟩
      · have hE := neqC hs
        have hG := fun op p q W => guardC op p q x y W
        have HS := hid hs
        clear hs
        go_wp2
        go_quiet (fail)
        go_wp2
        go_roundw
        case rel => exact ⟨k + 1, by omega, by go_num, same_next hak.out HX.out.1 HX.out.2 HS.out, Below.drewN' HB.out _⟩
        case measure => simp [intOf]; omega
    · have HS : Hid (sameB cs ds = true) := same_yes HL.out (by rw [HL.out]; omega) hak.out
      go_wp2
      go_ret
      exact ⟨ret_bool HS.out.symm, hB⟩
 · have HS : Hid (sameB cs ds = false) := same_len hlen
   go_enter Tryz.func124, Tryz.ntmps124
   go_wp2
   go_ret
   exact ⟨ret_bool HS.out.symm, Below.refl _ _⟩
theorem cSame {v v' : Value} {cs ds : List C7} {w : World} (h : Sl w v cs) (h' : Sl w v' ds) (hl : cs.length ≤ 100000) (hl' : ds.length ≤ 100000) : Calls Tryz.prog 103 #[v, v'] w fun e w' => e = .returned (.bool (sameB cs ds)) ∧ Below w.heap.size w w' := by
 have hE := cEqual h h' hl hl'
 clear h h'
 go_enter Tryz.func103, Tryz.ntmps103
 go_wp2_with (go_at_call 124; refine hE.mono ?_; rintro e w' ⟨rfl, hB⟩)
 go_ret
 exact ⟨rfl, hB⟩
end Go.Proofs.YtplodoindppleaaGreat
namespace Go.Proofs.YtplodoindppleaaGreat
set_option linter.unusedVariables false
open Go.RowKit
open Go.Lib (hid)
theorem cValid (t : Int) (w : World) : Calls Tryz.prog 92 #[.int .i64 t] w fun e w' => e = .returned (.bool (validB t)) ∧ w = w' := by
 by_cases h0 : 16 ≤ t
 · by_cases h1 : t < 1048576
   · by_cases h2 : t % 16 < 9
     · go_enter Tryz.func92, Tryz.ntmps92
       go_wp2
       go_ret
       exact ⟨ret_bool (by unfold validB; symm; simp; omega), rfl⟩
     · go_enter Tryz.func92, Tryz.ntmps92
       go_wp2
       go_ret
       exact ⟨ret_bool (by unfold validB; symm; simp; omega), rfl⟩
   · go_enter Tryz.func92, Tryz.ntmps92
     go_wp2
     go_ret
     exact ⟨ret_bool (by unfold validB; symm; simp; omega), rfl⟩
 · go_enter Tryz.func92, Tryz.ntmps92
   go_wp2
   go_ret
   exact ⟨ret_bool (by unfold validB; symm; simp; omega), rfl⟩
end Go.Proofs.YtplodoindppleaaGreat
namespace Go.Proofs.YtplodoindppleaaGreat
set_option linter.unusedVariables false
open Go.RowKit
open Go.Lib (hid)
theorem cSortW (x : Int) (w : World) : Calls Tryz.prog 59 #[.int .i64 x] w fun e w' => e = .returned (.bool (inB x 9)) ∧ w = w' := by
 have hc : (0 ≤ x ∧ x < 9) ∨ (0 ≤ x ∧ ¬ x < 9) ∨ ¬ 0 ≤ x := by omega
 rcases hc with ⟨h1, h2⟩ | ⟨h1, h2⟩ | h1
 · have e1 : inB x 9 = true := by simp [inB, h1, h2]
   rw [e1]
   go_enter Tryz.func59, Tryz.ntmps59
   go_wp2
   go_ret
   exact ⟨rfl, rfl⟩
 · have e1 : inB x 9 = false := by simp [inB, h2]
   rw [e1]
   go_enter Tryz.func59, Tryz.ntmps59
   go_wp2
   go_ret
   exact ⟨rfl, rfl⟩
 · have e1 : inB x 9 = false := by simp [inB, h1]
   rw [e1]
   go_enter Tryz.func59, Tryz.ntmps59
   go_wp2
   go_ret
   exact ⟨rfl, rfl⟩
theorem cReplicaW (x : Int) (w : World) : Calls Tryz.prog 60 #[.int .i64 x] w fun e w' => e = .returned (.bool (inB x 9)) ∧ w = w' := by
 have hc : (0 ≤ x ∧ x < 9) ∨ (0 ≤ x ∧ ¬ x < 9) ∨ ¬ 0 ≤ x := by omega
 rcases hc with ⟨h1, h2⟩ | ⟨h1, h2⟩ | h1
 · have e1 : inB x 9 = true := by simp [inB, h1, h2]
   rw [e1]
   go_enter Tryz.func60, Tryz.ntmps60
   go_wp2
   go_ret
   exact ⟨rfl, rfl⟩
 · have e1 : inB x 9 = false := by simp [inB, h2]
   rw [e1]
   go_enter Tryz.func60, Tryz.ntmps60
   go_wp2
   go_ret
   exact ⟨rfl, rfl⟩
 · have e1 : inB x 9 = false := by simp [inB, h1]
   rw [e1]
   go_enter Tryz.func60, Tryz.ntmps60
   go_wp2
   go_ret
   exact ⟨rfl, rfl⟩
theorem cBallotW (t : Int) (w : World) : Calls Tryz.prog 61 #[.int .i64 t] w fun e w' => e = .returned (.bool (withinB t 1048576)) ∧ w = w' := by
 by_cases h0 : 0 ≤ t
 · go_enter Tryz.func61, Tryz.ntmps61
   go_wp2
   go_ret
   exact ⟨ret_bool (by unfold withinB; symm; simp; omega), rfl⟩
 · go_enter Tryz.func61, Tryz.ntmps61
   go_wp2
   go_ret
   exact ⟨ret_bool (by unfold withinB; symm; simp; omega), rfl⟩
set_option maxHeartbeats 600000 in
set_option maxRecDepth 100000 in
theorem cStampedW {v : Value} {l : List C7} {w : World} (t : Int) (h : Sl w v l) (hl : l.length ≤ 1024) : Calls Tryz.prog 90 #[.agg #[.int .i64 t, v]] w fun e w' => e = .returned (.bool (fullB t l)) ∧ Below w.heap.size w w' := by
 obtain ⟨_, _, cap, a, hv, _⟩ := id h
 subst hv
 have hS := cSetRight (h.on ((Below.refl _ w).alloc (Nat.le_refl _) (boxV t (.slice a l.length cap)))) hl
 have hV := fun W => cValid t W
 rcases hv : validB t with _ | _
 · rw [hv] at hV
   have HE := hid (show fullB t l = false by unfold fullB; rw [hv]; rfl)
   clear hv
   go_enter Tryz.func90, Tryz.ntmps90
   go_wp2_with (first | (go_at_call 92; refine (hV _).mono ?_; rintro e w' ⟨rfl, rfl⟩) | (go_at_call 93; refine hS.mono ?_; rintro e w1 ⟨rfl, hB⟩; have HB := hid hB; clear hB))
   go_ret
   exact ⟨ret_bool HE.out.symm, ((Below.refl _ w).alloc (Nat.le_refl _) _)⟩
 · rw [hv] at hV
   have HE := hid (show fullB t l = setB l by unfold fullB; rw [hv]; rfl)
   clear hv
   go_enter Tryz.func90, Tryz.ntmps90
   go_wp2_with (first | (go_at_call 92; refine (hV _).mono ?_; rintro e w' ⟨rfl, rfl⟩) | (go_at_call 93; refine hS.mono ?_; rintro e w1 ⟨rfl, hB⟩; have HB := hid hB; clear hB))
   go_ret
   exact ⟨ret_bool HE.out.symm, ((Below.refl _ w).alloc (Nat.le_refl _) _).trans (HB.out.mono (by simp))⟩
structure Vv where
 t : Int
 p : Sv
 l : List C7
def RowsV (w : World) (b o : Nat) (vs : List Vv) : Prop := ∀ (j : Nat) (x : Vv), vs[j]? = some x → w.cell? ⟨b, o + j * 2, none⟩ = some (.int .i64 x.t) ∧ w.cell? ⟨b, o + j * 2 + 1, none⟩ = some (.slice x.p.a x.p.n x.p.c) ∧ x.p.n = x.l.length
def noneL (vs : List Vv) : Bool := vs.all fun x => noneB x.t x.l
set_option maxHeartbeats 4000000 in
set_option maxRecDepth 100000 in
theorem cNoneW {w : World} {b cap : Nat} {vs : List Vv} (h : RowsV w b 0 vs) (hb : b < w.heap.size) (hl : vs.length ≤ 100) : Calls Tryz.prog 91 #[.slice (some ⟨b, 0, none⟩) vs.length cap] w fun e w' => e = .returned (.bool (noneL vs)) ∧ Below w.heap.size w w' := by
 have HR := hid h
 obtain ⟨n, hn⟩ : ∃ n, n = vs.length := ⟨_, rfl⟩
 rw [← hn] at hl ⊢
 have HN := hid hn
 clear h hn
 go_enter Tryz.func91, Tryz.ntmps91
 go_wp2_with fail
 go_loopw [4, 7] (fun _ s7 wr => ∃ k : Nat, k ≤ n ∧ s7 = .int .i64 k ∧ Hid (∀ x ∈ vs.take k, noneB x.t x.l = true) ∧ Below w.heap.size w wr) (fun _ s7 _ => n - (RowKit.intOf s7).toNat)
 case atStart => exact ⟨0, Nat.zero_le _, rfl, hid (by simp), Below.refl _ _⟩
 case round =>
  obtain ⟨k, hk, rfl, HA, hB⟩ := hrel
  have HB := hid hB
  by_cases hlt : k < n
  · have hltz : (k : Int) < (n : Int) := by omega
    obtain ⟨x, hx⟩ : ∃ x, vs[k]? = some x := ⟨vs[k]'(by rw [← HN.out]; exact hlt), List.getElem?_eq_getElem (by rw [← HN.out]; exact hlt)⟩
    obtain ⟨k0, k1, hpn⟩ := HR.out k x hx
    rw [Nat.zero_add] at k0 k1
    have d0 := (hB.cell (p := ⟨b, k * 2, none⟩) hb).trans k0
    have d1 := (hB.cell (p := ⟨b, k * 2 + 1, none⟩) hb).trans k1
    have HX := hid hx
    have HPN := hid hpn
    obtain ⟨⟨xt, ⟨pa, pn, pc⟩, xl⟩, hxx⟩ : ∃ y : Vv, y = x := ⟨x, rfl⟩
    subst hxx
    clear hx hpn k0 k1 hB
    have HBx : Hid (Below w.heap.size w (wr.alloc (.cells #[.int .i64 xt, .slice pa pn pc] 34))) := hid (HB.out.alloc HB.out.size _)
    by_cases h1 : xt = 0
    · by_cases h2 : 0 < pn
      · have h2z : (0 : Int) < (pn : Int) := by omega
        have HE : Hid (noneL vs = false) := hid (by
         unfold noneL
         rw [List.all_eq_false]
         refine ⟨_, List.mem_of_getElem? HX.out, ?_⟩
         have := HPN.out
         simp only [noneB, Bool.and_eq_true, decide_eq_true_eq]
         simp only at this
         omega)
        subst h1
        go_wp2_with fail
        go_ret
        exact ⟨ret_bool HE.out.symm, by first | exact HBx.out | exact HB.out⟩
      · have h2z : ¬ (0 : Int) < (pn : Int) := by omega
        have HNX : Hid (noneB xt xl = true) := hid (by
         have := HPN.out
         simp only at this
         simp only [noneB, Bool.and_eq_true, decide_eq_true_eq]
         omega)
        subst h1
        go_wp2_with fail
        go_roundw
        case rel => exact ⟨k + 1, by omega, by go_num, hid (fun y hy => by
         rw [List.take_add_one, HX.out] at hy
         rcases List.mem_append.1 hy with hy | hy
         · exact HA.out y hy
         · simp at hy; subst hy; exact HNX.out), by first | exact HBx.out | exact HB.out⟩
        case measure => first | omega | (simp [RowKit.intOf]; omega)
    · have HE : Hid (noneL vs = false) := hid (by
       unfold noneL
       rw [List.all_eq_false]
       refine ⟨_, List.mem_of_getElem? HX.out, ?_⟩
       simp only [noneB, Bool.and_eq_true, decide_eq_true_eq]
       omega)
      go_wp2_with fail
      go_ret
      exact ⟨ret_bool HE.out.symm, by first | exact HBx.out | exact HB.out⟩
  · have hltz : ¬ (k : Int) < (n : Int) := by omega
    have HE : Hid (noneL vs = true) := hid (by
     unfold noneL
     rw [List.all_eq_true]
     intro x hx
     refine HA.out x ?_
     rw [show k = vs.length by have := HN.out; omega, List.take_length]; exact hx)
    go_wp2_with fail
    go_ret
    exact ⟨ret_bool HE.out.symm, HB.out⟩
end Go.Proofs.YtplodoindppleaaGreat

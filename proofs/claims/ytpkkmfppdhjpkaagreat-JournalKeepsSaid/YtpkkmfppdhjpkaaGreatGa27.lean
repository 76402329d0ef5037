import Derived.Test.YtpkkmfppdhjpkaaGreatObjM
import Derived.Test.YtpkkmfppdhjpkaaGreatGa18
import Derived.Test.YtpkkmfppdhjpkaaGreatGa16
import Derived.Test.YtpkkmfppdhjpkaaGreatCDecM
import Derived.Test.YtpkkmfppdhjpkaaGreatCEncYM


/- Slices whose elements take several cells, for whatever elements; entries, in slices. -/
namespace Go.Proofs.YtpkkmfppdhjpkaaGreat
set_option linter.unusedVariables false
open Go.RowKit
open Go.Lib (hid)

section
variable {α : Type}
def flatG (cl : α → List Value) (xs : List α) : List Value := xs.flatMap cl
theorem flatG_nil (cl : α → List Value) : flatG cl [] = [] := rfl
theorem flatG_cons (cl : α → List Value) (x : α) (xs : List α) : flatG cl (x :: xs) = cl x ++ flatG cl xs := by simp [flatG]
theorem flatG_append (cl : α → List Value) (a b : List α) : flatG cl (a ++ b) = flatG cl a ++ flatG cl b := by simp [flatG]
theorem flatG_one (cl : α → List Value) (x : α) : flatG cl [x] = cl x := by simp [flatG]
theorem flatG_len {cl : α → List Value} {K : Nat} (hk : ∀ x, (cl x).length = K) : ∀ xs : List α, (flatG cl xs).length = xs.length * K
  | [] => by simp [flatG]
  | x :: xs => by rw [flatG_cons, List.length_append, hk, flatG_len hk xs, List.length_cons, Nat.add_mul]; omega
theorem flatG_at {cl : α → List Value} {K : Nat} (hk : ∀ x, (cl x).length = K) : ∀ (xs : List α) (j : Nat) (x : α), xs[j]? = some x → ∀ (f : Nat) v, (cl x)[f]? = some v → (flatG cl xs)[j * K + f]? = some v
  | [], j, x, h, _, _, _ => by simp at h
  | d :: xs, 0, x, h, f, v, hv => by
    simp at h; subst h
    have hf := (List.getElem?_eq_some_iff.1 hv).1
    rw [flatG_cons, Nat.zero_mul, Nat.zero_add, List.getElem?_append_left hf]; exact hv
  | d :: xs, j + 1, x, h, f, v, hv => by
    have := flatG_at hk xs j x (by simpa using h) f v hv
    have h7 : (cl d).length = K := hk d
    rw [flatG_cons, List.getElem?_append_right (by rw [h7, Nat.add_mul]; omega), h7, show (j + 1) * K + f - K = j * K + f by rw [Nat.add_mul]; omega]
    exact this
theorem flatG_all {cl : α → List Value} (h1 : ∀ x, ∀ u ∈ cl x, u.oneCell' = true) (xs : List α) : ∀ u ∈ flatG cl xs, u.oneCell' = true := fun u hu => by
  obtain ⟨x, _, hx⟩ := List.mem_flatMap.1 hu
  exact h1 x u hx
def RowsG (cl : α → List Value) (K : Nat) (w : World) (b o : Nat) (xs : List α) : Prop := ∀ (j : Nat) x, xs[j]? = some x → w.rangeAt b (o + j * K) (cl x)
def SlG (cl : α → List Value) (K : Nat) (w : World) (v : Value) (xs : List α) : Prop :=
  ∃ (b o cap : Nat) (a : Option Addr), v = .slice a xs.length cap ∧ (0 < xs.length → a = some ⟨b, o, none⟩) ∧ RowsG cl K w b o xs ∧ (0 < xs.length → b < w.heap.size)
theorem RowsG.on {cl : α → List Value} {K : Nat} {w w' : World} {b o B : Nat} {xs : List α} (h : RowsG cl K w b o xs) (hb : Below B w w') (hB : 0 < xs.length → b < B) : RowsG cl K w' b o xs := fun j x hx i v hv => by
  have h0 : 0 < xs.length := by have := (List.getElem?_eq_some_iff.1 hx).1; omega
  exact (hb.cell (p := ⟨b, _, none⟩) (hB h0)).trans (h j x hx i v hv)
theorem SlG.on {cl : α → List Value} {K : Nat} {w w' : World} {v : Value} {xs : List α} (h : SlG cl K w v xs) (hb : Below w.heap.size w w') : SlG cl K w' v xs := by
  obtain ⟨b, o, cap, a, rfl, ha, hr, hl⟩ := h
  exact ⟨b, o, cap, a, rfl, ha, hr.on hb hl, fun h0 => Nat.lt_of_lt_of_le (hl h0) hb.size⟩
theorem SlG.nil (cl : α → List Value) (K : Nat) (w : World) : SlG cl K w (.slice none 0 0) [] := ⟨0, 0, 0, none, rfl, fun h => absurd h (by simp), fun j x h => by simp at h, fun h => absurd h (by simp)⟩
abbrev OwnG (cl : α → List Value) (K : Nat) (T : TypeId) (w : World) (B : Nat) (v : Value) (xs : List α) : Prop := w.ownsRow B T K v xs.length (flatG cl xs)
theorem OwnG.nil (cl : α → List Value) (K : Nat) (T : TypeId) (w : World) (B : Nat) : OwnG cl K T w B (.slice none 0 0) [] := World.ownsRow_nil _ _ _ _
theorem addr_add (g j : Nat) : (⟨g, 0, none⟩ : Addr).add j = ⟨g, j, none⟩ := by unfold Addr.add; split <;> simp_all
theorem addr_add' (g o j : Nat) : (⟨g, o, none⟩ : Addr).add j = ⟨g, o + j, none⟩ := by unfold Addr.add; split <;> simp_all
theorem OwnG.slG {cl : α → List Value} {K : Nat} {T : TypeId} {w : World} {B : Nat} {v : Value} {xs : List α} (hk : ∀ x, (cl x).length = K) (h : OwnG cl K T w B v xs) : SlG cl K w v xs := by
  have hl := h.lt
  have hcl := fun g (hg : v.ownBlock = some g) => h.cells hg
  rcases h.2 with ⟨rfl, h0⟩ | ⟨g, cap, cur, rfl, hb, hg, hn, hm, hs, ht⟩
  · obtain rfl : xs = [] := List.length_eq_zero_iff.1 h0
    exact SlG.nil _ _ _
  · refine ⟨g, 0, cap, _, rfl, fun _ => rfl, fun j x hx f v hv => ?_, fun _ => (hl g rfl).2⟩
    have := hcl g rfl _ _ (flatG_at hk xs j x hx f v hv)
    rw [addr_add] at this
    rw [show 0 + j * K + f = j * K + f by omega]; exact this
theorem OwnG.asSlice {cl : α → List Value} {K : Nat} {T : TypeId} {w : World} {B : Nat} {v : Value} {xs : List α} (h : OwnG cl K T w B v xs) : ∃ (g : Option Addr) (cap n : Nat), v = .slice g n cap ∧ n = xs.length := by
  rcases h.2 with ⟨rfl, h0⟩ | ⟨g, cap, cur, rfl, _⟩
  · exact ⟨none, 0, 0, rfl, h0.symm⟩
  · exact ⟨_, cap, _, rfl, rfl⟩
theorem OwnG.on {cl : α → List Value} {K : Nat} {T : TypeId} {w w' : World} {B : Nat} {v : Value} {xs : List α} (h : OwnG cl K T w B v xs) (hb : Below w.heap.size w w') : OwnG cl K T w' B v xs := own_below h hb fun k hk => (h.lt k hk).2
theorem OwnG.mono {cl : α → List Value} {K : Nat} {T : TypeId} {w : World} {B B' : Nat} {v : Value} {xs : List α} (h : OwnG cl K T w B v xs) (hB : B' ≤ B) : OwnG cl K T w B' v xs := own_monoB h hB
theorem OwnG.grows {cl : α → List Value} {K : Nat} {T : TypeId} {w W0 w1 : World} {B n : Nat} {v v' : Value} {xs : List α} {x : α} (hB : Below B w W0) (hsz : B ≤ W0.heap.size) (hlt : ∀ k, v.ownBlock = some k → B ≤ k)
    (hown' : w1.ownsRow B T K v' n (flatG cl xs ++ cl x)) (hn : n = xs.length + 1) (hg : W0.grownBy w1 v.ownBlock) : OwnG cl K T w1 B v' (xs ++ [x]) ∧ Below B w w1 :=
  ⟨by unfold OwnG; rw [flatG_append, flatG_one, List.length_append, List.length_singleton, ← hn]; exact hown', hB.grown hg hsz hlt⟩
end

abbrev kE : ∀ e : Ev, e.list.length = 19 := Ev.len
theorem oneE (e : Ev) : ∀ u ∈ e.list, u.oneCell' = true := fun u hu => by
  have := Array.all_eq_true_iff_forall_mem.1 (Ev.one e) u
  exact this (by rw [← Array.mem_toList_iff, Ev.toList]; exact hu)
/-- A slice of entries, of the program's or the document's. -/
abbrev SlE (w : World) (v : Value) (es : List Ev) : Prop := SlG Ev.list 19 w v es
abbrev OwnE (w : World) (B : Nat) (v : Value) (es : List Ev) : Prop := OwnG Ev.list 19 48 w B v es
abbrev OwnR (w : World) (B : Nat) (v : Value) (es : List Ev) : Prop := OwnG Ev.list 19 44 w B v es
theorem zE_cells : zE.arr.toList = zE.list := Ev.toList _
theorem Tryz.infoEz : (Tryz.prog.info? 48).map (fun i => (i.zero, i.size, i.bytes)) = some (some (.agg #[.int .i64 0, .int .i64 0, .int .i64 0, .int .i64 0, .int .i64 0, .int .i64 0, .int .i64 0, .int .i64 0, .int .i64 0, .int .i64 0, .int .i64 0, .slice none 0 0, .int .i64 0, .int .i64 0, .slice none 0 0, .bool false, .bool false, .int .i64 0, .slice none 0 0]), 19, 192) := by kernel_rfl
theorem Tryz.infoRz : (Tryz.prog.info? 44).map (fun i => (i.zero, i.size, i.bytes)) = some (some (.agg #[.int .i64 0, .int .i64 0, .int .i64 0, .int .i64 0, .int .i64 0, .int .i64 0, .int .i64 0, .int .i64 0, .int .i64 0, .int .i64 0, .int .i64 0, .slice none 0 0, .int .i64 0, .int .i64 0, .slice none 0 0, .bool false, .bool false, .int .i64 0, .slice none 0 0]), 19, 192) := by kernel_rfl
/-- An entry, and its three sets. -/
structure En where
  e : Ev
  f : List C7
  a : List C7
  v : List C7
def En.at (w : World) (x : En) : Prop := Sl w x.e.fp.v x.f ∧ Sl w x.e.xp.v x.a ∧ Sl w x.e.vp.v x.v
theorem En.at.on {w w' : World} {x : En} (h : x.at w) (hb : Below w.heap.size w w') : x.at w' := ⟨h.1.on hb, h.2.1.on hb, h.2.2.on hb⟩
abbrev En.right (x : En) : Bool := rightE x.e x.f x.a x.v
abbrev En.id (x : En) : Int := x.e.c.i
/-- The sets are short. -/
def En.short (n : Nat) (x : En) : Prop := x.f.length ≤ n ∧ x.a.length ≤ n ∧ x.v.length ≤ n
/-- What it holds, wherever its sets lie. -/
def En.ct (x : En) : Ev × List C7 × List C7 × List C7 := ({ x.e with fp := ⟨none, 0, 0⟩, xp := ⟨none, 0, 0⟩, vp := ⟨none, 0, 0⟩ }, x.f, x.a, x.v)
def AllAt (w : World) (xs : List En) : Prop := ∀ x ∈ xs, x.at w
theorem AllAt.on {w w' : World} {xs : List En} (h : AllAt w xs) (hb : Below w.heap.size w w') : AllAt w' xs := fun x hx => (h x hx).on hb
end Go.Proofs.YtpkkmfppdhjpkaaGreat
/- A record: a clock and an entry, as bytes; the program's decode of one that was put. -/
namespace Go.Proofs.YtpkkmfppdhjpkaaGreat
set_option linter.unusedVariables false
open Go.RowKit
open Go.Lib (hid)

/-- The bytes of a record. -/
def recB (c : Nat) (x : En) : List UInt8 := oneN c ++ entB x.e x.f x.a x.v
theorem int_of {n : Int} (h : 0 ≤ n) : ((n.toNat : Nat) : Int) = n := Int.toNat_of_nonneg h
theorem mark_of (b : Bool) : decide ((markI b).toNat = 1) = b := by cases b <;> decide
/-- What is taken of an entry's bytes is that entry, wherever its sets lie. -/
theorem ct_back {x : En} (h : x.right = true) (p q r : Sv) : (⟨(takeE (entB x.e x.f x.a x.v, 0)).ev p q r, x.f, x.a, x.v⟩ : En).ct = x.ct := by
  have hf := right_fine h
  rw [take_back hf]
  unfold Tk.ev En.ct
  dsimp only
  rw [int_of hf.pr.1, int_of hf.lo.1, int_of hf.hi.1, int_of hf.f.2.1, int_of hf.ab.1, int_of hf.a.2.1, int_of hf.v.2.1, mark_of, mark_of]
theorem newAt {n : Nat} {x : Obj} {W : World} (h : n = W.heap.size) : (W.alloc x).heap[n]? = some x := by subst h; exact heap_alloc_new W x
theorem lists_of {x : En} (h : x.right = true) : (takeE (entB x.e x.f x.a x.v, 0)).f.2 = x.f ∧ (takeE (entB x.e x.f x.a x.v, 0)).a.2 = x.a ∧ (takeE (entB x.e x.f x.a x.v, 0)).v.2 = x.v := by rw [take_back (right_fine h)]; exact ⟨rfl, rfl, rfl⟩
theorem Sl.zero {w W : World} {v : Value} {cs : List C7} {z : Nat} {T : TypeId} (h : Sl w v cs) (hz : Ob w z T zE) (hu : Upd z w W) (hc : ∀ c ∈ cs, c.i ≠ 0) : Sl W v cs := by
  obtain ⟨b, o, cap, a, rfl, hn, ha, hcs, hl⟩ := h
  refine ⟨b, o, cap, a, rfl, hn, ha, fun j c hj f u hf => ?_, fun h0 => by rw [hu.size]; exact hl h0⟩
  have h0 : 0 < cs.length := by have := (List.getElem?_eq_some_iff.1 hj).1; omega
  have hne : b ≠ z := fun e => by
    subst e
    have h1 := hcs j c hj 0 _ rfl
    have h2 : ∀ (i : Nat) u, zE.list[i]? = some u → u ≠ .int .i64 c.i := fun i u hi => by
      have := hc c (List.mem_of_getElem? hj)
      have hm := List.mem_of_getElem? hi
      intro e
      rw [e] at hm
      simp [Ev.list, Sv.v] at hm
      exact this hm
    rw [cellAt' hz] at h1
    exact h2 (o + (j * 7 + 0)) _ (by simpa [Ev.arr] using h1) rfl
  exact (World.cell?_of_block (a := ⟨b, o + (j * 7 + f), none⟩) (hu.other b (hl h0) hne)).trans (hcs j c hj f u hf)
theorem En.at.zero {w W : World} {x : En} {z : Nat} {T : TypeId} (h : x.at w) (hz : Ob w z T zE) (hu : Upd z w W) (hc : ∀ c ∈ x.f ++ x.a ++ x.v, c.i ≠ 0) : x.at W :=
  ⟨h.1.zero hz hu fun c hx => hc c (by simp [hx]), h.2.1.zero hz hu fun c hx => hc c (by simp [hx]), h.2.2.zero hz hu fun c hx => hc c (by simp [hx])⟩
theorem nz_ok {c : C7} (h : c.ok = true) : c.i ≠ 0 := fun e => by
  obtain ⟨i, a1, a2, a3, a4, a5, a6⟩ := c
  subst e
  have h0 : namedB 0 = false := by decide
  simp [C7.ok, oneB, h0] at h
theorem nz_of {x : En} (h : x.right = true) : ∀ c ∈ x.f ++ x.a ++ x.v, c.i ≠ 0 := fun c hc => by
  have hf := right_fine h
  simp only [List.mem_append] at hc
  rcases hc with (hc | hc) | hc
  · exact nz_ok (List.all_eq_true.1 (all_ok hf.f.1) c hc)
  · exact nz_ok (List.all_eq_true.1 (all_ok hf.a.1) c hc)
  · exact nz_ok (List.all_eq_true.1 (all_ok hf.v.1) c hc)
theorem ret_tmp_cell_tmp {P : Program} {fn : Func} {a : Act} {w : World} {p u t : Tmp} {ty : TypeId} {b o : Nat} {cs : List Value} {d : TypeDesc} {v z : Value} (h : fn.results = #[.tmp t, .cell p ty, .tmp u]) (ht0 : a.tmps.getD t undef = z) (hp : a.tmps.getD p undef = .pointer (some ⟨b, o, none⟩)) (hu : a.tmps.getD u undef = v)
    (hc : w.rangeAt b o cs) (ht : P.underlying ty = some d) (hd : d.isRow = true) (hi : (P.info? ty).map (·.size) = some cs.length) : (results fn a.tmps).run P w = .ok (.tuple #[z, .agg cs.toArray, v]) w := by
  unfold results
  rw [h]
  simp only [Array.getD_eq_getD_getElem?] at ht0 hp hu
  simp [ht0, hp, hu, asAddr, run_loadVar_mid w b o ty cs d hc ht hd hi, Result.andThen]
set_option maxHeartbeats 4000000 in
set_option maxRecDepth 100000 in
theorem cJDecode {c : Nat} {x : En} {vb : Value} {w : World} (hb : SlB w vb (recB c x)) (hc : c ≤ 65535) (hr : x.right = true) (hl : (recB c x).length ≤ 1000000) :
    Calls Tryz.prog 21 #[vb] w fun z w' => ∃ y : En, z = .returned (.tuple #[.int .i64 c, .agg y.e.arr, .int .i64 0]) ∧ y.ct = x.ct ∧ y.at w' ∧ Below w.heap.size w w' := by
  have HC : Hid (numS (recB c x, 0) = (c, (entB x.e x.f x.a x.v, 0))) := hid (numS_one (by omega) _)
  have HL : Hid ((entB x.e x.f x.a x.v).length ≤ 1000000) := hid (by unfold recB at hl; rw [List.length_append] at hl; omega)
  have HG := hid (good_back hr)
  have HLS := hid (lists_of hr)
  have HCT := hid (fun p q r => ct_back hr p q r)
  have HNZ := hid (nz_of hr)
  have hc1 : ¬ (65535 : Int) < (c : Int) := by omega
  have hc2 : decide ((65535 : Int) < (c : Int)) = false := decide_eq_false hc1
  have hc3 : decide (65535 < c) = false := decide_eq_false (by omega)
  have HZ : Hid (Ob (w.alloc zeroEc) (w.heap.size) 48 zE) := hid (laid1_0 w zeroEc)
  have HW : Hid (Below w.heap.size w (w.alloc zeroEc)) := hid (laid1_b w zeroEc)
  have tok : Hid (0 = 0) := hid rfl
  have HS0 : Hid (SlB (w.alloc zeroEc) vb (recB c x)) := hid (hb.on ((Below.refl _ w).alloc (Nat.le_refl _) _))
  have hsz0 : (w.alloc zeroEc).heap.size = w.heap.size + 1 := by simp
  have HSZ := hid hsz0; clear hsz0
  clear hb
  go_enter Tryz.func21, Tryz.ntmps21
  go_wp2_with (first
    | (clear tok; (with_reducible refine opaqueW (w.alloc zeroEc) ?_); intro W0 hW; rw [← hW] at HZ HW HS0 HSZ; clear hW)
    | fail)
  go_at_call 44
  refine (cRead HS0.out hl).mono ?_
  rintro z w1 ⟨p, rfl, hp0, hp1, hR, hB⟩
  have hwp : w.heap.size + 1 ≤ p := by have := HSZ.out; omega
  have hFq : ∀ k, (W0.heap.size ≤ k ∧ k < p) → w.heap.size < k := fun k hk => by have := HSZ.out; omega
  clear HS0
  have GZ : Hid (Ob w1 (w.heap.size) 48 zE) := hid (heapB (HZ.out) hB (Array.getElem?_eq_some_iff.1 (HZ.out)).1)
  have GW := hid ((HW.out).trans (hB.mono (HW.out).size))
  clear hB HZ HW
  have HZ := GZ; clear GZ
  have HW := GW; clear GW
  have HWP := hid hwp; have HR := hid hR; have HP1 := hid hp1; have HFQ := hid hFq
  clear hwp hR hp1 hp0 hFq hl
  go_wp2_with fail
  go_at_call 45
  refine (cNumX HC.out HR.out).mono ?_
  rintro z w2 ⟨rfl, hR, hg⟩
  have GZ : Hid (Ob w2 w.heap.size 48 zE) := hid (obGrow HZ.out hg (by have := HWP.out; omega))
  have GW : Hid (Below w.heap.size w w2) := hid (HW.out.grown hg HW.out.size (fun k hk => by cases hk; have := HWP.out; omega))
  clear HZ HW HR HP1 hg
  have HZ := GZ; clear GZ
  have HW := GW; clear GW
  have HR := hid hR; clear hR
  have hE := cErr HR.out
  go_wp2_with (first
    | (go_at_call 46; refine hE.mono ?_; rintro z w' ⟨rfl, rfl⟩)
    | fail)
  go_at_call 48
  refine (cRest HR.out HL.out).mono ?_
  rintro z w3 ⟨r3, rfl, hO, hB⟩
  clear hE
  have HO := hid hO.slb
  obtain ⟨g3, c3, n3, rfl, hn3⟩ := hO.asSlice
  clear hO hn3 HR
  have GZ : Hid (Ob w3 (w.heap.size) 48 zE) := hid (heapB (HZ.out) hB (Array.getElem?_eq_some_iff.1 (HZ.out)).1)
  have GW := hid ((HW.out).trans (hB.mono (HW.out).size))
  clear hB HZ HW
  have HZ := GZ; clear GZ
  have HW := GW; clear GW
  go_wp2_with fail
  go_at_call 47
  refine (cDecode HO.out HL.out).mono ?_
  rintro z w4 ⟨E, p4, q4, r4, rfl, hy, -, hB⟩
  obtain ⟨hE, s1, s2, s3⟩ := hy HG.out
  rw [HLS.out.1] at s1; rw [HLS.out.2.1] at s2; rw [HLS.out.2.2] at s3
  have HY : Hid (En.ct ⟨E, x.f, x.a, x.v⟩ = x.ct) := hid (by rw [hE]; exact HCT.out p4 q4 r4)
  have HA : Hid (En.at w4 ⟨E, x.f, x.a, x.v⟩) := hid (by
    have e1 : E.fp = p4 := by rw [hE]; rfl
    have e2 : E.xp = q4 := by rw [hE]; rfl
    have e3 : E.vp = r4 := by rw [hE]; rfl
    exact ⟨by rw [e1]; exact s1, by rw [e2]; exact s2, by rw [e3]; exact s3⟩)
  have HY2 := hid HY.out; clear HY
  have hgd := HG.out
  rw [if_pos hgd]
  clear hE s1 s2 s3 hy hgd HO
  have GZ : Hid (Ob w4 (w.heap.size) 48 zE) := hid (heapB (HZ.out) hB (Array.getElem?_eq_some_iff.1 (HZ.out)).1)
  have GW := hid ((HW.out).trans (hB.mono (HW.out).size))
  clear hB HZ HW
  have HZ := GZ; clear GZ
  have HW := GW; clear GW
  have ltYZ : w.heap.size < w4.heap.size := (Array.getElem?_eq_some_iff.1 (HZ.out)).1
  have ltwY : w.heap.size ≤ w4.heap.size := (HW.out).size
  have RY : Room (w4.alloc zeroEc) (w4.heap.size) 48 := ⟨_, newAt (x := zeroEc) rfl, rfl⟩
  go_wp2_with (first
    | ((with_reducible refine uponStore (e := E) (RY) ?_); intro w5 hO hU; have hBb : Below w4.heap.size w4 w5 := ((Below.refl _ w4).alloc (Nat.le_refl _) _).trans (hU.below _ (Nat.le_refl _)); have HA5 := hid (HA.out.on hBb); clear hBb; have GY := hid hO; have GZ : Hid (Ob w5 (w.heap.size) 48 zE) := hid (hU.ob ((obAlloc (x := zeroEc) HZ.out)) (by omega)); have GW := hid ((((HW.out).alloc (HW.out).size zeroEc)).trans (hU.below _ (by first | exact Nat.le_refl _ | omega))); clear hO hU; clear HZ HW; have HZ := GZ; clear GZ; have HY := GY; clear GY; have HW := GW; clear GW)
    | fail)
  refine rh_start (S := fun W => Ob W w4.heap.size 48 E ∧ Below w.heap.size w W) (n := 5) (listed := #[false, false, false, false, false]) (by kernel_rfl) rfl rfl ?_
  have GZ : Hid (Ob w5.drew w.heap.size 48 zE) := hid (obDrew HZ.out)
  have GS : Hid (Ob w5.drew w4.heap.size 48 E ∧ Below w.heap.size w w5.drew) := hid ⟨obDrew HY.out, belowDrew HW.out⟩
  have GA : Hid (En.at w5.drew ⟨E, x.f, x.a, x.v⟩) := hid (HA5.out.on (belowDrew (Below.refl _ w5)))
  clear HZ HY HW HA5 HA
  generalize World.drew w5 = wd at GZ GS GA ⊢
  refine rh_take (i := 0) (o := ?o1) (v := ?v1) (listed' := ?l1) (a' := ?a1) ?hi1 (by kernel_rfl) (by kernel_rfl) (by kernel_rfl) ?hq1 ?hl1 ?hw1 ?hv1 ?ha1 GS.out ?hh1
  case hi1 => (simp only [List.getElem?_toArray, List.getElem?_cons_zero]; try rfl)
  case hq1 => exact fun _ _ _ h => h
  case hl1 => (simp only [List.setIfInBounds_toArray, List.set_cons_zero]; try rfl)
  case hw1 => rfl
  case hv1 =>
    intro w
    go_simp
    try with_reducible rfl
  case ha1 => (simp only [Act.put, List.setIfInBounds_toArray, List.set_cons_succ, List.set_cons_zero]; try rfl)
  refine rh_load (i := 1) (o := ?o2) (cs := E.list) (T := 48) (x := ?x2) (b := ?b2) (q := ?q2) (listed' := ?l2) (a' := ?a2) ?hi2 (by kernel_rfl) (by kernel_rfl) (by kernel_rfl) ?hq2 ?hl2 ?hg2 ?ho2 ?hx2 ?hc2 Tryz.underlying48 rfl (infoEc E) ?ha2 GS.out ?hh2
  case hi2 => (simp only [List.getElem?_toArray, List.getElem?_cons_succ, List.getElem?_cons_zero]; try rfl)
  case hq2 => exact fun _ _ _ h => h
  case hl2 => (simp only [List.setIfInBounds_toArray, List.set_cons_succ, List.set_cons_zero]; try rfl)
  case hg2 => rfl
  case ho2 => rfl
  case hx2 => rfl
  case hc2 => exact fun W hW => Ob.range (T := 48) hW.1
  case ha2 => (show Act.put _ _ (Value.agg E.arr) = _); (simp only [Act.put, List.setIfInBounds_toArray, List.set_cons_succ, List.set_cons_zero]; try rfl)
  refine wpAnyH_ready (rs := [2]) (by kernel_rfl) (by simp) ?_
  refine rh_assign (i := 2) (o := ?o3) (listed' := ?l3) (a' := ?a3) (x := ?x3) (v := ?v3) ?hi3 ?hl3 ?hg3 ?ho3 ?hv3 ?ha3 GS.out ?hh3 ?hs3
  case hi3 => (simp only [List.getElem?_toArray, List.getElem?_cons_succ, List.getElem?_cons_zero]; try rfl)
  case hl3 => (simp only [List.setIfInBounds_toArray, List.set_cons_succ, List.set_cons_zero]; try rfl)
  case hg3 => rfl
  case ho3 => rfl
  case hv3 => rfl
  case ha3 => (simp only [Act.put, List.setIfInBounds_toArray, List.set_cons_succ, List.set_cons_zero]; try rfl)
  case hs3 =>
    exact AllReadyH.nil
  refine wpAnyH_ready (rs := [3]) (by kernel_rfl) (by simp) ?_
  refine rh_storeC (i := 3) (o := ?o4) (listed' := ?l4) (x := ?x4) (y := ?y4) (b := ?b4) (T := 48) E ?hi4 ?hl4 ?hg4 ?ho4 ?hx4 ?hy4 ?hd4 ?hc4 ?hh4 ?hs4
  case hi4 => (simp only [List.getElem?_toArray, List.getElem?_cons_succ, List.getElem?_cons_zero]; try rfl)
  case hl4 => (simp only [List.setIfInBounds_toArray, List.set_cons_succ, List.set_cons_zero]; try rfl)
  case hg4 => rfl
  case ho4 => rfl
  case hx4 => rfl
  case hy4 => rfl
  case hd4 => rfl
  case hc4 => exact Ob.room GZ.out
  case hs4 => exact AllReadyH.nil
  intro w7 hO hU
  have HZ := hid hO
  have HS : Hid (Ob w7 w4.heap.size 48 E ∧ Below w.heap.size w w7) := hid ⟨hU.ob GS.out.1 (by omega), GS.out.2.trans (hU.below _ (Nat.le_refl _))⟩
  have HA := hid (GA.out.zero GZ.out hU HNZ.out)
  clear GZ GS GA hO hU
  refine ⟨HS.out, ?_⟩
  refine wpAnyH_ready (rs := [4]) (by kernel_rfl) (by simp) ?_
  refine rh_assign (i := 4) (o := ?o5) (listed' := ?l5) (a' := ?a5) (x := ?x5) (v := ?v5) ?hi5 ?hl5 ?hg5 ?ho5 ?hv5 ?ha5 HS.out ?hh5 ?hs5
  case hi5 => (simp only [List.getElem?_toArray, List.getElem?_cons_succ, List.getElem?_cons_zero]; try rfl)
  case hl5 => (simp only [List.setIfInBounds_toArray, List.set_cons_succ, List.set_cons_zero]; try rfl)
  case hg5 => rfl
  case ho5 => rfl
  case hv5 => rfl
  case ha5 => (simp only [Act.put, List.setIfInBounds_toArray, List.set_cons_succ, List.set_cons_zero]; try rfl)
  case hs5 =>
    exact AllReadyH.nil
  refine wpAnyH_done (by kernel_rfl) ?_ _
  go_wp2_with fail
  refine bodyPost_ret (ret_tmp_cell_tmp rfl rfl rfl rfl (Ob.range (e := E) HZ.out) Tryz.underlying48 rfl (infoEc E)) rfl ⟨⟨E, x.f, x.a, x.v⟩, rfl, HY2.out, HA.out, HS.out.2⟩
end Go.Proofs.YtpkkmfppdhjpkaaGreat

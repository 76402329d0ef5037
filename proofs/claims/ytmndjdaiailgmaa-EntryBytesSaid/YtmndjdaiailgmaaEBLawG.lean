/- The law EntryBytes: for every entry and every bytes: the bytes of an entry that may be are the document's, it is decoded from them; what is decoded of bytes is the document's, and has them. The law returns true. No condition. -/
import Derived.Test.YtmndjdaiailgmaaBGb
import Derived.Deep.RegionHeld
import Derived.Test.YtmndjdaiailgmaaEnt7
import Derived.Laws.BytesArg
import Derived.Laws.IdiomStrings
import Derived.Test.YtmndjdaiailgmaaMem
import Derived.Lib.SmallJoins
import Derived.Carry
import Derived.Handed
import Derived.OpenShut
import Derived.Deep.Slices
import Derived.Deep.Fields
import Derived.ChangeSame
import Derived.Test.YtmndjdaiailgmaaRd
import Derived.ChangeSlices
/- The law EntryBytes: small things. -/
namespace Go.Proofs.Ytmndjdaiailgmaa
set_option linter.unusedVariables false
open Go.RowKit
open Go.Lib (hid)

abbrev strB (l : List UInt8) : Value := .string ⟨l.toArray⟩
theorem convB {w : World} {v : Value} {l : List UInt8} (h : SlB w v l) : (convert 42 9 v).run Try.prog w = .ok (strB l) w := by
  rcases h.src with ⟨rfl, rfl⟩ | ⟨ad, cap, rfl, hc, _⟩
  · exact run_convert_bytes_nil (P := Try.prog) (w := w) _ 5 Try.underlying42 Try.underlying5 0 0 _ Try.underlying9
  · exact run_convert_bytes_back w _ _ 5 ad cap l Try.underlying42 Try.underlying5 Try.underlying9 fun j hj => hc j _ (by simp [octs, List.getElem?_eq_getElem hj])
theorem newAt {n : Nat} {x : Obj} {W : World} (h : n = W.heap.size) : (W.alloc x).heap[n]? = some x := by subst h; exact heap_alloc_new W x
theorem roomAlloc {q : Nat} {T : TypeId} {x : Obj} {W : World} (h : Room W q T) : Room (W.alloc x) q T := by
  obtain ⟨C, h1, h2⟩ := h
  exact ⟨C, obAlloc h1, h2⟩
theorem sameB_self (l : List C7) : sameB l l = true := by unfold sameB; simp
theorem sameE_ev (t : Tk) (p q r p' q' r' : Sv) : sameE (t.ev p q r) t.f.2 t.a.2 t.v.2 (t.ev p' q' r') t.f.2 t.a.2 t.v.2 = true := by
  unfold sameE Tk.ev
  simp [sameB_self, C7.same_iff.2]
theorem sameE_zE : sameE zE [] [] [] zE [] [] [] = true := by decide
theorem rightE_zE : rightE zE [] [] [] = false := by decide
theorem sameE_back {e : Ev} {f a v : List C7} (h : rightE e f a v = true) (p q r : Sv) : sameE ((takeE (entB e f a v, 0)).ev p q r) (takeE (entB e f a v, 0)).f.2 (takeE (entB e f a v, 0)).a.2 (takeE (entB e f a v, 0)).v.2 e f a v = true := by
  have hf := right_fine h
  rw [take_back hf]
  unfold Tk.ev
  dsimp only
  rw [nat_eq hf.pr.1, nat_eq hf.lo.1, nat_eq hf.hi.1, nat_eq hf.f.2.1, nat_eq hf.ab.1, nat_eq hf.a.2.1, nat_eq hf.v.2.1, mark_eq, mark_eq]
  unfold sameE
  simp [sameB_self, C7.same_iff.2]
theorem lists_back {e : Ev} {f a v : List C7} (h : rightE e f a v = true) : (takeE (entB e f a v, 0)).f.2 = f ∧ (takeE (entB e f a v, 0)).a.2 = a ∧ (takeE (entB e f a v, 0)).v.2 = v := by
  rw [take_back (right_fine h)]; exact ⟨rfl, rfl, rfl⟩
theorem good_right {t : Tk} (h : t.good = true) (p q r : Sv) : rightE (t.ev p q r) t.f.2 t.a.2 t.v.2 = true := by
  unfold Tk.good at h
  simp only [Bool.and_eq_true] at h
  exact h.2.2.2.2
theorem wanted_plain {o : Oper} {y : Nat → Option Bool} (hg : o.guard = none) : Region.wanted o y = true := by
  unfold Region.wanted; rw [hg]
theorem nilL (W : World) : Sl W (⟨none, 0, 0⟩ : Sv).v [] := (Own.nil W 0).sl
section
variable {P : Program} {md : Region.Mode} {S : World → Prop} {ops : Array Oper} {i : Nat} {o : Oper} {rs : List Nat} {fuel : Nat} {listed listed' : Array Bool} {a a' : Act} {w : World} {Q : Exit → Act → World → Prop}
theorem rh_start {id n : Nat} (hm : P.follows .mixedOrders = true) (hn : ops.size = n) (hl : Array.replicate n false = listed) (h : wpAnyH P .any ops Q S n listed a w.drew) : (Code.region id ops true).wp P Q a w := by
  subst hn hl
  exact wp_region_held hm h
theorem rh_take {v : Value} (hi : ops[i]? = some o) (hs : Region.noSelect ops = true) (hf : Region.free md ops listed i = true) (hr : (Region.ready md ops listed).contains i = true)
    (hQ : ∀ c a w, Q (.panic c) (a.put o.dst v) w → Q (.panic c) a w) (hl : listed.setIfInBounds i true = listed') (hw : Region.wanted o (yielded ops a.tmps) = true) (hv : ∀ w, (execOp a.eval o).run P w = .ok (.value v) w) (ha : a.put o.dst v = a') (hS : S w) (h : wpAnyH P md ops Q S fuel listed' a' w) : wpAnyH P md ops Q S (fuel + 1) listed a w := by
  subst hl ha
  exact wpAnyH_take hi hs hf hr hQ (.inl ⟨hw, fun w _ => hv w⟩) hS h
theorem rh_load {cs : List Value} {d : TypeDesc} {T : TypeId} {x : Operand} {b q : Nat} (hi : ops[i]? = some o) (hs : Region.noSelect ops = true) (hf : Region.free md ops listed i = true) (hr : (Region.ready md ops listed).contains i = true)
    (hQ : ∀ c a w, Q (.panic c) (a.put o.dst (.agg cs.toArray)) w → Q (.panic c) a w) (hl : listed.setIfInBounds i true = listed') (hg : o.guard = none) (ho : o.op = .load T x) (hx : a.eval x = .pointer (some ⟨b, q, none⟩)) (hc : ∀ w, S w → w.rangeAt b q cs) (hu : P.underlying T = some d) (hd : d.isRow = true) (hz : (P.info? T).map (·.size) = some cs.length)
    (ha : a.put o.dst (.agg cs.toArray) = a') (hS : S w) (h : wpAnyH P md ops Q S fuel listed' a' w) : wpAnyH P md ops Q S (fuel + 1) listed a w := by
  subst hl ha
  exact wpAnyH_take hi hs hf hr hQ (yieldsIf_load_mid (wanted_plain hg) T x ho b q hx cs d hc hu hd hz) hS h
theorem rh_cons (hi : ops[i]? = some o) (hl : listed.setIfInBounds i true = listed') (hg : o.guard = none) (h : ∀ K' : Act → World → Prop, Shut (∀ a w, S w → wpAnyH P md ops Q S fuel listed' a w → K' a w) → Oper.wp P o a w K' Q) (hs : AllReadyH P md ops Q S fuel listed a w rs) : AllReadyH P md ops Q S fuel listed a w (i :: rs) := by
  subst hl
  refine AllReadyH.cons hi (fun K' hK => ?_) hs
  rw [if_pos (wanted_plain hg)]
  exact h K' (fun a w h1 h2 => hK.out a w h1 (fun _ => h2))
end
section
variable {P : Program} {md : Region.Mode} {S : World → Prop} {ops : Array Oper} {i : Nat} {o : Oper} {fuel : Nat} {listed listed' : Array Bool} {a a' : Act} {w : World} {Q : Exit → Act → World → Prop}
theorem rh_conv {x : Operand} {v val : Value} {T U : TypeId} (hi : ops[i]? = some o) (hs : Region.noSelect ops = true) (hf : Region.free md ops listed i = true) (hr : (Region.ready md ops listed).contains i = true)
    (hQ : ∀ c a w, Q (.panic c) (a.put o.dst val) w → Q (.panic c) a w) (hl : listed.setIfInBounds i true = listed') (hg : o.guard = none) (ho : o.op = .convert T U x) (hx : a.eval x = v) (hc : ∀ w, S w → (convert T U v).run P w = .ok val w)
    (ha : a.put o.dst val = a') (hS : S w) (h : wpAnyH P md ops Q S fuel listed' a' w) : wpAnyH P md ops Q S (fuel + 1) listed a w := by
  subst hl ha
  exact wpAnyH_take hi hs hf hr hQ (.inl ⟨wanted_plain hg, fun w hw => by unfold execOp; simp only [ho, hx, Sem.run_bind, hc w hw, Result.andThen_ok]; rfl⟩) hS h
theorem rh_convS {x : Operand} {v val : Value} {T U : TypeId} {rs : List Nat} (hi : ops[i]? = some o) (hl : listed.setIfInBounds i true = listed') (hg : o.guard = none) (ho : o.op = .convert T U x) (hx : a.eval x = v) (hc : (convert T U v).run P w = .ok val w)
    (ha : a.put o.dst val = a') (hS : S w) (h : wpAnyH P md ops Q S fuel listed' a' w) (hs : AllReadyH P md ops Q S fuel listed a w rs) : AllReadyH P md ops Q S fuel listed a w (i :: rs) := by
  subst ha
  refine rh_cons hi hl hg (fun K hK => ?_) hs
  have he : (execOp a.eval o).run P w = .ok (.value val) w := by unfold execOp; simp only [ho, hx, Sem.run_bind, hc, Result.andThen_ok]; rfl
  unfold Oper.wp
  rw [he]
  exact hK.out _ _ hS h
theorem rh_skip (hi : ops[i]? = some o) (hs : Region.noSelect ops = true) (hf : Region.free md ops listed i = true) (hr : (Region.ready md ops listed).contains i = true)
    (hQ : ∀ c a w, Q (.panic c) (a.put o.dst undef) w → Q (.panic c) a w) (hl : listed.setIfInBounds i true = listed') (hw : Region.wanted o (yielded ops a.tmps) = false) (ha : a.put o.dst undef = a') (hS : S w) (h : wpAnyH P md ops Q S fuel listed' a' w) : wpAnyH P md ops Q S (fuel + 1) listed a w := by
  subst hl ha
  exact wpAnyH_take hi hs hf hr hQ (.inr ⟨hw, rfl⟩) hS h
end
end Go.Proofs.Ytmndjdaiailgmaa
/- The law EntryBytes: an entry too wide, bytes too long. -/
namespace Go.Proofs.Ytmndjdaiailgmaa
set_option linter.unusedVariables false
open Go.RowKit
open Go.Lib (hid)

set_option maxHeartbeats 8000000 in
set_option maxRecDepth 100000 in
theorem eb_fits {e : Ev} {f a v : List C7} {bs : List UInt8} {ad : Option Addr} {cap : Nat} {w : World} (hf : Sl w e.fp.v f) (ha : Sl w e.xp.v a) (hv : Sl w e.vp.v v) (hb : SlB w (.slice ad bs.length cap) bs) (h : fitsE e = false) : Calls Try.prog 4 #[.agg e.arr, .slice ad bs.length cap] w fun x w' => x = .returned (.bool true) ∧ Below w.heap.size w w' := by
  have hF := fun W => cFits e W
  rw [h] at hF
  clear hf ha hv hb h
  have hL := fun W => cAlive6 W
  have HX : Hid (Ob (w.alloc (.cells e.arr 30)) (w.heap.size) 30 e) := hid (laid1_0 w (.cells e.arr 30))
  have HW : Hid (Below w.heap.size w (w.alloc (.cells e.arr 30))) := hid (laid1_b w (.cells e.arr 30))
  have tok : Hid (0 = 0) := hid rfl
  go_enter Try.func4, Try.ntmps4
  go_wp2_with (first
    | (clear tok; (with_reducible refine opaqueW (w.alloc (.cells e.arr 30)) ?_); intro W0 hW; rw [← hW] at HX HW; clear hW)
    | ((with_reducible refine loadC (x := ?lx1) (b := ?lb1) (T := 30) e ?lg1 ?lo1 ?lxx1 ?lc1 ?lh1); (case lg1 => rfl); (case lo1 => rfl); (case lxx1 => rfl); (case lc1 => exact HX.out))
    | fail)
  go_at_call 5
  refine (hF _).mono ?_
  rintro x w1 ⟨rfl, hB⟩
  have GX : Hid (Ob w1 (w.heap.size) 30 e) := hid (heapB (HX.out) hB (Array.getElem?_eq_some_iff.1 (HX.out)).1)
  have GW := hid ((HW.out).trans (hB.mono (HW.out).size))
  clear hB HX HW
  have HX := GX; clear GX
  have HW := GW; clear GW
  go_wp2_with fail
  go_at_call 7
  refine (hL _).mono ?_
  rintro x w3 ⟨rfl, hB⟩
  have GX : Hid (Ob w3 (w.heap.size) 30 e) := hid (heapB (HX.out) hB (Array.getElem?_eq_some_iff.1 (HX.out)).1)
  have GW := hid ((HW.out).trans (hB.mono (HW.out).size))
  clear hB HX HW
  have HX := GX; clear GX
  have HW := GW; clear GW
  go_wp2_with fail
  go_ret
  exact ⟨rfl, HW.out⟩
set_option maxHeartbeats 8000000 in
set_option maxRecDepth 100000 in
theorem eb_long {e : Ev} {f a v : List C7} {bs : List UInt8} {ad : Option Addr} {cap : Nat} {w : World} (hf : Sl w e.fp.v f) (ha : Sl w e.xp.v a) (hv : Sl w e.vp.v v) (hb : SlB w (.slice ad bs.length cap) bs) (h : fitsE e = true) (hl : 3000 < bs.length) : Calls Try.prog 4 #[.agg e.arr, .slice ad bs.length cap] w fun x w' => x = .returned (.bool true) ∧ Below w.heap.size w w' := by
  have hF := fun W => cFits e W
  rw [h] at hF
  clear hf ha hv hb h
  obtain ⟨n, hn⟩ : ∃ n, n = bs.length := ⟨_, rfl⟩
  rw [← hn] at hl ⊢
  have hl' : (3000 : Int) < (n : Int) := by omega
  clear hn
  have hL := fun W => cAlive6 W
  have HX : Hid (Ob (w.alloc (.cells e.arr 30)) (w.heap.size) 30 e) := hid (laid1_0 w (.cells e.arr 30))
  have HW : Hid (Below w.heap.size w (w.alloc (.cells e.arr 30))) := hid (laid1_b w (.cells e.arr 30))
  have tok : Hid (0 = 0) := hid rfl
  go_enter Try.func4, Try.ntmps4
  go_wp2_with (first
    | (clear tok; (with_reducible refine opaqueW (w.alloc (.cells e.arr 30)) ?_); intro W0 hW; rw [← hW] at HX HW; clear hW)
    | ((with_reducible refine loadC (x := ?lx2) (b := ?lb2) (T := 30) e ?lg2 ?lo2 ?lxx2 ?lc2 ?lh2); (case lg2 => rfl); (case lo2 => rfl); (case lxx2 => rfl); (case lc2 => exact HX.out))
    | fail)
  go_at_call 5
  refine (hF _).mono ?_
  rintro x w1 ⟨rfl, hB⟩
  have GX : Hid (Ob w1 (w.heap.size) 30 e) := hid (heapB (HX.out) hB (Array.getElem?_eq_some_iff.1 (HX.out)).1)
  have GW := hid ((HW.out).trans (hB.mono (HW.out).size))
  clear hB HX HW
  have HX := GX; clear GX
  have HW := GW; clear GW
  go_wp2_with fail
  go_at_call 7
  refine (hL _).mono ?_
  rintro x w3 ⟨rfl, hB⟩
  have GX : Hid (Ob w3 (w.heap.size) 30 e) := hid (heapB (HX.out) hB (Array.getElem?_eq_some_iff.1 (HX.out)).1)
  have GW := hid ((HW.out).trans (hB.mono (HW.out).size))
  clear hB HX HW
  have HX := GX; clear GX
  have HW := GW; clear GW
  go_wp2_with fail
  go_ret
  exact ⟨rfl, HW.out⟩
end Go.Proofs.Ytmndjdaiailgmaa
/- The law EntryBytes: an entry that may not be. -/
namespace Go.Proofs.Ytmndjdaiailgmaa
set_option linter.unusedVariables false
open Go.RowKit
open Go.Lib (hid)

set_option maxHeartbeats 8000000 in
set_option maxRecDepth 100000 in
theorem eb_not_good {e : Ev} {f a v : List C7} {bs : List UInt8} {ad : Option Addr} {cap : Nat} {w : World} (hf : Sl w e.fp.v f) (ha : Sl w e.xp.v a) (hv : Sl w e.vp.v v) (hb : SlB w (.slice ad bs.length cap) bs) (h : fitsE e = true) (hl : bs.length ≤ 3000) (lf : f.length ≤ 80) (la : a.length ≤ 80) (lv : v.length ≤ 80) (hr : rightE e f a v = false) (hg : (takeE (bs, 0)).good = true) : Calls Try.prog 4 #[.agg e.arr, .slice ad bs.length cap] w fun x w' => x = .returned (.bool true) ∧ Below w.heap.size w w' := by
  have hF := fun W => cFits e W
  rw [h] at hF
  have hN := fun (W : World) (hB : Below w.heap.size w W) => cEncode_no (hf.on hB) (ha.on hB) (hv.on hB) (by omega) (by omega) (by omega) hr
  have hR := fun (W : World) (hB : Below w.heap.size w W) => rRightE (hf.on hB) (ha.on hB) (hv.on hB) (by omega) (by omega) (by omega)
  rw [hr] at hR
  have hO := fun W => cOf e W
  clear hf ha hv h hr
  obtain ⟨n, hn⟩ : ∃ n, n = bs.length := ⟨_, rfl⟩
  have HBS := hid hb
  rw [← hn] at hl HBS ⊢
  have hl' : ¬ (3000 : Int) < (n : Int) := by omega
  have hl2 : decide ((3000 : Int) < (n : Int)) = false := decide_eq_false hl'
  have HLN := hid (show bs.length ≤ 3000 by omega)
  clear hn hl hb
  have hL := fun W => cAlive6 W
  obtain ⟨t, ht⟩ : ∃ t, t = takeE (bs, 0) := ⟨_, rfl⟩
  rw [← ht] at hg
  have HT := hid ht
  have HG := hid hg
  clear ht hg
  have HX : Hid (Ob (w.alloc (.cells e.arr 30)) (w.heap.size) 30 e) := hid (laid1_0 w (.cells e.arr 30))
  have HW : Hid (Below w.heap.size w (w.alloc (.cells e.arr 30))) := hid (laid1_b w (.cells e.arr 30))
  have tok : Hid (0 = 0) := hid rfl
  go_enter Try.func4, Try.ntmps4
  go_wp2_with (first
    | (clear tok; (with_reducible refine opaqueW (w.alloc (.cells e.arr 30)) ?_); intro W0 hW; rw [← hW] at HX HW; clear hW)
    | ((with_reducible refine loadC (x := ?lx1) (b := ?lb1) (T := 30) e ?lg1 ?lo1 ?lxx1 ?lc1 ?lh1); (case lg1 => rfl); (case lo1 => rfl); (case lxx1 => rfl); (case lc1 => exact HX.out))
    | fail)
  go_at_call 5
  refine (hF _).mono ?_
  rintro x w1 ⟨rfl, hB⟩
  have GX : Hid (Ob w1 (w.heap.size) 30 e) := hid (heapB (HX.out) hB (Array.getElem?_eq_some_iff.1 (HX.out)).1)
  have GW := hid ((HW.out).trans (hB.mono (HW.out).size))
  clear hB HX HW
  have HX := GX; clear GX
  have HW := GW; clear GW
  go_wp2_with (first
    | ((with_reducible refine loadC (x := ?lx2) (b := ?lb2) (T := 30) e ?lg2 ?lo2 ?lxx2 ?lc2 ?lh2); (case lg2 => rfl); (case lo2 => rfl); (case lxx2 => rfl); (case lc2 => exact HX.out))
    | fail)
  go_at_call 11
  refine (hN _ HW.out).mono ?_
  rintro x w2 ⟨rfl, hB⟩
  have GX : Hid (Ob w2 (w.heap.size) 30 e) := hid (heapB (HX.out) hB (Array.getElem?_eq_some_iff.1 (HX.out)).1)
  have GW := hid ((HW.out).trans (hB.mono (HW.out).size))
  clear hB HX HW
  have HX := GX; clear GX
  have HW := GW; clear GW
  go_wp2_with (first
    | ((with_reducible refine loadC (x := ?lx3) (b := ?lb3) (T := 30) e ?lg3 ?lo3 ?lxx3 ?lc3 ?lh3); (case lg3 => rfl); (case lo3 => rfl); (case lxx3 => rfl); (case lc3 => exact HX.out))
    | fail)
  go_at_call 8
  refine (hO _).mono ?_
  rintro x w3 ⟨rfl, hB⟩
  have GX : Hid (Ob w3 (w.heap.size) 30 e) := hid (heapB (HX.out) hB (Array.getElem?_eq_some_iff.1 (HX.out)).1)
  have GW := hid ((HW.out).trans (hB.mono (HW.out).size))
  clear hB HX HW
  have HX := GX; clear GX
  have HW := GW; clear GW
  go_wp2_with fail
  go_at_call 12
  refine (hR _ HW.out).mono ?_
  rintro x w31 ⟨rfl, hB⟩
  have GX : Hid (Ob w31 (w.heap.size) 30 e) := hid (heapB (HX.out) hB (Array.getElem?_eq_some_iff.1 (HX.out)).1)
  have GW := hid ((HW.out).trans (hB.mono (HW.out).size))
  clear hB HX HW
  have HX := GX; clear GX
  have HW := GW; clear GW
  clear HX
  go_wp2_with fail
  go_at_call 13
  refine (cDecode (HBS.out.on HW.out) (by have := HLN.out; omega)).mono ?_
  rintro x w4 ⟨E, p, q, r, rfl, hy, hn, hB⟩
  have GW := hid ((HW.out).trans (hB.mono (HW.out).size))
  clear hB  HW
  have HW := GW; clear GW
  rw [← HT.out] at hy hn ⊢
  obtain ⟨hE, s1, s2, s3⟩ := hy HG.out
  have HS4 := hid (And.intro s1 (And.intro s2 s3))
  have HE := hid hE
  have hg4 : (if t.good = true then (0 : Int) else 2) = 0 := if_pos HG.out
  clear hy hn hE s1 s2 s3
  rw [hg4]
  clear hg4
  have ltwY : w.heap.size ≤ w4.heap.size := (HW.out).size
  have RY : Room (w4.alloc zeroEc) (w4.heap.size) 30 := ⟨_, newAt (x := zeroEc) rfl, rfl⟩
  go_wp2_with (first
    | ((with_reducible refine storeC (x := ?sx4) (y := ?sy4) (b := ?sb4) (T := 30) E ?sg4 ?so4 ?sxx4 ?syy4 ?sc4 ?sh4); (case sg4 => rfl); (case so4 => rfl); (case sxx4 => rfl); (case syy4 => rfl); (case sc4 => exact RY); intro w5 hO hU; have GY := hid hO; have GW := hid ((((HW.out).alloc (HW.out).size zeroEc)).trans (hU.below _ (by first | exact Nat.le_refl _ | omega))); have HD5 := hid (((Below.refl _ w4).alloc (Nat.le_refl _) zeroEc).trans (hU.below _ (Nat.le_refl _))); clear hO hU; clear  HW; have HY := GY; clear GY; have HW := GW; clear GW)
    | fail)
  go_at_call 16
  refine (rParse (HBS.out.on HW.out) (by have := HLN.out; omega)).mono ?_
  rintro x w6 ⟨M, p', q', r', rfl, hy, hn, hB⟩
  have HD6 := hid (HD5.out.trans (hB.mono HD5.out.size))
  have GY : Hid (Ob w6 (w4.heap.size) 30 E) := hid (heapB (HY.out) hB (Array.getElem?_eq_some_iff.1 (HY.out)).1)
  have GW := hid ((HW.out).trans (hB.mono (HW.out).size))
  clear hB HY HW
  have HY := GY; clear GY
  have HW := GW; clear GW
  rw [← HT.out] at hy hn ⊢
  obtain ⟨hM, s1, s2, s3⟩ := hy HG.out
  have HS6 := hid (And.intro s1 (And.intro s2 s3))
  have HM := hid hM
  have hg6 : (if t.good = true then (0 : Int) else 2) = 0 := if_pos HG.out
  clear hy hn hM s1 s2 s3
  rw [hg6]
  clear hg6
  have ltZY : w4.heap.size < w6.heap.size := (Array.getElem?_eq_some_iff.1 (HY.out)).1
  have ltwZ : w.heap.size ≤ w6.heap.size := (HW.out).size
  have RZ : Room (w6.alloc zeroE) (w6.heap.size) 36 := ⟨_, newAt (x := zeroE) rfl, rfl⟩
  go_wp2_with (first
    | ((with_reducible refine storeR (x := ?sx5) (y := ?sy5) (b := ?sb5) (T := 36) M ?sg5 ?so5 ?sxx5 ?syy5 ?sc5 ?sh5); (case sg5 => rfl); (case so5 => rfl); (case sxx5 => rfl); (case syy5 => rfl); (case sc5 => exact RZ); intro w7 hO hU; have GZ := hid hO; have GY : Hid (Ob w7 (w4.heap.size) 30 E) := hid (hU.ob ((obAlloc (x := zeroE) HY.out)) (by omega)); have GW := hid ((((HW.out).alloc (HW.out).size zeroE)).trans (hU.below _ (by first | exact Nat.le_refl _ | omega))); have HD7 := hid (((Below.refl _ w6).alloc (Nat.le_refl _) zeroE).trans (hU.below _ (Nat.le_refl _))); clear hO hU; clear HY HW; have HY := GY; clear GY; have HZ := GZ; clear GZ; have HW := GW; clear GW)
    | ((with_reducible refine loadC (x := ?lx6) (b := ?lb6) (T := 30) E ?lg6 ?lo6 ?lxx6 ?lc6 ?lh6); (case lg6 => rfl); (case lo6 => rfl); (case lxx6 => rfl); (case lc6 => exact HY.out))
    | ((with_reducible refine loadR (x := ?lx7) (b := ?lb7) (T := 36) M ?lg7 ?lo7 ?lxx7 ?lc7 ?lh7); (case lg7 => rfl); (case lo7 => rfl); (case lxx7 => rfl); (case lc7 => exact HZ.out))
    | fail)
  have HD47 := hid (HD6.out.trans (HD7.out.mono HD6.out.size))
  have hS6 : ∀ W, Below w7.heap.size w7 W → Calls Try.prog 14 #[.agg E.arr, .agg M.arr] W fun x w' => x = .returned (.bool true) ∧ Below W.heap.size W w' := fun W hW => by
    have k4 := HD47.out.trans (hW.mono HD47.out.size)
    have k6 := HD7.out.trans (hW.mono HD7.out.size)
    have hE := HE.out
    have hM := HM.out
    subst hE hM
    have hs := take_short (bs := bs) (by rw [← HT.out]; exact HG.out)
    rw [← HT.out] at hs
    have hln := HLN.out
    have := cSame6 (e := t.ev p q r) (m := t.ev p' q' r') (HS4.out.1.on k4) (HS6.out.1.on k6) (HS4.out.2.1.on k4) (HS6.out.2.1.on k6) (HS4.out.2.2.on k4) (HS6.out.2.2.on k6) (by omega) (by omega) (by omega) (by omega) (by omega) (by omega)
    rw [sameE_ev] at this
    exact this
  go_at_call 14
  refine (hS6 _ (Below.refl _ _)).mono ?_
  rintro x w8 ⟨rfl, hB⟩
  have HD8 := hid (HD47.out.trans (hB.mono HD47.out.size))
  have GY : Hid (Ob w8 (w4.heap.size) 30 E) := hid (heapB (HY.out) hB (Array.getElem?_eq_some_iff.1 (HY.out)).1)
  have GZ : Hid (Ob w8 (w6.heap.size) 36 M) := hid (heapB (HZ.out) hB (Array.getElem?_eq_some_iff.1 (HZ.out)).1)
  have GW := hid ((HW.out).trans (hB.mono (HW.out).size))
  clear hB HY HZ HW
  have HY := GY; clear GY
  have HZ := GZ; clear GZ
  have HW := GW; clear GW
  go_wp2_with (first
    | ((with_reducible refine loadC (x := ?lx8) (b := ?lb8) (T := 30) E ?lg8 ?lo8 ?lxx8 ?lc8 ?lh8); (case lg8 => rfl); (case lo8 => rfl); (case lxx8 => rfl); (case lc8 => exact HY.out))
    | fail)
  have hEn : ∀ W, Below w8.heap.size w8 W → Calls Try.prog 11 #[.agg E.arr] W fun x w' => ∃ r, x = .returned (.tuple #[r, .int .i64 0]) ∧ OwnB w' W.heap.size r bs ∧ Below W.heap.size W w' := fun W hW => by
    have k4 := HD8.out.trans (hW.mono HD8.out.size)
    have hE := HE.out
    subst hE
    have hg : (takeE (bs, 0)).good = true := by rw [← HT.out]; exact HG.out
    have hs := take_short (bs := bs) hg
    have hbk := take_bytes (bs := bs) (p := p) (q := q) (r := r) hg
    rw [← HT.out] at hs hbk
    have hln := HLN.out
    have := cEncode_yes (e := t.ev p q r) (HS4.out.1.on k4) (HS4.out.2.1.on k4) (HS4.out.2.2.on k4) (by omega) (by omega) (by omega) (good_right HG.out p q r)
    rw [hbk] at this
    exact this
  go_at_call 11
  refine (hEn _ (Below.refl _ _)).mono ?_
  rintro x w9 ⟨R, rfl, hO9, hB⟩
  have GY : Hid (Ob w9 (w4.heap.size) 30 E) := hid (heapB (HY.out) hB (Array.getElem?_eq_some_iff.1 (HY.out)).1)
  have GZ : Hid (Ob w9 (w6.heap.size) 36 M) := hid (heapB (HZ.out) hB (Array.getElem?_eq_some_iff.1 (HZ.out)).1)
  have GW := hid ((HW.out).trans (hB.mono (HW.out).size))
  clear hB HY HZ HW
  have HY := GY; clear GY
  have HZ := GZ; clear GZ
  have HW := GW; clear GW
  obtain ⟨g9, c9, n9, rfl, hn9⟩ := hO9.asSlice
  have HO9 := hid hO9.slb
  clear hO9 hn9
  go_wp2_with fail
  go_at_call 7
  refine (hL _).mono ?_
  rintro x w10 ⟨rfl, hB⟩
  have HO10 := hid (HO9.out.on hB)
  have GY : Hid (Ob w10 (w4.heap.size) 30 E) := hid (heapB (HY.out) hB (Array.getElem?_eq_some_iff.1 (HY.out)).1)
  have GZ : Hid (Ob w10 (w6.heap.size) 36 M) := hid (heapB (HZ.out) hB (Array.getElem?_eq_some_iff.1 (HZ.out)).1)
  have GW := hid ((HW.out).trans (hB.mono (HW.out).size))
  clear hB HY HZ HW
  have HY := GY; clear GY
  have HZ := GZ; clear GZ
  have HW := GW; clear GW
  have hv1 := convB HO10.out
  have hv2 := convB (HBS.out.on HW.out)
  go_wp2_with fail
  go_ret
  exact ⟨rfl, HW.out⟩
set_option maxHeartbeats 8000000 in
set_option maxRecDepth 100000 in
theorem eb_not_bad {e : Ev} {f a v : List C7} {bs : List UInt8} {ad : Option Addr} {cap : Nat} {w : World} (hf : Sl w e.fp.v f) (ha : Sl w e.xp.v a) (hv : Sl w e.vp.v v) (hb : SlB w (.slice ad bs.length cap) bs) (h : fitsE e = true) (hl : bs.length ≤ 3000) (lf : f.length ≤ 80) (la : a.length ≤ 80) (lv : v.length ≤ 80) (hr : rightE e f a v = false) (hg : (takeE (bs, 0)).good = false) : Calls Try.prog 4 #[.agg e.arr, .slice ad bs.length cap] w fun x w' => x = .returned (.bool true) ∧ Below w.heap.size w w' := by
  have hF := fun W => cFits e W
  rw [h] at hF
  have hN := fun (W : World) (hB : Below w.heap.size w W) => cEncode_no (hf.on hB) (ha.on hB) (hv.on hB) (by omega) (by omega) (by omega) hr
  have hR := fun (W : World) (hB : Below w.heap.size w W) => rRightE (hf.on hB) (ha.on hB) (hv.on hB) (by omega) (by omega) (by omega)
  rw [hr] at hR
  have hO := fun W => cOf e W
  clear hf ha hv h hr
  obtain ⟨n, hn⟩ : ∃ n, n = bs.length := ⟨_, rfl⟩
  have HBS := hid hb
  rw [← hn] at hl HBS ⊢
  have hl' : ¬ (3000 : Int) < (n : Int) := by omega
  have hl2 : decide ((3000 : Int) < (n : Int)) = false := decide_eq_false hl'
  have HLN := hid (show bs.length ≤ 3000 by omega)
  clear hn hl hb
  have hL := fun W => cAlive6 W
  obtain ⟨t, ht⟩ : ∃ t, t = takeE (bs, 0) := ⟨_, rfl⟩
  rw [← ht] at hg
  have HT := hid ht
  have HG := hid hg
  clear ht hg
  have HX : Hid (Ob (w.alloc (.cells e.arr 30)) (w.heap.size) 30 e) := hid (laid1_0 w (.cells e.arr 30))
  have HW : Hid (Below w.heap.size w (w.alloc (.cells e.arr 30))) := hid (laid1_b w (.cells e.arr 30))
  have tok : Hid (0 = 0) := hid rfl
  go_enter Try.func4, Try.ntmps4
  go_wp2_with (first
    | (clear tok; (with_reducible refine opaqueW (w.alloc (.cells e.arr 30)) ?_); intro W0 hW; rw [← hW] at HX HW; clear hW)
    | ((with_reducible refine loadC (x := ?lx9) (b := ?lb9) (T := 30) e ?lg9 ?lo9 ?lxx9 ?lc9 ?lh9); (case lg9 => rfl); (case lo9 => rfl); (case lxx9 => rfl); (case lc9 => exact HX.out))
    | fail)
  go_at_call 5
  refine (hF _).mono ?_
  rintro x w1 ⟨rfl, hB⟩
  have GX : Hid (Ob w1 (w.heap.size) 30 e) := hid (heapB (HX.out) hB (Array.getElem?_eq_some_iff.1 (HX.out)).1)
  have GW := hid ((HW.out).trans (hB.mono (HW.out).size))
  clear hB HX HW
  have HX := GX; clear GX
  have HW := GW; clear GW
  go_wp2_with (first
    | ((with_reducible refine loadC (x := ?lx10) (b := ?lb10) (T := 30) e ?lg10 ?lo10 ?lxx10 ?lc10 ?lh10); (case lg10 => rfl); (case lo10 => rfl); (case lxx10 => rfl); (case lc10 => exact HX.out))
    | fail)
  go_at_call 11
  refine (hN _ HW.out).mono ?_
  rintro x w2 ⟨rfl, hB⟩
  have GX : Hid (Ob w2 (w.heap.size) 30 e) := hid (heapB (HX.out) hB (Array.getElem?_eq_some_iff.1 (HX.out)).1)
  have GW := hid ((HW.out).trans (hB.mono (HW.out).size))
  clear hB HX HW
  have HX := GX; clear GX
  have HW := GW; clear GW
  go_wp2_with (first
    | ((with_reducible refine loadC (x := ?lx11) (b := ?lb11) (T := 30) e ?lg11 ?lo11 ?lxx11 ?lc11 ?lh11); (case lg11 => rfl); (case lo11 => rfl); (case lxx11 => rfl); (case lc11 => exact HX.out))
    | fail)
  go_at_call 8
  refine (hO _).mono ?_
  rintro x w3 ⟨rfl, hB⟩
  have GX : Hid (Ob w3 (w.heap.size) 30 e) := hid (heapB (HX.out) hB (Array.getElem?_eq_some_iff.1 (HX.out)).1)
  have GW := hid ((HW.out).trans (hB.mono (HW.out).size))
  clear hB HX HW
  have HX := GX; clear GX
  have HW := GW; clear GW
  go_wp2_with fail
  go_at_call 12
  refine (hR _ HW.out).mono ?_
  rintro x w31 ⟨rfl, hB⟩
  have GX : Hid (Ob w31 (w.heap.size) 30 e) := hid (heapB (HX.out) hB (Array.getElem?_eq_some_iff.1 (HX.out)).1)
  have GW := hid ((HW.out).trans (hB.mono (HW.out).size))
  clear hB HX HW
  have HX := GX; clear GX
  have HW := GW; clear GW
  clear HX
  go_wp2_with fail
  go_at_call 13
  refine (cDecode (HBS.out.on HW.out) (by have := HLN.out; omega)).mono ?_
  rintro x w4 ⟨E, p, q, r, rfl, hy, hn, hB⟩
  have GW := hid ((HW.out).trans (hB.mono (HW.out).size))
  clear hB  HW
  have HW := GW; clear GW
  rw [← HT.out] at hy hn ⊢
  have hE := hn HG.out
  have hg4 : (if t.good = true then (0 : Int) else 2) = 2 := if_neg (by rw [HG.out]; simp)
  subst hE
  clear hy hn
  rw [hg4]
  clear hg4
  have ltwY : w.heap.size ≤ w4.heap.size := (HW.out).size
  have RY : Room (w4.alloc zeroEc) (w4.heap.size) 30 := ⟨_, newAt (x := zeroEc) rfl, rfl⟩
  go_wp2_with (first
    | ((with_reducible refine storeC (x := ?sx12) (y := ?sy12) (b := ?sb12) (T := 30) zE ?sg12 ?so12 ?sxx12 ?syy12 ?sc12 ?sh12); (case sg12 => rfl); (case so12 => rfl); (case sxx12 => rfl); (case syy12 => rfl); (case sc12 => exact RY); intro w5 hO hU; have GY := hid hO; have GW := hid ((((HW.out).alloc (HW.out).size zeroEc)).trans (hU.below _ (by first | exact Nat.le_refl _ | omega))); have HD5 := hid (((Below.refl _ w4).alloc (Nat.le_refl _) zeroEc).trans (hU.below _ (Nat.le_refl _))); clear hO hU; clear  HW; have HY := GY; clear GY; have HW := GW; clear GW)
    | fail)
  go_at_call 16
  refine (rParse (HBS.out.on HW.out) (by have := HLN.out; omega)).mono ?_
  rintro x w6 ⟨M, p', q', r', rfl, hy, hn, hB⟩
  have HD6 := hid (HD5.out.trans (hB.mono HD5.out.size))
  have GY : Hid (Ob w6 (w4.heap.size) 30 zE) := hid (heapB (HY.out) hB (Array.getElem?_eq_some_iff.1 (HY.out)).1)
  have GW := hid ((HW.out).trans (hB.mono (HW.out).size))
  clear hB HY HW
  have HY := GY; clear GY
  have HW := GW; clear GW
  rw [← HT.out] at hy hn ⊢
  have hM := hn HG.out
  have hg6 : (if t.good = true then (0 : Int) else 2) = 2 := if_neg (by rw [HG.out]; simp)
  subst hM
  clear hy hn
  rw [hg6]
  clear hg6
  have ltZY : w4.heap.size < w6.heap.size := (Array.getElem?_eq_some_iff.1 (HY.out)).1
  have ltwZ : w.heap.size ≤ w6.heap.size := (HW.out).size
  have RZ : Room (w6.alloc zeroE) (w6.heap.size) 36 := ⟨_, newAt (x := zeroE) rfl, rfl⟩
  go_wp2_with (first
    | ((with_reducible refine storeR (x := ?sx13) (y := ?sy13) (b := ?sb13) (T := 36) zE ?sg13 ?so13 ?sxx13 ?syy13 ?sc13 ?sh13); (case sg13 => rfl); (case so13 => rfl); (case sxx13 => rfl); (case syy13 => rfl); (case sc13 => exact RZ); intro w7 hO hU; have GZ := hid hO; have GY : Hid (Ob w7 (w4.heap.size) 30 zE) := hid (hU.ob ((obAlloc (x := zeroE) HY.out)) (by omega)); have GW := hid ((((HW.out).alloc (HW.out).size zeroE)).trans (hU.below _ (by first | exact Nat.le_refl _ | omega))); have HD7 := hid (((Below.refl _ w6).alloc (Nat.le_refl _) zeroE).trans (hU.below _ (Nat.le_refl _))); clear hO hU; clear HY HW; have HY := GY; clear GY; have HZ := GZ; clear GZ; have HW := GW; clear GW)
    | ((with_reducible refine loadC (x := ?lx14) (b := ?lb14) (T := 30) zE ?lg14 ?lo14 ?lxx14 ?lc14 ?lh14); (case lg14 => rfl); (case lo14 => rfl); (case lxx14 => rfl); (case lc14 => exact HY.out))
    | ((with_reducible refine loadR (x := ?lx15) (b := ?lb15) (T := 36) zE ?lg15 ?lo15 ?lxx15 ?lc15 ?lh15); (case lg15 => rfl); (case lo15 => rfl); (case lxx15 => rfl); (case lc15 => exact HZ.out))
    | fail)
  have hS6 : ∀ W, Below w7.heap.size w7 W → Calls Try.prog 14 #[.agg zE.arr, .agg zE.arr] W fun x w' => x = .returned (.bool true) ∧ Below W.heap.size W w' := fun W hW => by
    have := cSame6 (e := zE) (m := zE) (nilL W) (nilL W) (nilL W) (nilL W) (nilL W) (nilL W) (by simp) (by simp) (by simp) (by simp) (by simp) (by simp)
    rw [sameE_zE] at this
    exact this
  go_at_call 14
  refine (hS6 _ (Below.refl _ _)).mono ?_
  rintro x w8 ⟨rfl, hB⟩
  have GY : Hid (Ob w8 (w4.heap.size) 30 zE) := hid (heapB (HY.out) hB (Array.getElem?_eq_some_iff.1 (HY.out)).1)
  have GZ : Hid (Ob w8 (w6.heap.size) 36 zE) := hid (heapB (HZ.out) hB (Array.getElem?_eq_some_iff.1 (HZ.out)).1)
  have GW := hid ((HW.out).trans (hB.mono (HW.out).size))
  clear hB HY HZ HW
  have HY := GY; clear GY
  have HZ := GZ; clear GZ
  have HW := GW; clear GW
  go_wp2_with (first
    | ((with_reducible refine loadC (x := ?lx16) (b := ?lb16) (T := 30) zE ?lg16 ?lo16 ?lxx16 ?lc16 ?lh16); (case lg16 => rfl); (case lo16 => rfl); (case lxx16 => rfl); (case lc16 => exact HY.out))
    | fail)
  have hEn : ∀ W, Calls Try.prog 11 #[.agg zE.arr] W fun x w' => x = .returned (.tuple #[.slice none 0 0, .int .i64 1]) ∧ Below W.heap.size W w' := fun W =>
    cEncode_no (e := zE) (nilL W) (nilL W) (nilL W) (by simp) (by simp) (by simp) rightE_zE
  go_at_call 11
  refine (hEn _).mono ?_
  rintro x w9 ⟨rfl, hB⟩
  have GY : Hid (Ob w9 (w4.heap.size) 30 zE) := hid (heapB (HY.out) hB (Array.getElem?_eq_some_iff.1 (HY.out)).1)
  have GZ : Hid (Ob w9 (w6.heap.size) 36 zE) := hid (heapB (HZ.out) hB (Array.getElem?_eq_some_iff.1 (HZ.out)).1)
  have GW := hid ((HW.out).trans (hB.mono (HW.out).size))
  clear hB HY HZ HW
  have HY := GY; clear GY
  have HZ := GZ; clear GZ
  have HW := GW; clear GW
  go_wp2_with fail
  go_at_call 7
  refine (hL _).mono ?_
  rintro x w10 ⟨rfl, hB⟩
  have GY : Hid (Ob w10 (w4.heap.size) 30 zE) := hid (heapB (HY.out) hB (Array.getElem?_eq_some_iff.1 (HY.out)).1)
  have GZ : Hid (Ob w10 (w6.heap.size) 36 zE) := hid (heapB (HZ.out) hB (Array.getElem?_eq_some_iff.1 (HZ.out)).1)
  have GW := hid ((HW.out).trans (hB.mono (HW.out).size))
  clear hB HY HZ HW
  have HY := GY; clear GY
  have HZ := GZ; clear GZ
  have HW := GW; clear GW
  go_wp2_with fail
  go_ret
  exact ⟨rfl, HW.out⟩
end Go.Proofs.Ytmndjdaiailgmaa
/- The law EntryBytes: an entry that may be. -/
namespace Go.Proofs.Ytmndjdaiailgmaa
set_option linter.unusedVariables false
open Go.RowKit Go.Sort
open Go.Lib (hid)

set_option maxHeartbeats 8000000 in
set_option maxRecDepth 100000 in
theorem eb_yes_good {e : Ev} {f a v : List C7} {bs : List UInt8} {ad : Option Addr} {cap : Nat} {w : World} (hf : Sl w e.fp.v f) (ha : Sl w e.xp.v a) (hv : Sl w e.vp.v v) (hb : SlB w (.slice ad bs.length cap) bs) (h : fitsE e = true) (hl : bs.length ≤ 3000) (lf : f.length ≤ 80) (la : a.length ≤ 80) (lv : v.length ≤ 80) (hr : rightE e f a v = true) (hg : (takeE (bs, 0)).good = true) : Calls Try.prog 4 #[.agg e.arr, .slice ad bs.length cap] w fun x w' => x = .returned (.bool true) ∧ Below w.heap.size w w' := by
  have hF := fun W => cFits e W
  rw [h] at hF
  have hN := fun (W : World) (hB : Below w.heap.size w W) => cEncode_yes (hf.on hB) (ha.on hB) (hv.on hB) (by omega) (by omega) (by omega) hr
  have hR := fun (W : World) (hB : Below w.heap.size w W) => rRightE (hf.on hB) (ha.on hB) (hv.on hB) (by omega) (by omega) (by omega)
  rw [hr] at hR
  have hO := fun W => cOf e W
  have hY := fun (W : World) (hB : Below w.heap.size w W) => rBytes (hf.on hB) (ha.on hB) (hv.on hB) (by omega) (by omega) (by omega) hr
  have hbl := (ent_len (right_fine hr) (by omega : f.length ≤ 428) (by omega : a.length ≤ 428) (by omega : v.length ≤ 428)).2
  have hgb := good_back hr
  have hsb := fun p q r => sameE_back hr p q r
  obtain ⟨k1, k2, k3⟩ := lists_back hr
  obtain ⟨B, hB0⟩ : ∃ B, B = entB e f a v := ⟨_, rfl⟩
  rw [← hB0] at hN hY hbl hgb hsb k1 k2 k3
  clear hB0
  obtain ⟨u, hu⟩ : ∃ u, u = takeE (B, 0) := ⟨_, rfl⟩
  rw [← hu] at hgb hsb k1 k2 k3
  have HU := hid hu
  have HUG := hid hgb
  have HUS := hid hsb
  have HUL := hid (And.intro k1 (And.intro k2 k3))
  have HBL := hid hbl
  have HFV := hid (And.intro hf (And.intro ha hv))
  have HLL := hid (And.intro lf (And.intro la lv))
  clear hf ha hv h hr hu hgb hsb k1 k2 k3 hbl lf la lv
  obtain ⟨n, hn⟩ : ∃ n, n = bs.length := ⟨_, rfl⟩
  have HBS := hid hb
  rw [← hn] at hl HBS ⊢
  have hl' : ¬ (3000 : Int) < (n : Int) := by omega
  have hl2 : decide ((3000 : Int) < (n : Int)) = false := decide_eq_false hl'
  have HLN := hid (show bs.length ≤ 3000 by omega)
  clear hn hl hb
  have hL := fun W => cAlive6 W
  obtain ⟨t, ht⟩ : ∃ t, t = takeE (bs, 0) := ⟨_, rfl⟩
  rw [← ht] at hg
  have HT := hid ht
  have HG := hid hg
  clear ht hg
  have HX : Hid (Ob (w.alloc (.cells e.arr 30)) (w.heap.size) 30 e) := hid (laid1_0 w (.cells e.arr 30))
  have HW : Hid (Below w.heap.size w (w.alloc (.cells e.arr 30))) := hid (laid1_b w (.cells e.arr 30))
  have tok : Hid (0 = 0) := hid rfl
  go_enter Try.func4, Try.ntmps4
  go_wp2_with (first
    | (clear tok; (with_reducible refine opaqueW (w.alloc (.cells e.arr 30)) ?_); intro W0 hW; rw [← hW] at HX HW; clear hW)
    | ((with_reducible refine loadC (x := ?lx1) (b := ?lb1) (T := 30) e ?lg1 ?lo1 ?lxx1 ?lc1 ?lh1); (case lg1 => rfl); (case lo1 => rfl); (case lxx1 => rfl); (case lc1 => exact HX.out))
    | fail)
  go_at_call 5
  refine (hF _).mono ?_
  rintro x w1 ⟨rfl, hB⟩
  have GX : Hid (Ob w1 (w.heap.size) 30 e) := hid (heapB (HX.out) hB (Array.getElem?_eq_some_iff.1 (HX.out)).1)
  have GW := hid ((HW.out).trans (hB.mono (HW.out).size))
  clear hB HX HW
  have HX := GX; clear GX
  have HW := GW; clear GW
  go_wp2_with (first
    | ((with_reducible refine loadC (x := ?lx2) (b := ?lb2) (T := 30) e ?lg2 ?lo2 ?lxx2 ?lc2 ?lh2); (case lg2 => rfl); (case lo2 => rfl); (case lxx2 => rfl); (case lc2 => exact HX.out))
    | fail)
  go_at_call 11
  refine (hN _ HW.out).mono ?_
  rintro x w2 ⟨R, rfl, hO2, hB⟩
  have GX : Hid (Ob w2 (w.heap.size) 30 e) := hid (heapB (HX.out) hB (Array.getElem?_eq_some_iff.1 (HX.out)).1)
  have GW := hid ((HW.out).trans (hB.mono (HW.out).size))
  clear hB HX HW
  have HX := GX; clear GX
  have HW := GW; clear GW
  obtain ⟨g6, c6, n6, rfl, hn6⟩ := hO2.asSlice
  have HO2 := hid hO2.slb
  clear hO2 hn6
  go_wp2_with (first
    | ((with_reducible refine loadC (x := ?lx3) (b := ?lb3) (T := 30) e ?lg3 ?lo3 ?lxx3 ?lc3 ?lh3); (case lg3 => rfl); (case lo3 => rfl); (case lxx3 => rfl); (case lc3 => exact HX.out))
    | fail)
  go_at_call 8
  refine (hO _).mono ?_
  rintro x w3 ⟨rfl, hB⟩
  have HO3 := hid (HO2.out.on hB)
  have GX : Hid (Ob w3 (w.heap.size) 30 e) := hid (heapB (HX.out) hB (Array.getElem?_eq_some_iff.1 (HX.out)).1)
  have GW := hid ((HW.out).trans (hB.mono (HW.out).size))
  clear hB HX HW
  have HX := GX; clear GX
  have HW := GW; clear GW
  go_wp2_with fail
  go_at_call 12
  refine (hR _ HW.out).mono ?_
  rintro x w31 ⟨rfl, hB⟩
  have HO31 := hid (HO3.out.on hB)
  have GX : Hid (Ob w31 (w.heap.size) 30 e) := hid (heapB (HX.out) hB (Array.getElem?_eq_some_iff.1 (HX.out)).1)
  have GW := hid ((HW.out).trans (hB.mono (HW.out).size))
  clear hB HX HW
  have HX := GX; clear GX
  have HW := GW; clear GW
  go_wp2_with fail
  go_at_call 13
  refine (cDecode HO31.out HBL.out).mono ?_
  rintro x w41 ⟨E1, p1, q1, r1, rfl, hy, hn, hB⟩
  have HO41 := hid (HO31.out.on hB)
  have GX : Hid (Ob w41 (w.heap.size) 30 e) := hid (heapB (HX.out) hB (Array.getElem?_eq_some_iff.1 (HX.out)).1)
  have GW := hid ((HW.out).trans (hB.mono (HW.out).size))
  clear hB HX HW
  have HX := GX; clear GX
  have HW := GW; clear GW
  rw [← HU.out] at hy hn ⊢
  obtain ⟨hE1, s1, s2, s3⟩ := hy HUG.out
  have HS41 := hid (And.intro s1 (And.intro s2 s3))
  have HE1 := hid hE1
  have hg1 : (if u.good = true then (0 : Int) else 2) = 0 := if_pos HUG.out
  clear hy hn hE1 s1 s2 s3 HO2 HO3 HO31
  rw [hg1]
  clear hg1
  have ltYX : w.heap.size < w41.heap.size := (Array.getElem?_eq_some_iff.1 (HX.out)).1
  have ltwY : w.heap.size ≤ w41.heap.size := (HW.out).size
  have RY : Room (w41.alloc zeroEc) (w41.heap.size) 30 := ⟨_, newAt (x := zeroEc) rfl, rfl⟩
  go_wp2_with (first
    | ((with_reducible refine storeC (x := ?sx4) (y := ?sy4) (b := ?sb4) (T := 30) E1 ?sg4 ?so4 ?sxx4 ?syy4 ?sc4 ?sh4); (case sg4 => rfl); (case so4 => rfl); (case sxx4 => rfl); (case syy4 => rfl); (case sc4 => exact RY); intro w42 hOb hU; have GY := hid hOb; have GX : Hid (Ob w42 (w.heap.size) 30 e) := hid (hU.ob ((obAlloc (x := zeroEc) HX.out)) (by omega)); have GW := hid ((((HW.out).alloc (HW.out).size zeroEc)).trans (hU.below _ (by first | exact Nat.le_refl _ | omega))); have HD42 := hid (((Below.refl _ w41).alloc (Nat.le_refl _) zeroEc).trans (hU.below _ (Nat.le_refl _))); clear hOb hU; clear HX HW; have HX := GX; clear GX; have HY := GY; clear GY; have HW := GW; clear GW)
    | fail)
  have HO42 := hid (HO41.out.on HD42.out)
  have hS10 : ∀ W, Below w42.heap.size w42 W → Calls Try.prog 14 #[.agg E1.arr, .agg e.arr] W fun x w' => x = .returned (.bool true) ∧ Below W.heap.size W w' := fun W hW => by
    have k4 := HD42.out.trans (hW.mono HD42.out.size)
    have k0 := HW.out.trans (hW.mono HW.out.size)
    have hE1 := HE1.out
    subst hE1
    have hl1 := HUL.out
    have hll := HLL.out
    have := cSame6 (e := u.ev p1 q1 r1) (m := e) (HS41.out.1.on k4) (HFV.out.1.on k0) (HS41.out.2.1.on k4) (HFV.out.2.1.on k0) (HS41.out.2.2.on k4) (HFV.out.2.2.on k0) (by rw [hl1.1]; omega) (by omega) (by rw [hl1.2.1]; omega) (by omega) (by rw [hl1.2.2]; omega) (by omega)
    rw [HUS.out] at this
    exact this
  clear HO41
  have hq1 := quietB (w1 := w42) (fun W hW => hO W)
  have hq2 := quietB (w1 := w42) (fun W hW => hS10 W hW)
  refine wp_region_quiet_below (by kernel_rfl) (by kernel_rfl) ?_
  go_big_quiet_want
  refine quietC E1 rfl rfl (obGrown HY.out) ?_
  go_big_quiet_on
  simp only [Act.put, List.setIfInBounds_toArray, List.set_cons_succ, List.set_cons_zero]
  go_big_quiet_want
  refine quietC e rfl rfl (obGrown HX.out) ?_
  go_big_quiet_on
  simp only [Act.put, List.setIfInBounds_toArray, List.set_cons_succ, List.set_cons_zero]
  go_big_quiet_step (with_reducible exact hq1 _ _)
  go_big_quiet_step (with_reducible exact hq2 _ _)
  go_big_quiet_step (fail)
  refine wpQuiet_nil ?_
  rintro _ ⟨⟨dq, osq⟩, rfl⟩
  have hB := below_regrown w42 dq osq
  obtain ⟨w43, hw43⟩ : ∃ W, W = grow (redrawn w42 dq) osq := ⟨_, rfl⟩
  rw [← hw43] at hB ⊢
  have HO43 := hid (HO42.out.on hB)
  clear hw43 hq1 hq2 hS10
  have GX : Hid (Ob w43 (w.heap.size) 30 e) := hid (heapB (HX.out) hB (Array.getElem?_eq_some_iff.1 (HX.out)).1)
  have GY : Hid (Ob w43 (w41.heap.size) 30 E1) := hid (heapB (HY.out) hB (Array.getElem?_eq_some_iff.1 (HY.out)).1)
  have GW := hid ((HW.out).trans (hB.mono (HW.out).size))
  clear hB HX HY HW
  have HX := GX; clear GX
  have HY := GY; clear GY
  have HW := GW; clear GW
  go_wp2_with fail
  refine rh_start (S := fun W => Below w43.heap.size w43 W) (n := 15) (listed := #[false, false, false, false, false, false, false, false, false, false, false, false, false, false, false]) (by kernel_rfl) rfl rfl ?_
  have PX := HX
  have PY := HY
  have GX : Hid (Ob (w43.drew) (w.heap.size) 30 e) := hid (obDrew HX.out)
  have GY : Hid (Ob (w43.drew) (w41.heap.size) 30 E1) := hid (obDrew HY.out)
  have GW : Hid (Below w.heap.size w w43.drew) := hid (belowDrew (HW.out))
  have HSd : Hid (Below w43.heap.size w43 w43.drew) := hid (belowDrew (Below.refl _ w43))
  clear HX HY HW
  have HX := GX; clear GX
  have HY := GY; clear GY
  have HW := GW; clear GW
  generalize World.drew w43 = wd at HX HY HW HSd ⊢
  refine rh_take (i := 0) (o := ?o5) (v := ?v5) (listed' := ?l5) (a' := ?a5) ?hi5 (by kernel_rfl) (by kernel_rfl) (by kernel_rfl) ?hq5 ?hl5 ?hw5 ?hv5 ?ha5 HSd.out ?hh5
  case hi5 => (simp only [List.getElem?_toArray, List.getElem?_cons_zero]; try rfl)
  case hq5 => exact fun _ _ _ h => h
  case hl5 => (simp only [List.setIfInBounds_toArray, List.set_cons_zero]; try rfl)
  case hw5 => rfl
  case hv5 =>
    intro w
    go_simp
    try with_reducible rfl
  case ha5 => (simp only [Act.put, List.setIfInBounds_toArray, List.set_cons_succ, List.set_cons_zero]; try rfl)
  refine rh_conv (i := 1) (o := ?o6) (x := ?x6) (v := ?v6) (val := strB B) (T := 42) (U := 9) (listed' := ?l6) (a' := ?a6) ?hi6 (by kernel_rfl) (by kernel_rfl) (by kernel_rfl) ?hq6 ?hl6 ?hg6 ?ho6 ?hx6 ?hc6 ?ha6 HSd.out ?hh6
  case hi6 => (simp only [List.getElem?_toArray, List.getElem?_cons_succ, List.getElem?_cons_zero]; try rfl)
  case hq6 => exact fun _ _ _ h => h
  case hl6 => (simp only [List.setIfInBounds_toArray, List.set_cons_succ, List.set_cons_zero]; try rfl)
  case hg6 => rfl
  case ho6 => rfl
  case hx6 => rfl
  case hc6 => exact fun W hW => convB (HO43.out.on hW)
  case ha6 => (simp only [Act.put, List.setIfInBounds_toArray, List.set_cons_succ, List.set_cons_zero]; try rfl)
  refine rh_load (i := 2) (o := ?o7) (cs := e.list) (T := 30) (x := ?x7) (b := ?b7) (q := ?q7) (listed' := ?l7) (a' := ?a7) ?hi7 (by kernel_rfl) (by kernel_rfl) (by kernel_rfl) ?hq7 ?hl7 ?hg7 ?ho7 ?hx7 ?hc7 Try.underlying30 rfl (infoEc e) ?ha7 HSd.out ?hh7
  case hi7 => (simp only [List.getElem?_toArray, List.getElem?_cons_succ, List.getElem?_cons_zero]; try rfl)
  case hq7 => exact fun _ _ _ h => h
  case hl7 => (simp only [List.setIfInBounds_toArray, List.set_cons_succ, List.set_cons_zero]; try rfl)
  case hg7 => rfl
  case ho7 => rfl
  case hx7 => rfl
  case hc7 => exact fun W hW => Ob.range (T := 30) (heapB PX.out hW (Array.getElem?_eq_some_iff.1 PX.out).1)
  case ha7 => (show Act.put _ _ (Value.agg e.arr) = _); (simp only [Act.put, List.setIfInBounds_toArray, List.set_cons_succ, List.set_cons_zero]; try rfl)
  clear PX PY
  refine wpAnyH_ready (rs := [3]) (by kernel_rfl) (by simp) ?_
  refine rh_cons (i := 3) (o := ?o8) (listed' := ?l8) ?hi8 ?hl8 ?hg8 ?hh8 ?hs8
  case hi8 => (simp only [List.getElem?_toArray, List.getElem?_cons_succ, List.getElem?_cons_zero]; try rfl)
  case hl8 => (simp only [List.setIfInBounds_toArray, List.set_cons_succ, List.set_cons_zero]; try rfl)
  case hg8 => rfl
  case hs8 =>
    exact AllReadyH.nil
  intro K hK
  go_simp
  refine (hO _).mono ?_
  rintro x w44 ⟨rfl, hB⟩
  have HS44 := hid ((HSd.out).trans (hB.mono (HSd.out).size))
  have GX : Hid (Ob w44 (w.heap.size) 30 e) := hid (heapB (HX.out) hB (Array.getElem?_eq_some_iff.1 (HX.out)).1)
  have GY : Hid (Ob w44 (w41.heap.size) 30 E1) := hid (heapB (HY.out) hB (Array.getElem?_eq_some_iff.1 (HY.out)).1)
  have GW := hid ((HW.out).trans (hB.mono (HW.out).size))
  clear hB HX HY HW
  have HX := GX; clear GX
  have HY := GY; clear GY
  have HW := GW; clear GW
  dsimp only
  refine hK.out _ _ HS44.out ?_
  clear hK K HSd
  refine wpAnyH_ready (rs := [4]) (by kernel_rfl) (by simp) ?_
  refine rh_cons (i := 4) (o := ?o9) (listed' := ?l9) ?hi9 ?hl9 ?hg9 ?hh9 ?hs9
  case hi9 => (simp only [List.getElem?_toArray, List.getElem?_cons_succ, List.getElem?_cons_zero]; try rfl)
  case hl9 => (simp only [List.setIfInBounds_toArray, List.set_cons_succ, List.set_cons_zero]; try rfl)
  case hg9 => rfl
  case hs9 =>
    exact AllReadyH.nil
  intro K hK
  go_simp
  refine (hY _ HW.out).mono ?_
  rintro x w45 ⟨R8, rfl, hO8, hB⟩
  have HS45 := hid ((HS44.out).trans (hB.mono (HS44.out).size))
  have GX : Hid (Ob w45 (w.heap.size) 30 e) := hid (heapB (HX.out) hB (Array.getElem?_eq_some_iff.1 (HX.out)).1)
  have GY : Hid (Ob w45 (w41.heap.size) 30 E1) := hid (heapB (HY.out) hB (Array.getElem?_eq_some_iff.1 (HY.out)).1)
  have GW := hid ((HW.out).trans (hB.mono (HW.out).size))
  clear hB HX HY HW
  have HX := GX; clear GX
  have HY := GY; clear GY
  have HW := GW; clear GW
  obtain ⟨g8, c8, n8, rfl, hn8⟩ := hO8.asSlice
  have HO8 := hid hO8.slb
  clear hO8 hn8
  dsimp only
  refine hK.out _ _ HS45.out ?_
  clear hK K HS44
  refine wpAnyH_ready (rs := [5]) (by kernel_rfl) (by simp) ?_
  refine rh_convS (i := 5) (o := ?o10) (x := ?x10) (v := ?v10) (val := strB B) (T := 42) (U := 9) (listed' := ?l10) (a' := ?a10) ?hi10 ?hl10 ?hg10 ?ho10 ?hx10 ?hc10 ?ha10 HS45.out ?hh10 AllReadyH.nil
  case hi10 => (simp only [List.getElem?_toArray, List.getElem?_cons_succ, List.getElem?_cons_zero]; try rfl)
  case hl10 => (simp only [List.setIfInBounds_toArray, List.set_cons_succ, List.set_cons_zero]; try rfl)
  case hg10 => rfl
  case ho10 => rfl
  case hx10 => rfl
  case hc10 => exact convB HO8.out
  case ha10 => (simp only [Act.put, List.setIfInBounds_toArray, List.set_cons_succ, List.set_cons_zero]; try rfl)
  clear HO8
  refine rh_take (i := 6) (o := ?o11) (v := .bool false) (listed' := ?l11) (a' := ?a11) ?hi11 (by kernel_rfl) (by kernel_rfl) (by kernel_rfl) ?hq11 ?hl11 ?hw11 ?hv11 ?ha11 HS45.out ?hh11
  case hi11 => (simp only [List.getElem?_toArray, List.getElem?_cons_succ, List.getElem?_cons_zero]; try rfl)
  case hq11 => exact fun _ _ _ h => h
  case hl11 => (simp only [List.setIfInBounds_toArray, List.set_cons_succ, List.set_cons_zero]; try rfl)
  case hw11 => rfl
  case hv11 =>
    intro w
    go_simp
    try simp
  case ha11 => (simp only [Act.put, List.setIfInBounds_toArray, List.set_cons_succ, List.set_cons_zero]; try rfl)
  refine rh_take (i := 7) (o := ?o12) (v := ?v12) (listed' := ?l12) (a' := ?a12) ?hi12 (by kernel_rfl) (by kernel_rfl) (by kernel_rfl) ?hq12 ?hl12 ?hw12 ?hv12 ?ha12 HS45.out ?hh12
  case hi12 => (simp only [List.getElem?_toArray, List.getElem?_cons_succ, List.getElem?_cons_zero]; try rfl)
  case hq12 => exact fun _ _ _ h => h
  case hl12 => (simp only [List.setIfInBounds_toArray, List.set_cons_succ, List.set_cons_zero]; try rfl)
  case hw12 => rfl
  case hv12 =>
    intro w
    go_simp
    try with_reducible rfl
  case ha12 => (simp only [Act.put, List.setIfInBounds_toArray, List.set_cons_succ, List.set_cons_zero]; try rfl)
  refine rh_take (i := 8) (o := ?o13) (v := ?v13) (listed' := ?l13) (a' := ?a13) ?hi13 (by kernel_rfl) (by kernel_rfl) (by kernel_rfl) ?hq13 ?hl13 ?hw13 ?hv13 ?ha13 HS45.out ?hh13
  case hi13 => (simp only [List.getElem?_toArray, List.getElem?_cons_succ, List.getElem?_cons_zero]; try rfl)
  case hq13 => exact fun _ _ _ h => h
  case hl13 => (simp only [List.setIfInBounds_toArray, List.set_cons_succ, List.set_cons_zero]; try rfl)
  case hw13 => rfl
  case hv13 =>
    intro w
    go_simp
    try with_reducible rfl
  case ha13 => (simp only [Act.put, List.setIfInBounds_toArray, List.set_cons_succ, List.set_cons_zero]; try rfl)
  refine rh_take (i := 9) (o := ?o14) (v := ?v14) (listed' := ?l14) (a' := ?a14) ?hi14 (by kernel_rfl) (by kernel_rfl) (by kernel_rfl) ?hq14 ?hl14 ?hw14 ?hv14 ?ha14 HS45.out ?hh14
  case hi14 => (simp only [List.getElem?_toArray, List.getElem?_cons_succ, List.getElem?_cons_zero]; try rfl)
  case hq14 => exact fun _ _ _ h => h
  case hl14 => (simp only [List.setIfInBounds_toArray, List.set_cons_succ, List.set_cons_zero]; try rfl)
  case hw14 => rfl
  case hv14 =>
    intro w
    go_simp
    try with_reducible rfl
  case ha14 => (simp only [Act.put, List.setIfInBounds_toArray, List.set_cons_succ, List.set_cons_zero]; try rfl)
  refine rh_take (i := 10) (o := ?o15) (v := ?v15) (listed' := ?l15) (a' := ?a15) ?hi15 (by kernel_rfl) (by kernel_rfl) (by kernel_rfl) ?hq15 ?hl15 ?hw15 ?hv15 ?ha15 HS45.out ?hh15
  case hi15 => (simp only [List.getElem?_toArray, List.getElem?_cons_succ, List.getElem?_cons_zero]; try rfl)
  case hq15 => exact fun _ _ _ h => h
  case hl15 => (simp only [List.setIfInBounds_toArray, List.set_cons_succ, List.set_cons_zero]; try rfl)
  case hw15 => rfl
  case hv15 =>
    intro w
    go_simp
    try with_reducible rfl
  case ha15 => (simp only [Act.put, List.setIfInBounds_toArray, List.set_cons_succ, List.set_cons_zero]; try rfl)
  refine rh_take (i := 11) (o := ?o16) (v := ?v16) (listed' := ?l16) (a' := ?a16) ?hi16 (by kernel_rfl) (by kernel_rfl) (by kernel_rfl) ?hq16 ?hl16 ?hw16 ?hv16 ?ha16 HS45.out ?hh16
  case hi16 => (simp only [List.getElem?_toArray, List.getElem?_cons_succ, List.getElem?_cons_zero]; try rfl)
  case hq16 => exact fun _ _ _ h => h
  case hl16 => (simp only [List.setIfInBounds_toArray, List.set_cons_succ, List.set_cons_zero]; try rfl)
  case hw16 => rfl
  case hv16 =>
    intro w
    go_simp
    try with_reducible rfl
  case ha16 => (simp only [Act.put, List.setIfInBounds_toArray, List.set_cons_succ, List.set_cons_zero]; try rfl)
  refine rh_take (i := 12) (o := ?o17) (v := ?v17) (listed' := ?l17) (a' := ?a17) ?hi17 (by kernel_rfl) (by kernel_rfl) (by kernel_rfl) ?hq17 ?hl17 ?hw17 ?hv17 ?ha17 HS45.out ?hh17
  case hi17 => (simp only [List.getElem?_toArray, List.getElem?_cons_succ, List.getElem?_cons_zero]; try rfl)
  case hq17 => exact fun _ _ _ h => h
  case hl17 => (simp only [List.setIfInBounds_toArray, List.set_cons_succ, List.set_cons_zero]; try rfl)
  case hw17 => rfl
  case hv17 =>
    intro w
    go_simp
    try with_reducible rfl
  case ha17 => (simp only [Act.put, List.setIfInBounds_toArray, List.set_cons_succ, List.set_cons_zero]; try rfl)
  refine rh_take (i := 13) (o := ?o18) (v := ?v18) (listed' := ?l18) (a' := ?a18) ?hi18 (by kernel_rfl) (by kernel_rfl) (by kernel_rfl) ?hq18 ?hl18 ?hw18 ?hv18 ?ha18 HS45.out ?hh18
  case hi18 => (simp only [List.getElem?_toArray, List.getElem?_cons_succ, List.getElem?_cons_zero]; try rfl)
  case hq18 => exact fun _ _ _ h => h
  case hl18 => (simp only [List.setIfInBounds_toArray, List.set_cons_succ, List.set_cons_zero]; try rfl)
  case hw18 => rfl
  case hv18 =>
    intro w
    go_simp
    try with_reducible rfl
  case ha18 => (simp only [Act.put, List.setIfInBounds_toArray, List.set_cons_succ, List.set_cons_zero]; try rfl)
  refine rh_take (i := 14) (o := ?o19) (v := ?v19) (listed' := ?l19) (a' := ?a19) ?hi19 (by kernel_rfl) (by kernel_rfl) (by kernel_rfl) ?hq19 ?hl19 ?hw19 ?hv19 ?ha19 HS45.out ?hh19
  case hi19 => (simp only [List.getElem?_toArray, List.getElem?_cons_succ, List.getElem?_cons_zero]; try rfl)
  case hq19 => exact fun _ _ _ h => h
  case hl19 => (simp only [List.setIfInBounds_toArray, List.set_cons_succ, List.set_cons_zero]; try rfl)
  case hw19 => rfl
  case hv19 =>
    intro w
    go_simp
    try with_reducible rfl
  case ha19 => (simp only [Act.put, List.setIfInBounds_toArray, List.set_cons_succ, List.set_cons_zero]; try rfl)
  refine wpAnyH_done (by kernel_rfl) ?_ _
  clear HX HY RY HS45 HD42 HO42 HO43 HS41 HE1 HUS HUL HFV HLL HBL HU HUG ltYX ltwY hY hN hR hO
  go_wp2_with fail
  go_at_call 13
  refine (cDecode (HBS.out.on HW.out) (by have := HLN.out; omega)).mono ?_
  rintro x w4 ⟨E, p, q, r, rfl, hy, hn, hB⟩
  have GW := hid ((HW.out).trans (hB.mono (HW.out).size))
  clear hB  HW
  have HW := GW; clear GW
  rw [← HT.out] at hy hn ⊢
  obtain ⟨hE, s1, s2, s3⟩ := hy HG.out
  have HS4 := hid (And.intro s1 (And.intro s2 s3))
  have HE := hid hE
  have hg4 : (if t.good = true then (0 : Int) else 2) = 0 := if_pos HG.out
  clear hy hn hE s1 s2 s3
  rw [hg4]
  clear hg4
  have ltwY : w.heap.size ≤ w4.heap.size := (HW.out).size
  have RY : Room (w4.alloc zeroEc) (w4.heap.size) 30 := ⟨_, newAt (x := zeroEc) rfl, rfl⟩
  go_wp2_with (first
    | ((with_reducible refine storeC (x := ?sx20) (y := ?sy20) (b := ?sb20) (T := 30) E ?sg20 ?so20 ?sxx20 ?syy20 ?sc20 ?sh20); (case sg20 => rfl); (case so20 => rfl); (case sxx20 => rfl); (case syy20 => rfl); (case sc20 => exact RY); intro w5 hO hU; have GY := hid hO; have GW := hid ((((HW.out).alloc (HW.out).size zeroEc)).trans (hU.below _ (by first | exact Nat.le_refl _ | omega))); have HD5 := hid (((Below.refl _ w4).alloc (Nat.le_refl _) zeroEc).trans (hU.below _ (Nat.le_refl _))); clear hO hU; clear  HW; have HY := GY; clear GY; have HW := GW; clear GW)
    | fail)
  go_at_call 16
  refine (rParse (HBS.out.on HW.out) (by have := HLN.out; omega)).mono ?_
  rintro x w6 ⟨M, p', q', r', rfl, hy, hn, hB⟩
  have HD6 := hid (HD5.out.trans (hB.mono HD5.out.size))
  have GY : Hid (Ob w6 (w4.heap.size) 30 E) := hid (heapB (HY.out) hB (Array.getElem?_eq_some_iff.1 (HY.out)).1)
  have GW := hid ((HW.out).trans (hB.mono (HW.out).size))
  clear hB HY HW
  have HY := GY; clear GY
  have HW := GW; clear GW
  rw [← HT.out] at hy hn ⊢
  obtain ⟨hM, s1, s2, s3⟩ := hy HG.out
  have HS6 := hid (And.intro s1 (And.intro s2 s3))
  have HM := hid hM
  have hg6 : (if t.good = true then (0 : Int) else 2) = 0 := if_pos HG.out
  clear hy hn hM s1 s2 s3
  rw [hg6]
  clear hg6
  have ltZY : w4.heap.size < w6.heap.size := (Array.getElem?_eq_some_iff.1 (HY.out)).1
  have ltwZ : w.heap.size ≤ w6.heap.size := (HW.out).size
  have RZ : Room (w6.alloc zeroE) (w6.heap.size) 36 := ⟨_, newAt (x := zeroE) rfl, rfl⟩
  go_wp2_with (first
    | ((with_reducible refine storeR (x := ?sx21) (y := ?sy21) (b := ?sb21) (T := 36) M ?sg21 ?so21 ?sxx21 ?syy21 ?sc21 ?sh21); (case sg21 => rfl); (case so21 => rfl); (case sxx21 => rfl); (case syy21 => rfl); (case sc21 => exact RZ); intro w7 hO hU; have GZ := hid hO; have GY : Hid (Ob w7 (w4.heap.size) 30 E) := hid (hU.ob ((obAlloc (x := zeroE) HY.out)) (by omega)); have GW := hid ((((HW.out).alloc (HW.out).size zeroE)).trans (hU.below _ (by first | exact Nat.le_refl _ | omega))); have HD7 := hid (((Below.refl _ w6).alloc (Nat.le_refl _) zeroE).trans (hU.below _ (Nat.le_refl _))); clear hO hU; clear HY HW; have HY := GY; clear GY; have HZ := GZ; clear GZ; have HW := GW; clear GW)
    | ((with_reducible refine loadC (x := ?lx22) (b := ?lb22) (T := 30) E ?lg22 ?lo22 ?lxx22 ?lc22 ?lh22); (case lg22 => rfl); (case lo22 => rfl); (case lxx22 => rfl); (case lc22 => exact HY.out))
    | ((with_reducible refine loadR (x := ?lx23) (b := ?lb23) (T := 36) M ?lg23 ?lo23 ?lxx23 ?lc23 ?lh23); (case lg23 => rfl); (case lo23 => rfl); (case lxx23 => rfl); (case lc23 => exact HZ.out))
    | fail)
  have HD47 := hid (HD6.out.trans (HD7.out.mono HD6.out.size))
  have hS6 : ∀ W, Below w7.heap.size w7 W → Calls Try.prog 14 #[.agg E.arr, .agg M.arr] W fun x w' => x = .returned (.bool true) ∧ Below W.heap.size W w' := fun W hW => by
    have k4 := HD47.out.trans (hW.mono HD47.out.size)
    have k6 := HD7.out.trans (hW.mono HD7.out.size)
    have hE := HE.out
    have hM := HM.out
    subst hE hM
    have hs := take_short (bs := bs) (by rw [← HT.out]; exact HG.out)
    rw [← HT.out] at hs
    have hln := HLN.out
    have := cSame6 (e := t.ev p q r) (m := t.ev p' q' r') (HS4.out.1.on k4) (HS6.out.1.on k6) (HS4.out.2.1.on k4) (HS6.out.2.1.on k6) (HS4.out.2.2.on k4) (HS6.out.2.2.on k6) (by omega) (by omega) (by omega) (by omega) (by omega) (by omega)
    rw [sameE_ev] at this
    exact this
  go_at_call 14
  refine (hS6 _ (Below.refl _ _)).mono ?_
  rintro x w8 ⟨rfl, hB⟩
  have HD8 := hid (HD47.out.trans (hB.mono HD47.out.size))
  have GY : Hid (Ob w8 (w4.heap.size) 30 E) := hid (heapB (HY.out) hB (Array.getElem?_eq_some_iff.1 (HY.out)).1)
  have GZ : Hid (Ob w8 (w6.heap.size) 36 M) := hid (heapB (HZ.out) hB (Array.getElem?_eq_some_iff.1 (HZ.out)).1)
  have GW := hid ((HW.out).trans (hB.mono (HW.out).size))
  clear hB HY HZ HW
  have HY := GY; clear GY
  have HZ := GZ; clear GZ
  have HW := GW; clear GW
  go_wp2_with (first
    | ((with_reducible refine loadC (x := ?lx24) (b := ?lb24) (T := 30) E ?lg24 ?lo24 ?lxx24 ?lc24 ?lh24); (case lg24 => rfl); (case lo24 => rfl); (case lxx24 => rfl); (case lc24 => exact HY.out))
    | fail)
  have hEn : ∀ W, Below w8.heap.size w8 W → Calls Try.prog 11 #[.agg E.arr] W fun x w' => ∃ r, x = .returned (.tuple #[r, .int .i64 0]) ∧ OwnB w' W.heap.size r bs ∧ Below W.heap.size W w' := fun W hW => by
    have k4 := HD8.out.trans (hW.mono HD8.out.size)
    have hE := HE.out
    subst hE
    have hg : (takeE (bs, 0)).good = true := by rw [← HT.out]; exact HG.out
    have hs := take_short (bs := bs) hg
    have hbk := take_bytes (bs := bs) (p := p) (q := q) (r := r) hg
    rw [← HT.out] at hs hbk
    have hln := HLN.out
    have := cEncode_yes (e := t.ev p q r) (HS4.out.1.on k4) (HS4.out.2.1.on k4) (HS4.out.2.2.on k4) (by omega) (by omega) (by omega) (good_right HG.out p q r)
    rw [hbk] at this
    exact this
  go_at_call 11
  refine (hEn _ (Below.refl _ _)).mono ?_
  rintro x w9 ⟨R, rfl, hO9, hB⟩
  have GY : Hid (Ob w9 (w4.heap.size) 30 E) := hid (heapB (HY.out) hB (Array.getElem?_eq_some_iff.1 (HY.out)).1)
  have GZ : Hid (Ob w9 (w6.heap.size) 36 M) := hid (heapB (HZ.out) hB (Array.getElem?_eq_some_iff.1 (HZ.out)).1)
  have GW := hid ((HW.out).trans (hB.mono (HW.out).size))
  clear hB HY HZ HW
  have HY := GY; clear GY
  have HZ := GZ; clear GZ
  have HW := GW; clear GW
  obtain ⟨g9, c9, n9, rfl, hn9⟩ := hO9.asSlice
  have HO9 := hid hO9.slb
  clear hO9 hn9
  go_wp2_with fail
  go_at_call 7
  refine (hL _).mono ?_
  rintro x w10 ⟨rfl, hB⟩
  have HO10 := hid (HO9.out.on hB)
  have GY : Hid (Ob w10 (w4.heap.size) 30 E) := hid (heapB (HY.out) hB (Array.getElem?_eq_some_iff.1 (HY.out)).1)
  have GZ : Hid (Ob w10 (w6.heap.size) 36 M) := hid (heapB (HZ.out) hB (Array.getElem?_eq_some_iff.1 (HZ.out)).1)
  have GW := hid ((HW.out).trans (hB.mono (HW.out).size))
  clear hB HY HZ HW
  have HY := GY; clear GY
  have HZ := GZ; clear GZ
  have HW := GW; clear GW
  have hv1 := convB HO10.out
  have hv2 := convB (HBS.out.on HW.out)
  go_wp2_with fail
  go_ret
  exact ⟨rfl, HW.out⟩
set_option maxHeartbeats 8000000 in
set_option maxRecDepth 100000 in
theorem eb_yes_bad {e : Ev} {f a v : List C7} {bs : List UInt8} {ad : Option Addr} {cap : Nat} {w : World} (hf : Sl w e.fp.v f) (ha : Sl w e.xp.v a) (hv : Sl w e.vp.v v) (hb : SlB w (.slice ad bs.length cap) bs) (h : fitsE e = true) (hl : bs.length ≤ 3000) (lf : f.length ≤ 80) (la : a.length ≤ 80) (lv : v.length ≤ 80) (hr : rightE e f a v = true) (hg : (takeE (bs, 0)).good = false) : Calls Try.prog 4 #[.agg e.arr, .slice ad bs.length cap] w fun x w' => x = .returned (.bool true) ∧ Below w.heap.size w w' := by
  have hF := fun W => cFits e W
  rw [h] at hF
  have hN := fun (W : World) (hB : Below w.heap.size w W) => cEncode_yes (hf.on hB) (ha.on hB) (hv.on hB) (by omega) (by omega) (by omega) hr
  have hR := fun (W : World) (hB : Below w.heap.size w W) => rRightE (hf.on hB) (ha.on hB) (hv.on hB) (by omega) (by omega) (by omega)
  rw [hr] at hR
  have hO := fun W => cOf e W
  have hY := fun (W : World) (hB : Below w.heap.size w W) => rBytes (hf.on hB) (ha.on hB) (hv.on hB) (by omega) (by omega) (by omega) hr
  have hbl := (ent_len (right_fine hr) (by omega : f.length ≤ 428) (by omega : a.length ≤ 428) (by omega : v.length ≤ 428)).2
  have hgb := good_back hr
  have hsb := fun p q r => sameE_back hr p q r
  obtain ⟨k1, k2, k3⟩ := lists_back hr
  obtain ⟨B, hB0⟩ : ∃ B, B = entB e f a v := ⟨_, rfl⟩
  rw [← hB0] at hN hY hbl hgb hsb k1 k2 k3
  clear hB0
  obtain ⟨u, hu⟩ : ∃ u, u = takeE (B, 0) := ⟨_, rfl⟩
  rw [← hu] at hgb hsb k1 k2 k3
  have HU := hid hu
  have HUG := hid hgb
  have HUS := hid hsb
  have HUL := hid (And.intro k1 (And.intro k2 k3))
  have HBL := hid hbl
  have HFV := hid (And.intro hf (And.intro ha hv))
  have HLL := hid (And.intro lf (And.intro la lv))
  clear hf ha hv h hr hu hgb hsb k1 k2 k3 hbl lf la lv
  obtain ⟨n, hn⟩ : ∃ n, n = bs.length := ⟨_, rfl⟩
  have HBS := hid hb
  rw [← hn] at hl HBS ⊢
  have hl' : ¬ (3000 : Int) < (n : Int) := by omega
  have hl2 : decide ((3000 : Int) < (n : Int)) = false := decide_eq_false hl'
  have HLN := hid (show bs.length ≤ 3000 by omega)
  clear hn hl hb
  have hL := fun W => cAlive6 W
  obtain ⟨t, ht⟩ : ∃ t, t = takeE (bs, 0) := ⟨_, rfl⟩
  rw [← ht] at hg
  have HT := hid ht
  have HG := hid hg
  clear ht hg
  have HX : Hid (Ob (w.alloc (.cells e.arr 30)) (w.heap.size) 30 e) := hid (laid1_0 w (.cells e.arr 30))
  have HW : Hid (Below w.heap.size w (w.alloc (.cells e.arr 30))) := hid (laid1_b w (.cells e.arr 30))
  have tok : Hid (0 = 0) := hid rfl
  go_enter Try.func4, Try.ntmps4
  go_wp2_with (first
    | (clear tok; (with_reducible refine opaqueW (w.alloc (.cells e.arr 30)) ?_); intro W0 hW; rw [← hW] at HX HW; clear hW)
    | ((with_reducible refine loadC (x := ?lx25) (b := ?lb25) (T := 30) e ?lg25 ?lo25 ?lxx25 ?lc25 ?lh25); (case lg25 => rfl); (case lo25 => rfl); (case lxx25 => rfl); (case lc25 => exact HX.out))
    | fail)
  go_at_call 5
  refine (hF _).mono ?_
  rintro x w1 ⟨rfl, hB⟩
  have GX : Hid (Ob w1 (w.heap.size) 30 e) := hid (heapB (HX.out) hB (Array.getElem?_eq_some_iff.1 (HX.out)).1)
  have GW := hid ((HW.out).trans (hB.mono (HW.out).size))
  clear hB HX HW
  have HX := GX; clear GX
  have HW := GW; clear GW
  go_wp2_with (first
    | ((with_reducible refine loadC (x := ?lx26) (b := ?lb26) (T := 30) e ?lg26 ?lo26 ?lxx26 ?lc26 ?lh26); (case lg26 => rfl); (case lo26 => rfl); (case lxx26 => rfl); (case lc26 => exact HX.out))
    | fail)
  go_at_call 11
  refine (hN _ HW.out).mono ?_
  rintro x w2 ⟨R, rfl, hO2, hB⟩
  have GX : Hid (Ob w2 (w.heap.size) 30 e) := hid (heapB (HX.out) hB (Array.getElem?_eq_some_iff.1 (HX.out)).1)
  have GW := hid ((HW.out).trans (hB.mono (HW.out).size))
  clear hB HX HW
  have HX := GX; clear GX
  have HW := GW; clear GW
  obtain ⟨g6, c6, n6, rfl, hn6⟩ := hO2.asSlice
  have HO2 := hid hO2.slb
  clear hO2 hn6
  go_wp2_with (first
    | ((with_reducible refine loadC (x := ?lx27) (b := ?lb27) (T := 30) e ?lg27 ?lo27 ?lxx27 ?lc27 ?lh27); (case lg27 => rfl); (case lo27 => rfl); (case lxx27 => rfl); (case lc27 => exact HX.out))
    | fail)
  go_at_call 8
  refine (hO _).mono ?_
  rintro x w3 ⟨rfl, hB⟩
  have HO3 := hid (HO2.out.on hB)
  have GX : Hid (Ob w3 (w.heap.size) 30 e) := hid (heapB (HX.out) hB (Array.getElem?_eq_some_iff.1 (HX.out)).1)
  have GW := hid ((HW.out).trans (hB.mono (HW.out).size))
  clear hB HX HW
  have HX := GX; clear GX
  have HW := GW; clear GW
  go_wp2_with fail
  go_at_call 12
  refine (hR _ HW.out).mono ?_
  rintro x w31 ⟨rfl, hB⟩
  have HO31 := hid (HO3.out.on hB)
  have GX : Hid (Ob w31 (w.heap.size) 30 e) := hid (heapB (HX.out) hB (Array.getElem?_eq_some_iff.1 (HX.out)).1)
  have GW := hid ((HW.out).trans (hB.mono (HW.out).size))
  clear hB HX HW
  have HX := GX; clear GX
  have HW := GW; clear GW
  go_wp2_with fail
  go_at_call 13
  refine (cDecode HO31.out HBL.out).mono ?_
  rintro x w41 ⟨E1, p1, q1, r1, rfl, hy, hn, hB⟩
  have HO41 := hid (HO31.out.on hB)
  have GX : Hid (Ob w41 (w.heap.size) 30 e) := hid (heapB (HX.out) hB (Array.getElem?_eq_some_iff.1 (HX.out)).1)
  have GW := hid ((HW.out).trans (hB.mono (HW.out).size))
  clear hB HX HW
  have HX := GX; clear GX
  have HW := GW; clear GW
  rw [← HU.out] at hy hn ⊢
  obtain ⟨hE1, s1, s2, s3⟩ := hy HUG.out
  have HS41 := hid (And.intro s1 (And.intro s2 s3))
  have HE1 := hid hE1
  have hg1 : (if u.good = true then (0 : Int) else 2) = 0 := if_pos HUG.out
  clear hy hn hE1 s1 s2 s3 HO2 HO3 HO31
  rw [hg1]
  clear hg1
  have ltYX : w.heap.size < w41.heap.size := (Array.getElem?_eq_some_iff.1 (HX.out)).1
  have ltwY : w.heap.size ≤ w41.heap.size := (HW.out).size
  have RY : Room (w41.alloc zeroEc) (w41.heap.size) 30 := ⟨_, newAt (x := zeroEc) rfl, rfl⟩
  go_wp2_with (first
    | ((with_reducible refine storeC (x := ?sx28) (y := ?sy28) (b := ?sb28) (T := 30) E1 ?sg28 ?so28 ?sxx28 ?syy28 ?sc28 ?sh28); (case sg28 => rfl); (case so28 => rfl); (case sxx28 => rfl); (case syy28 => rfl); (case sc28 => exact RY); intro w42 hOb hU; have GY := hid hOb; have GX : Hid (Ob w42 (w.heap.size) 30 e) := hid (hU.ob ((obAlloc (x := zeroEc) HX.out)) (by omega)); have GW := hid ((((HW.out).alloc (HW.out).size zeroEc)).trans (hU.below _ (by first | exact Nat.le_refl _ | omega))); have HD42 := hid (((Below.refl _ w41).alloc (Nat.le_refl _) zeroEc).trans (hU.below _ (Nat.le_refl _))); clear hOb hU; clear HX HW; have HX := GX; clear GX; have HY := GY; clear GY; have HW := GW; clear GW)
    | fail)
  have HO42 := hid (HO41.out.on HD42.out)
  have hS10 : ∀ W, Below w42.heap.size w42 W → Calls Try.prog 14 #[.agg E1.arr, .agg e.arr] W fun x w' => x = .returned (.bool true) ∧ Below W.heap.size W w' := fun W hW => by
    have k4 := HD42.out.trans (hW.mono HD42.out.size)
    have k0 := HW.out.trans (hW.mono HW.out.size)
    have hE1 := HE1.out
    subst hE1
    have hl1 := HUL.out
    have hll := HLL.out
    have := cSame6 (e := u.ev p1 q1 r1) (m := e) (HS41.out.1.on k4) (HFV.out.1.on k0) (HS41.out.2.1.on k4) (HFV.out.2.1.on k0) (HS41.out.2.2.on k4) (HFV.out.2.2.on k0) (by rw [hl1.1]; omega) (by omega) (by rw [hl1.2.1]; omega) (by omega) (by rw [hl1.2.2]; omega) (by omega)
    rw [HUS.out] at this
    exact this
  clear HO41
  have hq1 := quietB (w1 := w42) (fun W hW => hO W)
  have hq2 := quietB (w1 := w42) (fun W hW => hS10 W hW)
  refine wp_region_quiet_below (by kernel_rfl) (by kernel_rfl) ?_
  go_big_quiet_want
  refine quietC E1 rfl rfl (obGrown HY.out) ?_
  go_big_quiet_on
  simp only [Act.put, List.setIfInBounds_toArray, List.set_cons_succ, List.set_cons_zero]
  go_big_quiet_want
  refine quietC e rfl rfl (obGrown HX.out) ?_
  go_big_quiet_on
  simp only [Act.put, List.setIfInBounds_toArray, List.set_cons_succ, List.set_cons_zero]
  go_big_quiet_step (with_reducible exact hq1 _ _)
  go_big_quiet_step (with_reducible exact hq2 _ _)
  go_big_quiet_step (fail)
  refine wpQuiet_nil ?_
  rintro _ ⟨⟨dq, osq⟩, rfl⟩
  have hB := below_regrown w42 dq osq
  obtain ⟨w43, hw43⟩ : ∃ W, W = grow (redrawn w42 dq) osq := ⟨_, rfl⟩
  rw [← hw43] at hB ⊢
  have HO43 := hid (HO42.out.on hB)
  clear hw43 hq1 hq2 hS10
  have GX : Hid (Ob w43 (w.heap.size) 30 e) := hid (heapB (HX.out) hB (Array.getElem?_eq_some_iff.1 (HX.out)).1)
  have GY : Hid (Ob w43 (w41.heap.size) 30 E1) := hid (heapB (HY.out) hB (Array.getElem?_eq_some_iff.1 (HY.out)).1)
  have GW := hid ((HW.out).trans (hB.mono (HW.out).size))
  clear hB HX HY HW
  have HX := GX; clear GX
  have HY := GY; clear GY
  have HW := GW; clear GW
  go_wp2_with fail
  refine rh_start (S := fun W => Below w43.heap.size w43 W) (n := 15) (listed := #[false, false, false, false, false, false, false, false, false, false, false, false, false, false, false]) (by kernel_rfl) rfl rfl ?_
  have PX := HX
  have PY := HY
  have GX : Hid (Ob (w43.drew) (w.heap.size) 30 e) := hid (obDrew HX.out)
  have GY : Hid (Ob (w43.drew) (w41.heap.size) 30 E1) := hid (obDrew HY.out)
  have GW : Hid (Below w.heap.size w w43.drew) := hid (belowDrew (HW.out))
  have HSd : Hid (Below w43.heap.size w43 w43.drew) := hid (belowDrew (Below.refl _ w43))
  clear HX HY HW
  have HX := GX; clear GX
  have HY := GY; clear GY
  have HW := GW; clear GW
  generalize World.drew w43 = wd at HX HY HW HSd ⊢
  refine rh_take (i := 0) (o := ?o29) (v := ?v29) (listed' := ?l29) (a' := ?a29) ?hi29 (by kernel_rfl) (by kernel_rfl) (by kernel_rfl) ?hq29 ?hl29 ?hw29 ?hv29 ?ha29 HSd.out ?hh29
  case hi29 => (simp only [List.getElem?_toArray, List.getElem?_cons_zero]; try rfl)
  case hq29 => exact fun _ _ _ h => h
  case hl29 => (simp only [List.setIfInBounds_toArray, List.set_cons_zero]; try rfl)
  case hw29 => rfl
  case hv29 =>
    intro w
    go_simp
    try with_reducible rfl
  case ha29 => (simp only [Act.put, List.setIfInBounds_toArray, List.set_cons_succ, List.set_cons_zero]; try rfl)
  refine rh_conv (i := 1) (o := ?o30) (x := ?x30) (v := ?v30) (val := strB B) (T := 42) (U := 9) (listed' := ?l30) (a' := ?a30) ?hi30 (by kernel_rfl) (by kernel_rfl) (by kernel_rfl) ?hq30 ?hl30 ?hg30 ?ho30 ?hx30 ?hc30 ?ha30 HSd.out ?hh30
  case hi30 => (simp only [List.getElem?_toArray, List.getElem?_cons_succ, List.getElem?_cons_zero]; try rfl)
  case hq30 => exact fun _ _ _ h => h
  case hl30 => (simp only [List.setIfInBounds_toArray, List.set_cons_succ, List.set_cons_zero]; try rfl)
  case hg30 => rfl
  case ho30 => rfl
  case hx30 => rfl
  case hc30 => exact fun W hW => convB (HO43.out.on hW)
  case ha30 => (simp only [Act.put, List.setIfInBounds_toArray, List.set_cons_succ, List.set_cons_zero]; try rfl)
  refine rh_load (i := 2) (o := ?o31) (cs := e.list) (T := 30) (x := ?x31) (b := ?b31) (q := ?q31) (listed' := ?l31) (a' := ?a31) ?hi31 (by kernel_rfl) (by kernel_rfl) (by kernel_rfl) ?hq31 ?hl31 ?hg31 ?ho31 ?hx31 ?hc31 Try.underlying30 rfl (infoEc e) ?ha31 HSd.out ?hh31
  case hi31 => (simp only [List.getElem?_toArray, List.getElem?_cons_succ, List.getElem?_cons_zero]; try rfl)
  case hq31 => exact fun _ _ _ h => h
  case hl31 => (simp only [List.setIfInBounds_toArray, List.set_cons_succ, List.set_cons_zero]; try rfl)
  case hg31 => rfl
  case ho31 => rfl
  case hx31 => rfl
  case hc31 => exact fun W hW => Ob.range (T := 30) (heapB PX.out hW (Array.getElem?_eq_some_iff.1 PX.out).1)
  case ha31 => (show Act.put _ _ (Value.agg e.arr) = _); (simp only [Act.put, List.setIfInBounds_toArray, List.set_cons_succ, List.set_cons_zero]; try rfl)
  clear PX PY
  refine wpAnyH_ready (rs := [3]) (by kernel_rfl) (by simp) ?_
  refine rh_cons (i := 3) (o := ?o32) (listed' := ?l32) ?hi32 ?hl32 ?hg32 ?hh32 ?hs32
  case hi32 => (simp only [List.getElem?_toArray, List.getElem?_cons_succ, List.getElem?_cons_zero]; try rfl)
  case hl32 => (simp only [List.setIfInBounds_toArray, List.set_cons_succ, List.set_cons_zero]; try rfl)
  case hg32 => rfl
  case hs32 =>
    exact AllReadyH.nil
  intro K hK
  go_simp
  refine (hO _).mono ?_
  rintro x w44 ⟨rfl, hB⟩
  have HS44 := hid ((HSd.out).trans (hB.mono (HSd.out).size))
  have GX : Hid (Ob w44 (w.heap.size) 30 e) := hid (heapB (HX.out) hB (Array.getElem?_eq_some_iff.1 (HX.out)).1)
  have GY : Hid (Ob w44 (w41.heap.size) 30 E1) := hid (heapB (HY.out) hB (Array.getElem?_eq_some_iff.1 (HY.out)).1)
  have GW := hid ((HW.out).trans (hB.mono (HW.out).size))
  clear hB HX HY HW
  have HX := GX; clear GX
  have HY := GY; clear GY
  have HW := GW; clear GW
  dsimp only
  refine hK.out _ _ HS44.out ?_
  clear hK K HSd
  refine wpAnyH_ready (rs := [4]) (by kernel_rfl) (by simp) ?_
  refine rh_cons (i := 4) (o := ?o33) (listed' := ?l33) ?hi33 ?hl33 ?hg33 ?hh33 ?hs33
  case hi33 => (simp only [List.getElem?_toArray, List.getElem?_cons_succ, List.getElem?_cons_zero]; try rfl)
  case hl33 => (simp only [List.setIfInBounds_toArray, List.set_cons_succ, List.set_cons_zero]; try rfl)
  case hg33 => rfl
  case hs33 =>
    exact AllReadyH.nil
  intro K hK
  go_simp
  refine (hY _ HW.out).mono ?_
  rintro x w45 ⟨R8, rfl, hO8, hB⟩
  have HS45 := hid ((HS44.out).trans (hB.mono (HS44.out).size))
  have GX : Hid (Ob w45 (w.heap.size) 30 e) := hid (heapB (HX.out) hB (Array.getElem?_eq_some_iff.1 (HX.out)).1)
  have GY : Hid (Ob w45 (w41.heap.size) 30 E1) := hid (heapB (HY.out) hB (Array.getElem?_eq_some_iff.1 (HY.out)).1)
  have GW := hid ((HW.out).trans (hB.mono (HW.out).size))
  clear hB HX HY HW
  have HX := GX; clear GX
  have HY := GY; clear GY
  have HW := GW; clear GW
  obtain ⟨g8, c8, n8, rfl, hn8⟩ := hO8.asSlice
  have HO8 := hid hO8.slb
  clear hO8 hn8
  dsimp only
  refine hK.out _ _ HS45.out ?_
  clear hK K HS44
  refine wpAnyH_ready (rs := [5]) (by kernel_rfl) (by simp) ?_
  refine rh_convS (i := 5) (o := ?o34) (x := ?x34) (v := ?v34) (val := strB B) (T := 42) (U := 9) (listed' := ?l34) (a' := ?a34) ?hi34 ?hl34 ?hg34 ?ho34 ?hx34 ?hc34 ?ha34 HS45.out ?hh34 AllReadyH.nil
  case hi34 => (simp only [List.getElem?_toArray, List.getElem?_cons_succ, List.getElem?_cons_zero]; try rfl)
  case hl34 => (simp only [List.setIfInBounds_toArray, List.set_cons_succ, List.set_cons_zero]; try rfl)
  case hg34 => rfl
  case ho34 => rfl
  case hx34 => rfl
  case hc34 => exact convB HO8.out
  case ha34 => (simp only [Act.put, List.setIfInBounds_toArray, List.set_cons_succ, List.set_cons_zero]; try rfl)
  clear HO8
  refine rh_take (i := 6) (o := ?o35) (v := .bool false) (listed' := ?l35) (a' := ?a35) ?hi35 (by kernel_rfl) (by kernel_rfl) (by kernel_rfl) ?hq35 ?hl35 ?hw35 ?hv35 ?ha35 HS45.out ?hh35
  case hi35 => (simp only [List.getElem?_toArray, List.getElem?_cons_succ, List.getElem?_cons_zero]; try rfl)
  case hq35 => exact fun _ _ _ h => h
  case hl35 => (simp only [List.setIfInBounds_toArray, List.set_cons_succ, List.set_cons_zero]; try rfl)
  case hw35 => rfl
  case hv35 =>
    intro w
    go_simp
    try simp
  case ha35 => (simp only [Act.put, List.setIfInBounds_toArray, List.set_cons_succ, List.set_cons_zero]; try rfl)
  refine rh_take (i := 7) (o := ?o36) (v := ?v36) (listed' := ?l36) (a' := ?a36) ?hi36 (by kernel_rfl) (by kernel_rfl) (by kernel_rfl) ?hq36 ?hl36 ?hw36 ?hv36 ?ha36 HS45.out ?hh36
  case hi36 => (simp only [List.getElem?_toArray, List.getElem?_cons_succ, List.getElem?_cons_zero]; try rfl)
  case hq36 => exact fun _ _ _ h => h
  case hl36 => (simp only [List.setIfInBounds_toArray, List.set_cons_succ, List.set_cons_zero]; try rfl)
  case hw36 => rfl
  case hv36 =>
    intro w
    go_simp
    try with_reducible rfl
  case ha36 => (simp only [Act.put, List.setIfInBounds_toArray, List.set_cons_succ, List.set_cons_zero]; try rfl)
  refine rh_take (i := 8) (o := ?o37) (v := ?v37) (listed' := ?l37) (a' := ?a37) ?hi37 (by kernel_rfl) (by kernel_rfl) (by kernel_rfl) ?hq37 ?hl37 ?hw37 ?hv37 ?ha37 HS45.out ?hh37
  case hi37 => (simp only [List.getElem?_toArray, List.getElem?_cons_succ, List.getElem?_cons_zero]; try rfl)
  case hq37 => exact fun _ _ _ h => h
  case hl37 => (simp only [List.setIfInBounds_toArray, List.set_cons_succ, List.set_cons_zero]; try rfl)
  case hw37 => rfl
  case hv37 =>
    intro w
    go_simp
    try with_reducible rfl
  case ha37 => (simp only [Act.put, List.setIfInBounds_toArray, List.set_cons_succ, List.set_cons_zero]; try rfl)
  refine rh_take (i := 9) (o := ?o38) (v := ?v38) (listed' := ?l38) (a' := ?a38) ?hi38 (by kernel_rfl) (by kernel_rfl) (by kernel_rfl) ?hq38 ?hl38 ?hw38 ?hv38 ?ha38 HS45.out ?hh38
  case hi38 => (simp only [List.getElem?_toArray, List.getElem?_cons_succ, List.getElem?_cons_zero]; try rfl)
  case hq38 => exact fun _ _ _ h => h
  case hl38 => (simp only [List.setIfInBounds_toArray, List.set_cons_succ, List.set_cons_zero]; try rfl)
  case hw38 => rfl
  case hv38 =>
    intro w
    go_simp
    try with_reducible rfl
  case ha38 => (simp only [Act.put, List.setIfInBounds_toArray, List.set_cons_succ, List.set_cons_zero]; try rfl)
  refine rh_take (i := 10) (o := ?o39) (v := ?v39) (listed' := ?l39) (a' := ?a39) ?hi39 (by kernel_rfl) (by kernel_rfl) (by kernel_rfl) ?hq39 ?hl39 ?hw39 ?hv39 ?ha39 HS45.out ?hh39
  case hi39 => (simp only [List.getElem?_toArray, List.getElem?_cons_succ, List.getElem?_cons_zero]; try rfl)
  case hq39 => exact fun _ _ _ h => h
  case hl39 => (simp only [List.setIfInBounds_toArray, List.set_cons_succ, List.set_cons_zero]; try rfl)
  case hw39 => rfl
  case hv39 =>
    intro w
    go_simp
    try with_reducible rfl
  case ha39 => (simp only [Act.put, List.setIfInBounds_toArray, List.set_cons_succ, List.set_cons_zero]; try rfl)
  refine rh_take (i := 11) (o := ?o40) (v := ?v40) (listed' := ?l40) (a' := ?a40) ?hi40 (by kernel_rfl) (by kernel_rfl) (by kernel_rfl) ?hq40 ?hl40 ?hw40 ?hv40 ?ha40 HS45.out ?hh40
  case hi40 => (simp only [List.getElem?_toArray, List.getElem?_cons_succ, List.getElem?_cons_zero]; try rfl)
  case hq40 => exact fun _ _ _ h => h
  case hl40 => (simp only [List.setIfInBounds_toArray, List.set_cons_succ, List.set_cons_zero]; try rfl)
  case hw40 => rfl
  case hv40 =>
    intro w
    go_simp
    try with_reducible rfl
  case ha40 => (simp only [Act.put, List.setIfInBounds_toArray, List.set_cons_succ, List.set_cons_zero]; try rfl)
  refine rh_take (i := 12) (o := ?o41) (v := ?v41) (listed' := ?l41) (a' := ?a41) ?hi41 (by kernel_rfl) (by kernel_rfl) (by kernel_rfl) ?hq41 ?hl41 ?hw41 ?hv41 ?ha41 HS45.out ?hh41
  case hi41 => (simp only [List.getElem?_toArray, List.getElem?_cons_succ, List.getElem?_cons_zero]; try rfl)
  case hq41 => exact fun _ _ _ h => h
  case hl41 => (simp only [List.setIfInBounds_toArray, List.set_cons_succ, List.set_cons_zero]; try rfl)
  case hw41 => rfl
  case hv41 =>
    intro w
    go_simp
    try with_reducible rfl
  case ha41 => (simp only [Act.put, List.setIfInBounds_toArray, List.set_cons_succ, List.set_cons_zero]; try rfl)
  refine rh_take (i := 13) (o := ?o42) (v := ?v42) (listed' := ?l42) (a' := ?a42) ?hi42 (by kernel_rfl) (by kernel_rfl) (by kernel_rfl) ?hq42 ?hl42 ?hw42 ?hv42 ?ha42 HS45.out ?hh42
  case hi42 => (simp only [List.getElem?_toArray, List.getElem?_cons_succ, List.getElem?_cons_zero]; try rfl)
  case hq42 => exact fun _ _ _ h => h
  case hl42 => (simp only [List.setIfInBounds_toArray, List.set_cons_succ, List.set_cons_zero]; try rfl)
  case hw42 => rfl
  case hv42 =>
    intro w
    go_simp
    try with_reducible rfl
  case ha42 => (simp only [Act.put, List.setIfInBounds_toArray, List.set_cons_succ, List.set_cons_zero]; try rfl)
  refine rh_take (i := 14) (o := ?o43) (v := ?v43) (listed' := ?l43) (a' := ?a43) ?hi43 (by kernel_rfl) (by kernel_rfl) (by kernel_rfl) ?hq43 ?hl43 ?hw43 ?hv43 ?ha43 HS45.out ?hh43
  case hi43 => (simp only [List.getElem?_toArray, List.getElem?_cons_succ, List.getElem?_cons_zero]; try rfl)
  case hq43 => exact fun _ _ _ h => h
  case hl43 => (simp only [List.setIfInBounds_toArray, List.set_cons_succ, List.set_cons_zero]; try rfl)
  case hw43 => rfl
  case hv43 =>
    intro w
    go_simp
    try with_reducible rfl
  case ha43 => (simp only [Act.put, List.setIfInBounds_toArray, List.set_cons_succ, List.set_cons_zero]; try rfl)
  refine wpAnyH_done (by kernel_rfl) ?_ _
  clear HX HY RY HS45 HD42 HO42 HO43 HS41 HE1 HUS HUL HFV HLL HBL HU HUG ltYX ltwY hY hN hR hO
  go_wp2_with fail
  go_at_call 13
  refine (cDecode (HBS.out.on HW.out) (by have := HLN.out; omega)).mono ?_
  rintro x w4 ⟨E, p, q, r, rfl, hy, hn, hB⟩
  have GW := hid ((HW.out).trans (hB.mono (HW.out).size))
  clear hB  HW
  have HW := GW; clear GW
  rw [← HT.out] at hy hn ⊢
  have hE := hn HG.out
  have hg4 : (if t.good = true then (0 : Int) else 2) = 2 := if_neg (by rw [HG.out]; simp)
  subst hE
  clear hy hn
  rw [hg4]
  clear hg4
  have ltwY : w.heap.size ≤ w4.heap.size := (HW.out).size
  have RY : Room (w4.alloc zeroEc) (w4.heap.size) 30 := ⟨_, newAt (x := zeroEc) rfl, rfl⟩
  go_wp2_with (first
    | ((with_reducible refine storeC (x := ?sx44) (y := ?sy44) (b := ?sb44) (T := 30) zE ?sg44 ?so44 ?sxx44 ?syy44 ?sc44 ?sh44); (case sg44 => rfl); (case so44 => rfl); (case sxx44 => rfl); (case syy44 => rfl); (case sc44 => exact RY); intro w5 hO hU; have GY := hid hO; have GW := hid ((((HW.out).alloc (HW.out).size zeroEc)).trans (hU.below _ (by first | exact Nat.le_refl _ | omega))); have HD5 := hid (((Below.refl _ w4).alloc (Nat.le_refl _) zeroEc).trans (hU.below _ (Nat.le_refl _))); clear hO hU; clear  HW; have HY := GY; clear GY; have HW := GW; clear GW)
    | fail)
  go_at_call 16
  refine (rParse (HBS.out.on HW.out) (by have := HLN.out; omega)).mono ?_
  rintro x w6 ⟨M, p', q', r', rfl, hy, hn, hB⟩
  have HD6 := hid (HD5.out.trans (hB.mono HD5.out.size))
  have GY : Hid (Ob w6 (w4.heap.size) 30 zE) := hid (heapB (HY.out) hB (Array.getElem?_eq_some_iff.1 (HY.out)).1)
  have GW := hid ((HW.out).trans (hB.mono (HW.out).size))
  clear hB HY HW
  have HY := GY; clear GY
  have HW := GW; clear GW
  rw [← HT.out] at hy hn ⊢
  have hM := hn HG.out
  have hg6 : (if t.good = true then (0 : Int) else 2) = 2 := if_neg (by rw [HG.out]; simp)
  subst hM
  clear hy hn
  rw [hg6]
  clear hg6
  have ltZY : w4.heap.size < w6.heap.size := (Array.getElem?_eq_some_iff.1 (HY.out)).1
  have ltwZ : w.heap.size ≤ w6.heap.size := (HW.out).size
  have RZ : Room (w6.alloc zeroE) (w6.heap.size) 36 := ⟨_, newAt (x := zeroE) rfl, rfl⟩
  go_wp2_with (first
    | ((with_reducible refine storeR (x := ?sx45) (y := ?sy45) (b := ?sb45) (T := 36) zE ?sg45 ?so45 ?sxx45 ?syy45 ?sc45 ?sh45); (case sg45 => rfl); (case so45 => rfl); (case sxx45 => rfl); (case syy45 => rfl); (case sc45 => exact RZ); intro w7 hO hU; have GZ := hid hO; have GY : Hid (Ob w7 (w4.heap.size) 30 zE) := hid (hU.ob ((obAlloc (x := zeroE) HY.out)) (by omega)); have GW := hid ((((HW.out).alloc (HW.out).size zeroE)).trans (hU.below _ (by first | exact Nat.le_refl _ | omega))); have HD7 := hid (((Below.refl _ w6).alloc (Nat.le_refl _) zeroE).trans (hU.below _ (Nat.le_refl _))); clear hO hU; clear HY HW; have HY := GY; clear GY; have HZ := GZ; clear GZ; have HW := GW; clear GW)
    | ((with_reducible refine loadC (x := ?lx46) (b := ?lb46) (T := 30) zE ?lg46 ?lo46 ?lxx46 ?lc46 ?lh46); (case lg46 => rfl); (case lo46 => rfl); (case lxx46 => rfl); (case lc46 => exact HY.out))
    | ((with_reducible refine loadR (x := ?lx47) (b := ?lb47) (T := 36) zE ?lg47 ?lo47 ?lxx47 ?lc47 ?lh47); (case lg47 => rfl); (case lo47 => rfl); (case lxx47 => rfl); (case lc47 => exact HZ.out))
    | fail)
  have hS6 : ∀ W, Below w7.heap.size w7 W → Calls Try.prog 14 #[.agg zE.arr, .agg zE.arr] W fun x w' => x = .returned (.bool true) ∧ Below W.heap.size W w' := fun W hW => by
    have := cSame6 (e := zE) (m := zE) (nilL W) (nilL W) (nilL W) (nilL W) (nilL W) (nilL W) (by simp) (by simp) (by simp) (by simp) (by simp) (by simp)
    rw [sameE_zE] at this
    exact this
  go_at_call 14
  refine (hS6 _ (Below.refl _ _)).mono ?_
  rintro x w8 ⟨rfl, hB⟩
  have GY : Hid (Ob w8 (w4.heap.size) 30 zE) := hid (heapB (HY.out) hB (Array.getElem?_eq_some_iff.1 (HY.out)).1)
  have GZ : Hid (Ob w8 (w6.heap.size) 36 zE) := hid (heapB (HZ.out) hB (Array.getElem?_eq_some_iff.1 (HZ.out)).1)
  have GW := hid ((HW.out).trans (hB.mono (HW.out).size))
  clear hB HY HZ HW
  have HY := GY; clear GY
  have HZ := GZ; clear GZ
  have HW := GW; clear GW
  go_wp2_with (first
    | ((with_reducible refine loadC (x := ?lx48) (b := ?lb48) (T := 30) zE ?lg48 ?lo48 ?lxx48 ?lc48 ?lh48); (case lg48 => rfl); (case lo48 => rfl); (case lxx48 => rfl); (case lc48 => exact HY.out))
    | fail)
  have hEn : ∀ W, Calls Try.prog 11 #[.agg zE.arr] W fun x w' => x = .returned (.tuple #[.slice none 0 0, .int .i64 1]) ∧ Below W.heap.size W w' := fun W =>
    cEncode_no (e := zE) (nilL W) (nilL W) (nilL W) (by simp) (by simp) (by simp) rightE_zE
  go_at_call 11
  refine (hEn _).mono ?_
  rintro x w9 ⟨rfl, hB⟩
  have GY : Hid (Ob w9 (w4.heap.size) 30 zE) := hid (heapB (HY.out) hB (Array.getElem?_eq_some_iff.1 (HY.out)).1)
  have GZ : Hid (Ob w9 (w6.heap.size) 36 zE) := hid (heapB (HZ.out) hB (Array.getElem?_eq_some_iff.1 (HZ.out)).1)
  have GW := hid ((HW.out).trans (hB.mono (HW.out).size))
  clear hB HY HZ HW
  have HY := GY; clear GY
  have HZ := GZ; clear GZ
  have HW := GW; clear GW
  go_wp2_with fail
  go_at_call 7
  refine (hL _).mono ?_
  rintro x w10 ⟨rfl, hB⟩
  have GY : Hid (Ob w10 (w4.heap.size) 30 zE) := hid (heapB (HY.out) hB (Array.getElem?_eq_some_iff.1 (HY.out)).1)
  have GZ : Hid (Ob w10 (w6.heap.size) 36 zE) := hid (heapB (HZ.out) hB (Array.getElem?_eq_some_iff.1 (HZ.out)).1)
  have GW := hid ((HW.out).trans (hB.mono (HW.out).size))
  clear hB HY HZ HW
  have HY := GY; clear GY
  have HZ := GZ; clear GZ
  have HW := GW; clear GW
  go_wp2_with fail
  go_ret
  exact ⟨rfl, HW.out⟩
end Go.Proofs.Ytmndjdaiailgmaa
/- From a row's condition to the walk: a slice of commands that came in, as a list of commands that lie in its cells. -/
namespace Go.Proofs.Ytmndjdaiailgmaa
set_option linter.unusedVariables false
open Go.Joins Go.ChangeShapes Go.WideShapes Go.ChangeAt Go.RowKit Go.Deep

theorem list_of {n : Nat} {P : Nat → C7 → Prop} (h : ∀ i, i < n → ∃ c, P i c) : ∃ cs : List C7, cs.length = n ∧ ∀ (j : Nat) c, cs[j]? = some c → P j c := by
  induction n with
  | zero => exact ⟨[], rfl, fun j c hc => by simp at hc⟩
  | succ n ih =>
    obtain ⟨cs, hl, hp⟩ := ih fun i hi => h i (by omega)
    obtain ⟨c, hc⟩ := h n (by omega)
    refine ⟨cs ++ [c], by simp [hl], fun j d hd => ?_⟩
    by_cases hj : j < cs.length
    · rw [List.getElem?_append_left hj] at hd; exact hp j d hd
    · have hlen := (List.getElem?_eq_some_iff.1 hd).1
      simp at hlen
      obtain rfl : j = cs.length := by omega
      simp at hd
      subst hd
      rw [hl]; exact hc

theorem add_plain (b o n : Nat) : (⟨b, o, none⟩ : Addr).add n = ⟨b, o + n, none⟩ := by
  by_cases h : n = 0
  · subst h; simp [Addr.add]
  · simp [Addr.add, h]

/-- A slice of structs of one-cell fields, field by field. -/
theorem open_fields {H : Type} {enc : TypeId × Value → H} {P : Program} {w : World} {base : Nat} {spare : Nat → Bool} {held : Bool} {t e : TypeId} {fs : Array Field} {fuel : Nat} {cs : List Value} {x : DataW H × List MemPlace} (ht : P.underlying t = some (.slice e)) (he : P.underlying e = some (.struct fs))
    (hone : oneCellFields P fs = true) (hC : P.cellsOf e = fs.size) (h : DataW.trod enc P w base spare held fuel t cs = some x) :
    cs = [.slice none 0 0] ∨
    ∃ (a : Addr) (len cap : Nat), cs = [.slice (some a) len cap] ∧ len ≤ maxLen ∧
      ∀ i, i < len → ∃ n : Nat, ∀ (j : Nat) (f : Field), fs[j]? = some f → ∃ (v : Value) (y : DataW H × List MemPlace), w.cell? (a.add (i * fs.size + j)) = some v ∧ DataW.trod enc P w base spare held n f.type [v] = some y := by
  rcases open_slice ht h with h0 | ⟨a, len, cap, m, n, D, Pl, hcs, _, hl, hm, hmm, _, hi⟩
  · exact .inl h0.1
  · refine .inr ⟨a, len, cap, hcs, by omega, fun i him => ?_⟩
    obtain ⟨cs', hc, ht'⟩ := hi i (by rw [hmm]; split <;> omega)
    rw [hC] at hc
    obtain ⟨ys, n', _, _, hlen, hyl, hf⟩ := DataW.trod_struct he ht'
    obtain ⟨_, _, hat⟩ := World.cells?_some hc
    refine ⟨n', fun j f hj => ?_⟩
    obtain ⟨ho, hk⟩ := hone_of hone j f hj
    have hjl : j < fs.size := (Array.getElem?_eq_some_iff.1 hj).1
    have hcell := hat j hjl
    have hv : cs'[j]? = some (cs'[j]'(by omega)) := List.getElem?_eq_getElem (by omega)
    have h1 := hf j f hj
    rw [ho, hk] at h1
    have hone' : (cs'.drop j).take 1 = [cs'[j]'(by omega)] := by
      rw [List.drop_eq_getElem_cons (by omega)]
      rfl
    rw [hone'] at h1
    have hys : ys[j]? = some (ys[j]'(by omega)) := List.getElem?_eq_getElem (by omega)
    refine ⟨_, _, ?_, h1.trans hys⟩
    rw [← Go.Deep.add_add, hcell, hv]

set_option maxRecDepth 100000 in
/-- The commands that came in: a nil slice, or so many commands behind an address. -/
theorem open_cmds {H : Type} {enc : TypeId × Value → H} {W : World} {base : Nat} {spare : Nat → Bool} {held : Bool} {b0 : Nat} {v : Value} {d : DataW H} {p : List MemPlace} (hv : Value.okWide Try.prog W .any b0 26 v) (h : DataW.Trod enc Try.prog W base spare held 26 v d p) :
    ∃ cs : List C7, Sl W v cs ∧ cs.length ≤ 9223372036854775807 := by
  obtain ⟨a0, n0, c0, rfl⟩ := okWide_slice Try.underlying26 hv
  obtain ⟨fuel, hf⟩ := h
  rcases open_fields Try.underlying26 Try.underlying25 (by kernel_rfl) (by kernel_rfl) hf with h0 | ⟨a, len, cap, hcs, hm, hi⟩
  · simp [Value.cells] at h0
    obtain ⟨rfl, rfl, rfl⟩ := h0
    exact ⟨[], ⟨0, 0, 0, none, rfl, fun _ => rfl, fun h => absurd h (by simp), fun j c hc => by simp at hc, fun h => absurd h (by simp)⟩, by simp⟩
  · simp [Value.cells] at hcs
    obtain ⟨rfl, rfl, rfl⟩ := hcs
    obtain ⟨cs, hl, hp⟩ := list_of (n := n0) (P := fun i c => ∀ (f : Nat) u, c.cells[f]? = some u → W.cell? (a.add (i * 7 + f)) = some u) fun i hlt => by
      obtain ⟨n, hf⟩ := hi i hlt
      obtain ⟨v0, y0, g0, t0⟩ := hf 0 _ rfl
      obtain ⟨v1, y1, g1, t1⟩ := hf 1 _ rfl
      obtain ⟨v2, y2, g2, t2⟩ := hf 2 _ rfl
      obtain ⟨v3, y3, g3, t3⟩ := hf 3 _ rfl
      obtain ⟨v4, y4, g4, t4⟩ := hf 4 _ rfl
      obtain ⟨v5, y5, g5, t5⟩ := hf 5 _ rfl
      obtain ⟨v6, y6, g6, t6⟩ := hf 6 _ rfl
      obtain ⟨z0, e0, _, _⟩ := DataW.trod_int Try.underlying3 t0
      obtain ⟨z1, e1, _, _⟩ := DataW.trod_int Try.underlying22 t1
      obtain ⟨z2, e2, _, _⟩ := DataW.trod_int Try.underlying3 t2
      obtain ⟨z3, e3, _, _⟩ := DataW.trod_int Try.underlying3 t3
      obtain ⟨z4, e4, _, _⟩ := DataW.trod_int Try.underlying23 t4
      obtain ⟨z5, e5, _, _⟩ := DataW.trod_int Try.underlying3 t5
      obtain ⟨z6, e6, _, _⟩ := DataW.trod_int Try.underlying3 t6
      simp only [List.cons.injEq, and_true] at e0 e1 e2 e3 e4 e5 e6
      subst e0 e1 e2 e3 e4 e5 e6
      refine ⟨⟨z0, z1, z2, z3, z4, z5, z6⟩, fun f u hu => ?_⟩
      match f, hu with
      | 0, hu => obtain rfl := Option.some.inj hu; exact g0
      | 1, hu => obtain rfl := Option.some.inj hu; exact g1
      | 2, hu => obtain rfl := Option.some.inj hu; exact g2
      | 3, hu => obtain rfl := Option.some.inj hu; exact g3
      | 4, hu => obtain rfl := Option.some.inj hu; exact g4
      | 5, hu => obtain rfl := Option.some.inj hu; exact g5
      | 6, hu => obtain rfl := Option.some.inj hu; exact g6
      | _ + 7, hu => cases hu
    have hfirst : 0 < cs.length → a.spot = none ∧ a.block < W.heap.size := fun h0 => by
      have hc : cs[0]? = some cs[0] := List.getElem?_eq_getElem h0
      have := hp 0 _ hc 0 _ rfl
      exact ⟨by simpa [Addr.add] using World.cell?_spot this, by simpa [Addr.add] using World.block_lt_of_cell? W _ this⟩
    obtain ⟨b, o, spot⟩ := a
    refine ⟨cs, ⟨b, o, c0, some ⟨b, o, spot⟩, by rw [hl], (fun e => by cases e), fun h0 => ?_, fun j c hc f u hu => ?_, fun h0 => (hfirst h0).2⟩, ?_⟩
    · rw [show spot = none from (hfirst h0).1]
    · have h0 : 0 < cs.length := by have := (List.getElem?_eq_some_iff.1 hc).1; omega
      have := hp j c hc f u hu
      rw [show spot = none from (hfirst h0).1] at this
      rw [add_plain] at this
      exact this
    · rw [hl]; exact Nat.le_trans hm (by decide)

theorem own : ownKnob Try.prog.godebug = none := by kernel_rfl
theorem laidOut : laidOutB Try.prog = true := by kernel_rfl
end Go.Proofs.Ytmndjdaiailgmaa
/- From a row's condition to the walk: a slice of numbers, a slice of bytes that came in. -/
namespace Go.Proofs.Ytmndjdaiailgmaa
set_option linter.unusedVariables false
open Go.Joins Go.ChangeShapes Go.WideShapes Go.ChangeAt Go.RowKit Go.Deep

theorem first_plain {W : World} {a : Addr} {v : Value} (h : W.cell? (a.add 0) = some v) : a.spot = none ∧ a.block < W.heap.size :=
  ⟨by simpa [Addr.add] using World.cell?_spot h, by simpa [Addr.add] using World.block_lt_of_cell? W _ h⟩

set_option maxRecDepth 100000 in
theorem open_nums {H : Type} {enc : TypeId × Value → H} {W : World} {base : Nat} {spare : Nat → Bool} {held : Bool} {b0 : Nat} {v : Value} {d : DataW H} {p : List MemPlace} (hv : Value.okWide Try.prog W .any b0 81 v) (h : DataW.Trod enc Try.prog W base spare held 81 v d p) :
    ∃ l : List Int, SlN W v l ∧ l.length ≤ 9223372036854775807 := by
  obtain ⟨a0, n0, c0, rfl⟩ := okWide_slice Try.underlying81 hv
  obtain ⟨fuel, hf⟩ := h
  rcases open_ints Try.underlying81 Try.underlying3 (by kernel_rfl) hf with ⟨h0, _⟩ | ⟨a, len, cap, zs, hcs, _, hl, hm, hzl, _, hc, _⟩
  · simp [Value.cells] at h0
    obtain ⟨rfl, rfl, rfl⟩ := h0
    exact ⟨[], ⟨0, 0, 0, none, rfl, fun h => absurd h (by simp), fun j x hx => by simp at hx, fun h => absurd h (by simp)⟩, by simp⟩
  · simp [Value.cells] at hcs
    obtain ⟨rfl, rfl, rfl⟩ := hcs
    have hle : n0 ≤ zs.length := by rw [hzl]; split <;> omega
    have hlen : (zs.take n0).length = n0 := by rw [List.length_take]; omega
    have hfirst : 0 < n0 → a.spot = none ∧ a.block < W.heap.size := fun h0 => first_plain (hc 0 (by omega))
    obtain ⟨b, o, spot⟩ := a
    refine ⟨zs.take n0, ⟨b, o, c0, some ⟨b, o, spot⟩, by rw [hlen], fun h0 => ?_, fun j x hx => ?_, fun h0 => (hfirst (by omega)).2⟩, ?_⟩
    · rw [show spot = none from (hfirst (by omega)).1]
    · have hj := (List.getElem?_eq_some_iff.1 hx).1
      have := hc j (by omega)
      rw [show spot = none from (hfirst (by omega)).1, add_plain] at this
      rw [this]
      rw [List.getElem?_take, if_pos (by omega)] at hx
      simp [List.getD, hx]
    · rw [hlen]; exact Nat.le_trans hl (Nat.le_trans hm (by decide))

set_option maxRecDepth 100000 in
theorem open_octs {H : Type} {enc : TypeId × Value → H} {W : World} {base : Nat} {spare : Nat → Bool} {held : Bool} {b0 : Nat} {v : Value} {d : DataW H} {p : List MemPlace} (hv : Value.okWide Try.prog W .any b0 42 v) (h : DataW.Trod enc Try.prog W base spare held 42 v d p) :
    ∃ l : List UInt8, SlB W v l ∧ l.length ≤ 9223372036854775807 := by
  obtain ⟨a0, n0, c0, rfl⟩ := okWide_slice Try.underlying42 hv
  obtain ⟨fuel, hf⟩ := h
  rcases open_ints Try.underlying42 Try.underlying5 (by kernel_rfl) hf with ⟨h0, _⟩ | ⟨a, len, cap, zs, hcs, _, hl, hm, hzl, _, hc, hwf⟩
  · simp [Value.cells] at h0
    obtain ⟨rfl, rfl, rfl⟩ := h0
    exact ⟨[], SlB.nil W, by simp⟩
  · simp [Value.cells] at hcs
    obtain ⟨rfl, rfl, rfl⟩ := hcs
    have hle : n0 ≤ zs.length := by rw [hzl]; split <;> omega
    have hlen : ((zs.take n0).map fun x => UInt8.ofNat x.toNat).length = n0 := by rw [List.length_map, List.length_take]; omega
    have hfirst : 0 < n0 → a.spot = none ∧ a.block < W.heap.size := fun h0 => first_plain (hc 0 (by omega))
    obtain ⟨b, o, spot⟩ := a
    refine ⟨(zs.take n0).map fun x => UInt8.ofNat x.toNat, ⟨b, o, c0, some ⟨b, o, spot⟩, by rw [hlen], (fun e => by cases e), by rw [hlen]; exact hl, fun h0 => ?_, fun j x hx => ?_, fun h0 => (hfirst (by omega)).2⟩, ?_⟩
    · rw [show spot = none from (hfirst (by omega)).1]
    · have hj := (List.getElem?_eq_some_iff.1 hx).1
      have := hc j (by omega)
      rw [show spot = none from (hfirst (by omega)).1, add_plain] at this
      rw [this]
      rw [List.getElem?_map, List.getElem?_take, if_pos (by omega)] at hx
      have hz : zs[j]? = some (zs[j]'(by omega)) := List.getElem?_eq_getElem (by omega)
      rw [hz] at hx
      have hw := hwf _ (List.mem_of_getElem? hz)
      simp only [Option.map_some, Option.some.injEq] at hx
      subst hx
      have hr : 0 ≤ zs[j]'(by omega) ∧ zs[j]'(by omega) ≤ 255 := by
        simp only [Lit.wf, Bool.and_eq_true, decide_eq_true_eq] at hw
        exact ⟨hw.1, hw.2⟩
      rw [toNat_small (by omega)]
      simp only [List.getD, hz, Option.getD_some]
      congr 2
      omega
    · rw [hlen]; exact Nat.le_trans hl (Nat.le_trans hm (by decide))
end Go.Proofs.Ytmndjdaiailgmaa
/- From a row's condition to the walk: a value that came in. -/
namespace Go.Proofs.Ytmndjdaiailgmaa
set_option linter.unusedVariables false
open Go.Joins Go.ChangeShapes Go.WideShapes Go.ChangeAt Go.RowKit Go.Deep

set_option maxRecDepth 100000 in
/-- The commands in one cell of a value that came in. -/
theorem open_cmds_in {H : Type} {enc : TypeId × Value → H} {W : World} {base : Nat} {spare : Nat → Bool} {held : Bool} {fuel : Nat} {v : Value} {x : DataW H × List MemPlace} (hf : DataW.trod enc Try.prog W base spare held fuel 26 [v] = some x) :
    ∃ cs : List C7, Sl W v cs ∧ cs.length ≤ 9223372036854775807 := by
  rcases open_fields Try.underlying26 Try.underlying25 (by kernel_rfl) (by kernel_rfl) hf with h0 | ⟨a, len, cap, hcs, hm, hi⟩
  · obtain rfl := (List.cons.inj h0).1
    exact ⟨[], ⟨0, 0, 0, none, rfl, fun _ => rfl, fun h => absurd h (by simp), fun j c hc => by simp at hc, fun h => absurd h (by simp)⟩, by simp⟩
  · obtain rfl := (List.cons.inj hcs).1
    obtain ⟨cs, hl, hp⟩ := list_of (n := len) (P := fun i c => ∀ (f : Nat) u, c.cells[f]? = some u → W.cell? (a.add (i * 7 + f)) = some u) fun i hlt => by
      obtain ⟨n, hf⟩ := hi i hlt
      obtain ⟨v0, y0, g0, t0⟩ := hf 0 _ rfl
      obtain ⟨v1, y1, g1, t1⟩ := hf 1 _ rfl
      obtain ⟨v2, y2, g2, t2⟩ := hf 2 _ rfl
      obtain ⟨v3, y3, g3, t3⟩ := hf 3 _ rfl
      obtain ⟨v4, y4, g4, t4⟩ := hf 4 _ rfl
      obtain ⟨v5, y5, g5, t5⟩ := hf 5 _ rfl
      obtain ⟨v6, y6, g6, t6⟩ := hf 6 _ rfl
      obtain ⟨z0, e0, _, _⟩ := DataW.trod_int Try.underlying3 t0
      obtain ⟨z1, e1, _, _⟩ := DataW.trod_int Try.underlying22 t1
      obtain ⟨z2, e2, _, _⟩ := DataW.trod_int Try.underlying3 t2
      obtain ⟨z3, e3, _, _⟩ := DataW.trod_int Try.underlying3 t3
      obtain ⟨z4, e4, _, _⟩ := DataW.trod_int Try.underlying23 t4
      obtain ⟨z5, e5, _, _⟩ := DataW.trod_int Try.underlying3 t5
      obtain ⟨z6, e6, _, _⟩ := DataW.trod_int Try.underlying3 t6
      simp only [List.cons.injEq, and_true] at e0 e1 e2 e3 e4 e5 e6
      subst e0 e1 e2 e3 e4 e5 e6
      refine ⟨⟨z0, z1, z2, z3, z4, z5, z6⟩, fun f u hu => ?_⟩
      match f, hu with
      | 0, hu => obtain rfl := Option.some.inj hu; exact g0
      | 1, hu => obtain rfl := Option.some.inj hu; exact g1
      | 2, hu => obtain rfl := Option.some.inj hu; exact g2
      | 3, hu => obtain rfl := Option.some.inj hu; exact g3
      | 4, hu => obtain rfl := Option.some.inj hu; exact g4
      | 5, hu => obtain rfl := Option.some.inj hu; exact g5
      | 6, hu => obtain rfl := Option.some.inj hu; exact g6
      | _ + 7, hu => cases hu
    have hfirst : 0 < cs.length → a.spot = none ∧ a.block < W.heap.size := fun h0 => by
      have hc : cs[0]? = some cs[0] := List.getElem?_eq_getElem h0
      have := hp 0 _ hc 0 _ rfl
      exact ⟨by simpa [Addr.add] using World.cell?_spot this, by simpa [Addr.add] using World.block_lt_of_cell? W _ this⟩
    obtain ⟨b, o, spot⟩ := a
    refine ⟨cs, ⟨b, o, cap, some ⟨b, o, spot⟩, by rw [hl], (fun e => by cases e), fun h0 => ?_, fun j c hc f u hu => ?_, fun h0 => (hfirst h0).2⟩, ?_⟩
    · rw [show spot = none from (hfirst h0).1]
    · have h0 : 0 < cs.length := by have := (List.getElem?_eq_some_iff.1 hc).1; omega
      have := hp j c hc f u hu
      rw [show spot = none from (hfirst h0).1] at this
      rw [add_plain] at this
      exact this
    · rw [hl]; exact Nat.le_trans hm (by decide)


/-- A struct of two one-cell fields by value. -/
theorem open_agg2 {H : Type} {enc : TypeId × Value → H} {P : Program} {w : World} {base : Nat} {spare : Nat → Bool} {held : Bool} {r : Reach} {b0 : Nat} {t : TypeId} {f0 f1 : Field} {v : Value} {d : DataW H} {p : List MemPlace}
    (hs : P.underlying t = some (.struct #[f0, f1])) (hone : oneCellFields P #[f0, f1] = true) (hC : P.cellsOf t = 2)
    (hv : Value.okWide P w r b0 t v) (h : DataW.Trod enc P w base spare held t v d p) :
    ∃ (v0 v1 : Value) (y0 y1 : DataW H × List MemPlace) (n : Nat), v = .agg #[v0, v1] ∧ DataW.trod enc P w base spare held n f0.type [v0] = some y0 ∧ DataW.trod enc P w base spare held n f1.type [v1] = some y1 := by
  obtain ⟨cs, rfl, hsz⟩ := okWide_struct hs hv
  obtain ⟨l⟩ := cs
  match l, hsz.trans hC with
  | [c0, c1], _ =>
    obtain ⟨fuel, hf⟩ := h
    obtain ⟨xs, n, _, hx, _, hlen, hg⟩ := DataW.trod_struct hs hf
    obtain ⟨o0, k0⟩ := hone_of hone 0 f0 rfl
    obtain ⟨o1, k1⟩ := hone_of hone 1 f1 rfl
    match xs, hlen with
    | [y0, y1], _ =>
      exact ⟨c0, c1, y0, y1, n, rfl, by simpa [Value.cells, o0, k0] using hg 0 f0 rfl, by simpa [Value.cells, o1, k1] using hg 1 f1 rfl⟩

set_option maxRecDepth 100000 in
/-- A value that came in: a number, and commands. -/
theorem open_value {H : Type} {enc : TypeId × Value → H} {W : World} {base : Nat} {spare : Nat → Bool} {held : Bool} {b0 : Nat} {v : Value} {d : DataW H} {p : List MemPlace} (hv : Value.okWide Try.prog W .any b0 28 v) (h : DataW.Trod enc Try.prog W base spare held 28 v d p) :
    ∃ (t : Int) (vp : Value) (cs : List C7), v = .agg #[.int .i64 t, vp] ∧ Sl W vp cs ∧ cs.length ≤ 9223372036854775807 := by
  obtain ⟨v0, v1, y0, y1, n, rfl, h0, h1⟩ := open_agg2 Try.underlying28 (by kernel_rfl) (by kernel_rfl) hv h
  obtain ⟨z0, e0, _, _⟩ := DataW.trod_int Try.underlying3 h0
  simp only [List.cons.injEq, and_true] at e0
  subst e0
  obtain ⟨cs, hs, hl⟩ := open_cmds_in h1
  exact ⟨z0, v1, cs, rfl, hs, hl⟩
end Go.Proofs.Ytmndjdaiailgmaa
namespace Go.Proofs.Ytmndjdaiailgmaa
set_option linter.unusedVariables false
open Go.Joins Go.ChangeShapes Go.WideShapes Go.ChangeAt Go.RowKit Go.Deep

theorem cellsC : Try.prog.cellsOf 25 = 7 := by kernel_rfl
theorem cellsV : Try.prog.cellsOf 28 = 2 := by kernel_rfl
theorem cellsI : Try.prog.cellsOf 3 = 1 := by kernel_rfl
theorem cellsK : Try.prog.cellsOf 22 = 1 := by kernel_rfl
theorem cellsD : Try.prog.cellsOf 23 = 1 := by kernel_rfl
theorem cellsB : Try.prog.cellsOf 4 = 1 := by kernel_rfl
theorem cellsU : Try.prog.cellsOf 5 = 1 := by kernel_rfl
theorem cellsS : Try.prog.cellsOf 26 = 1 := by kernel_rfl
theorem cellsE : Try.prog.cellsOf 30 = 19 := by kernel_rfl
theorem cellsA : Try.prog.cellsOf 35 = 4 := by kernel_rfl
section
variable {H : Type} {enc : TypeId × Value → H} {W : World} {base : Nat} {spare : Nat → Bool} {held : Bool} {fuel : Nat}
theorem struct_in {P : Program} {t : TypeId} {fs : Array Field} {cs : List Value} {x : DataW H × List MemPlace} (ht : P.underlying t = some (.struct fs)) (h : DataW.trod enc P W base spare held fuel t cs = some x) :
    cs.length = P.cellsOf t ∧ ∃ n, ∀ (i : Nat) (f : Field), fs[i]? = some f → ∃ y, DataW.trod enc P W base spare held n f.type ((cs.drop f.offset).take (P.cellsOf f.type)) = some y := by
  obtain ⟨xs, n, _, _, hl, hx, hf⟩ := DataW.trod_struct ht h
  refine ⟨hl, n, fun i f hi => ?_⟩
  have hlt : i < fs.size := (Array.getElem?_eq_some_iff.1 hi).1
  exact ⟨xs[i]'(by omega), (hf i f hi).trans (List.getElem?_eq_getElem (by omega))⟩
theorem int_in {t : TypeId} {c : Value} {x : DataW H × List MemPlace} (ht : Try.prog.underlying t = some (.int .i64)) (h : DataW.trod enc Try.prog W base spare held fuel t [c] = some x) : ∃ z, c = .int .i64 z := by
  obtain ⟨z, e, _, _⟩ := DataW.trod_int ht h
  exact ⟨z, (List.cons.inj e).1⟩
set_option maxRecDepth 100000 in
theorem cmd_in {cs : List Value} {x : DataW H × List MemPlace} (h : DataW.trod enc Try.prog W base spare held fuel 25 cs = some x) : ∃ c : C7, cs = c.cells := by
  obtain ⟨hl, n, hf⟩ := struct_in Try.underlying25 h
  rw [cellsC] at hl
  match cs, hl with
  | [c0, c1, c2, c3, c4, c5, c6], _ =>
    obtain ⟨y0, h0⟩ := hf 0 _ rfl
    obtain ⟨y1, h1⟩ := hf 1 _ rfl
    obtain ⟨y2, h2⟩ := hf 2 _ rfl
    obtain ⟨y3, h3⟩ := hf 3 _ rfl
    obtain ⟨y4, h4⟩ := hf 4 _ rfl
    obtain ⟨y5, h5⟩ := hf 5 _ rfl
    obtain ⟨y6, h6⟩ := hf 6 _ rfl
    simp only [List.getElem_toArray, List.getElem_cons_succ, List.getElem_cons_zero, cellsI, cellsK, cellsD, List.drop_succ_cons, List.drop_zero, List.take_succ_cons, List.take_zero] at h0 h1 h2 h3 h4 h5 h6
    obtain ⟨z0, rfl⟩ := int_in Try.underlying3 h0
    obtain ⟨z1, rfl⟩ := int_in Try.underlying22 h1
    obtain ⟨z2, rfl⟩ := int_in Try.underlying3 h2
    obtain ⟨z3, rfl⟩ := int_in Try.underlying3 h3
    obtain ⟨z4, rfl⟩ := int_in Try.underlying23 h4
    obtain ⟨z5, rfl⟩ := int_in Try.underlying3 h5
    obtain ⟨z6, rfl⟩ := int_in Try.underlying3 h6
    exact ⟨⟨z0, z1, z2, z3, z4, z5, z6⟩, rfl⟩
theorem sv_of {v : Value} {l : List C7} (h : Sl W v l) : ∃ p : Sv, v = p.v ∧ Sl W p.v l := by
  obtain ⟨_, _, cap, a, rfl, _⟩ := id h
  exact ⟨⟨a, l.length, cap⟩, rfl, h⟩
set_option maxRecDepth 100000 in
theorem value_in {cs : List Value} {x : DataW H × List MemPlace} (h : DataW.trod enc Try.prog W base spare held fuel 28 cs = some x) : ∃ (t : Int) (p : Sv) (l : List C7), cs = [.int .i64 t, p.v] ∧ Sl W p.v l := by
  obtain ⟨hl, n, hf⟩ := struct_in Try.underlying28 h
  rw [cellsV] at hl
  match cs, hl with
  | [c0, c1], _ =>
    obtain ⟨y0, h0⟩ := hf 0 _ rfl
    obtain ⟨y1, h1⟩ := hf 1 _ rfl
    simp only [List.getElem_toArray, List.getElem_cons_succ, List.getElem_cons_zero, cellsI, cellsS, List.drop_succ_cons, List.drop_zero, List.take_succ_cons, List.take_zero] at h0 h1
    obtain ⟨z0, rfl⟩ := int_in Try.underlying3 h0
    obtain ⟨l, hs, _⟩ := open_cmds_in h1
    obtain ⟨p, rfl, hp⟩ := sv_of hs
    exact ⟨z0, p, l, rfl, hp⟩
end
set_option maxRecDepth 100000 in
/-- An entry that came in. -/
theorem open_entry {H : Type} {enc : TypeId × Value → H} {W : World} {base : Nat} {spare : Nat → Bool} {held : Bool} {b0 : Nat} {v : Value} {d : DataW H} {p : List MemPlace} (hv : Value.okWide Try.prog W .any b0 30 v) (h : DataW.Trod enc Try.prog W base spare held 30 v d p) :
    ∃ (e : Ev) (f a u : List C7), v = .agg e.arr ∧ Sl W e.fp.v f ∧ Sl W e.xp.v a ∧ Sl W e.vp.v u := by
  obtain ⟨cs, rfl, hsz⟩ := okWide_struct Try.underlying30 hv
  obtain ⟨fuel, hf0⟩ := h
  obtain ⟨l⟩ := cs
  have hsz2 : l.length = 19 := hsz.trans cellsE
  obtain ⟨_, n, hf⟩ := struct_in Try.underlying30 hf0
  match l, hsz2 with
  | [c0, c1, c2, c3, c4, c5, c6, c7, c8, c9, c10, c11, c12, c13, c14, c15, c16, c17, c18], _ =>
    obtain ⟨y0, h0⟩ := hf 0 _ rfl
    obtain ⟨y1, h1⟩ := hf 1 _ rfl
    obtain ⟨y2, h2⟩ := hf 2 _ rfl
    obtain ⟨y3, h3⟩ := hf 3 _ rfl
    obtain ⟨y4, h4⟩ := hf 4 _ rfl
    obtain ⟨y5, h5⟩ := hf 5 _ rfl
    obtain ⟨y6, h6⟩ := hf 6 _ rfl
    obtain ⟨y7, h7⟩ := hf 7 _ rfl
    obtain ⟨y8, h8⟩ := hf 8 _ rfl
    obtain ⟨y9, h9⟩ := hf 9 _ rfl
    simp only [List.getElem_toArray, List.getElem_cons_succ, List.getElem_cons_zero, Value.cells, cellsI, cellsC, cellsV, cellsB, List.drop_succ_cons, List.drop_zero, List.take_succ_cons, List.take_zero] at h0 h1 h2 h3 h4 h5 h6 h7 h8 h9
    obtain ⟨c, hc⟩ := cmd_in h0
    obtain ⟨z1, rfl⟩ := int_in Try.underlying3 h1
    obtain ⟨z2, rfl⟩ := int_in Try.underlying3 h2
    obtain ⟨z3, rfl⟩ := int_in Try.underlying3 h3
    obtain ⟨t4, p4, l4, e4, s4⟩ := value_in h4
    obtain ⟨z5, rfl⟩ := int_in Try.underlying3 h5
    obtain ⟨t6, p6, l6, e6, s6⟩ := value_in h6
    obtain ⟨b7, e7, _⟩ := DataW.trod_bool Try.underlying4 h7
    obtain ⟨b8, e8, _⟩ := DataW.trod_bool Try.underlying4 h8
    obtain ⟨t9, p9, l9, e9, s9⟩ := value_in h9
    simp only [C7.cells, List.cons.injEq, and_true] at hc e4 e6 e7 e8 e9
    obtain ⟨rfl, rfl, rfl, rfl, rfl, rfl, rfl⟩ := hc
    obtain ⟨rfl, rfl⟩ := e4
    obtain ⟨rfl, rfl⟩ := e6
    subst e7 e8
    obtain ⟨rfl, rfl⟩ := e9
    exact ⟨⟨c, z1, z2, z3, t4, p4, z5, t6, p6, b7, b8, t9, p9⟩, l4, l6, l9, rfl, s4, s6, s9⟩

theorem Sl.len {w : World} {p : Sv} {l : List C7} (h : Sl w p.v l) : p.n = l.length := by
  obtain ⟨_, _, cap, a, hv', _⟩ := id h
  injection hv' with h1 h2 h3
theorem eb_all {e : Ev} {f a v : List C7} {vb : Value} {bs : List UInt8} {w : World} (hf : Sl w e.fp.v f) (ha : Sl w e.xp.v a) (hv : Sl w e.vp.v v) (hb : SlB w vb bs) :
    Calls Try.prog 4 #[.agg e.arr, vb] w fun x w' => x = .returned (.bool true) ∧ Below w.heap.size w w' := by
  obtain ⟨_, _, cap, ad, rfl, _⟩ := id hb
  rcases h : fitsE e with _ | _
  · exact eb_fits hf ha hv hb h
  by_cases hl : 3000 < bs.length
  · exact eb_long hf ha hv hb h hl
  have hfit : e.fp.n ≤ 80 ∧ e.xp.n ≤ 80 ∧ e.vp.n ≤ 80 := by
    unfold fitsE at h
    simp only [Bool.and_eq_true, decide_eq_true_eq, and_assoc] at h
    exact h
  have lf : f.length ≤ 80 := by rw [← hf.len]; exact hfit.1
  have la : a.length ≤ 80 := by rw [← ha.len]; exact hfit.2.1
  have lv : v.length ≤ 80 := by rw [← hv.len]; exact hfit.2.2
  rcases hr : rightE e f a v with _ | _
  · rcases hg : (takeE (bs, 0)).good with _ | _
    · exact eb_not_bad hf ha hv hb h (by omega) lf la lv hr hg
    · exact eb_not_good hf ha hv hb h (by omega) lf la lv hr hg
  · rcases hg : (takeE (bs, 0)).good with _ | _
    · exact eb_yes_bad hf ha hv hb h (by omega) lf la lv hr hg
    · exact eb_yes_good hf ha hv hb h (by omega) lf la lv hr hg

set_option maxRecDepth 100000 in
theorem lifted (os : Os) (started : os.Started) (H : Type) (enc : TypeId × Value → H) :
    ReturnsInHanded {} Try.checked os 4 .any (Rows.entryBytesSpec.pre6 enc Try.prog Try.f4 Rows.entryBytesRow.domain false) (Rows.entryBytesSpec.post enc Try.prog Try.f4 false true false false) := by
  refine returnsInHanded_of_change (C := Try.checked) own started (by kernel_rfl) Try.func4
    (ChangeSpec.witness6 (enc := enc) (C := Try.checked) false ⟨#[], #[.agg #[.int .i64 0, .int .i64 0, .int .i64 0, .int .i64 0, .int .i64 0, .int .i64 0, .int .i64 0, .int .i64 0, .int .i64 0, .int .i64 0, .int .i64 0, .slice none 0 0, .int .i64 0, .int .i64 0, .slice none 0 0, .bool false, .bool false, .int .i64 0, .slice none 0 0], .slice none 0 0], []⟩ 12 (by kernel_rfl) (by kernel_rfl) (by kernel_rfl) (by kernel_rfl)) ?_
  intro W base args ds gs before hval0 hW hcnd _
  have hval : ∀ (j : Nat) t v, Try.f4.params[j]? = some t → args[j]? = some v → Value.okWide Try.prog W .any base t v := hval0
  have hW' := hW
  obtain ⟨p, q, hA0, hV, rfl, hfz, hnd⟩ := hW
  have hA : DataW.TrodAll enc Try.prog W 0 (fun _ => true) true Try.f4.params.toList args.toList ds p := hA0
  rw [Try.params4] at hA hval
  obtain ⟨v0, v1, d0, d1, p0, p1, rfl, rfl, rfl, h0, h1⟩ := trodAll_two hA
  obtain ⟨rfl, rfl⟩ := trodVars_none hV
  obtain ⟨e, f, a, u, rfl, hf, ha, hu⟩ := open_entry (hval 0 30 v0 rfl rfl) h0
  obtain ⟨bs, hb, _⟩ := open_octs (hval 1 42 v1 rfl rfl) h1
  refine (eb_all hf ha hu hb).mono fun e W' ⟨he, hB⟩ => ?_
  subst he
  have hlt0 : ∀ x ∈ p0, x.block < W.heap.size := fun x hx => hW'.lt x (by simp [hx])
  have hlt1 : ∀ x ∈ p1, x.block < W.heap.size := fun x hx => hW'.lt x (by simp [hx])
  exact ⟨_, rfl, _, _, _, [], p0 ++ (p1 ++ []), [], hW', trodAll_mk1 (shut_bool Try.underlying4 _), trodAll_cons_mk (Below.trod laidOut (by kernel_rfl) (of_decide_eq_true (by kernel_rfl)) h0 hB hlt0) (trodAll_cons_mk (Below.trod laidOut (by kernel_rfl) (of_decide_eq_true (by kernel_rfl)) h1 hB hlt1) trodAll_mk0), rfl, hB.frame _, fun h => by cases h⟩

theorem over : Rows.entryBytesRow.holds Try.pinned (OpenSpec.ofChange Rows.entryBytesSpec) :=
  OpenClaim.holds_of_wide 4 Try.f4 rfl rfl rfl rfl rfl rfl rfl ⟨rfl, rfl, rfl, rfl, rfl⟩ rfl rfl rfl rfl rfl (by kernel_rfl) Try.func4 (by kernel_rfl)
    (of_decide_eq_true (by kernel_rfl)) (by unfold Func.isWrapper; first | (rw [if_pos (by decide +kernel)]; kernel_rfl) | (rw [if_neg (by decide +kernel)]; exact ⟨rfl, rfl⟩))
    (fun os started H enc _ => lifted os started H enc)

/-- The statement. -/
theorem proved : Rows.EntryBytesSaid :=
  over
end Go.Proofs.Ytmndjdaiailgmaa

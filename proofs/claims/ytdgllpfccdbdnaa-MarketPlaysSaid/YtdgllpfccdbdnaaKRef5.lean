/- The document's book: Orders. -/
import Derived.Test.YtdgllpfccdbdnaaKRef3
import Derived.Test.YtdgllpfccdbdnaaKStep
namespace Go.Proofs.Ytdgllpfccdbdnaa
set_option linter.unusedVariables false
set_option linter.unusedSimpArgs false
open Go.RowKit
open Go.Lib (hid)

/-- The first of a side goes: the others stay, in their order. -/
theorem side_less {s : Int} {L : List Od} {k : Nat} {x : Od} {xs : List Od} (hu : UniqI L) (hx : sideF s L = x :: xs) (hk : L[k]? = some x) : sideF s (less L k) = xs ∧ UniqI (less L k) ∧ (less L k).length + 1 = L.length := by
  rw [less_rm hu hk]
  have hun := uniq_side (s := s) L hu
  rw [hx] at hun
  have hnx := (List.pairwise_cons.1 hun).1
  refine ⟨?_, uniq_filter hu _, ?_⟩
  · rw [side_filter, hx]
    have : xs.filter (fun z => !isI x.i z) = xs := rm_none fun y hy e => hnx y hy e.symm
    simp only [List.filter_cons]
    rw [show (!isI x.i x) = false by simp [isI]]
    simpa using this
  · rw [← less_rm hu hk]
    have := less_len (List.getElem?_eq_some_iff.1 hk).1
    omega
/-- The way through a side's orders: what came out, what is left. -/
structure Og (w wr : World) (s : Int) (N : Nat) (vc : Value) (out : Value) (os : List Od) (M : List Od) (all : List Od) (z : Int) : Prop where
  be : Below w.heap.size w wr
  hN : w.heap.size ≤ N
  rb : RB wr N vc
  row : OwnR wr w.heap.size vc M
  ro : OwnR wr w.heap.size out os
  ap : Apt vc out
  un : UniqI M
  al : os ++ sideF s M = all
  fst : FstR s M M.length z
  lo : os.length + M.length ≤ 8
theorem RB.set {w : World} {b : Nat} {v : Value} (h : RB w b v) (r : Value) : RB (w.setCell ⟨b, 0, none⟩ r) b r := by
  unfold RB at h ⊢
  simp [World.setCell, Array.getElem?_modify, h]
theorem FstR.at {s : Int} {L : List Od} {z : Int} (h : FstR s L L.length z) : (sideF s L = [] ∧ z = -1) ∨ ∃ (j : Nat) (x : Od) (xs : List Od), z = j ∧ j < L.length ∧ sideF s L = x :: xs ∧ L[j]? = some x := by
  unfold FstR at h
  rw [List.take_length] at h
  exact h

/-- One came out: it stands at the end. -/
structure Og2 (w wr : World) (N : Nat) (vc : Value) (out : Value) (os : List Od) (M : List Od) : Prop where
  be : Below w.heap.size w wr
  hN : w.heap.size ≤ N
  rb : RB wr N vc
  row : OwnR wr w.heap.size vc M
  ro : OwnR wr w.heap.size out os
  ap : Apt vc out
theorem Og.app {w wr w4 : World} {s z : Int} {N : Nat} {vc out v4 : Value} {os M all : List Od} {x : Od} {o : Obj} (h : Og w wr s N vc out os M all z) (hr : OwnR w4 w.heap.size v4 (os ++ [x])) (hg : (wr.alloc o).grownBy w4 out.ownBlock) (hf : Fr (wr.alloc o).heap.size out v4) : Og2 w w4 N vc v4 (os ++ [x]) M := by
  have hal : Below wr.heap.size wr (wr.alloc o) := (Below.refl _ wr).alloc (Nat.le_refl _) _
  have ht : Tch (fun k => out.ownBlock = some k) (wr.alloc o) w4 := Tch.ofGrown hg fun k hk => hk
  have hrb := h.rb.on hal
  have hout := OwnG.on h.ro hal
  have hrow := OwnG.on h.row hal
  have hne := own_offT hout hrb (by decide)
  exact ⟨(h.be.trans (hal.mono h.be.size)).grown hg (Nat.le_trans h.be.size hal.size) (fun k hk => (hout.lt k hk).1), h.hN, ht.ob hrb hne, OwnG.tch hrow ht fun k hk e => h.ap k hk e, hr, Apt.next h.ap (fun k hk => (OwnG.lt hrow k hk).2) hf⟩
theorem Og2.put {w w4 w5 : World} {N j : Nat} {vc out r3 : Value} {os M : List Od} (h : Og2 w w4 N vc out os M) (hr : OwnR w5 w4.heap.size r3 (less M j)) (hb : Below w4.heap.size w4 w5) : Og2 w (w5.setCell ⟨N, 0, none⟩ r3) N r3 out os (less M j) := by
  have hrb := h.rb.on hb
  have hout := OwnG.on h.ro hb
  have ht : Tch (fun k => k = N) w5 (w5.setCell ⟨N, 0, none⟩ r3) := Tch.set _ _ _ rfl
  refine ⟨(h.be.trans (hb.mono h.be.size)).setCell h.hN _, h.hN, RB.set hrb r3, OwnG.mono (OwnG.tch hr ht fun k hk e => own_offT hr hrb (by decide) (by rw [hk, e])) h.be.size, OwnG.tch hout ht fun k hk e => own_offT hout hrb (by decide) (by rw [hk, e]), fun k hk e => ?_⟩
  have h1 := (OwnG.lt hr k hk).1
  have h2 := (OwnG.lt h.ro k e).2
  omega
theorem Og2.next {w w6 w7 : World} {N : Nat} {vc out : Value} {os M all : List Od} {s z : Int} (h : Og2 w w6 N vc out os M) (hb : Below w6.heap.size w6 w7) (hu : UniqI M) (ha : os ++ sideF s M = all) (hf : FstR s M M.length z) (hl : os.length + M.length ≤ 8) : Og w w7 s N vc out os M all z :=
  ⟨h.be.trans (hb.mono h.be.size), h.hN, h.rb.on hb, OwnG.on h.row hb, OwnG.on h.ro hb, h.ap, hu, ha, hf, hl⟩

set_option maxHeartbeats 12800000 in
set_option maxRecDepth 100000 in
theorem rOrders {w : World} {b o : Nat} {B : Nat} {v : Value} {L : List Od} (hc : w.cell? ⟨b, o, none⟩ = some v) (hb : b < w.heap.size) (h : OwnR w B v L) (hl : L.length ≤ 8) (hu : UniqI L) (s : Int) (hs : s = 0 ∨ s = 1) :
    Calls Try.prog 28 #[.pointer (some ⟨b, o, none⟩), .int .i64 s] w fun e w' => ∃ r, e = .returned r ∧ OwnR w' w.heap.size r (sideF s L) ∧ Below w.heap.size w w' := by
  have HW := hid h
  have HL : Hid (L.length ≤ 1000) := hid (by omega)
  have HU := hid hu
  obtain ⟨a, n, c, rfl, hn, hx⟩ := OwnR.at h
  have hn1 : n ≤ 1000 := by omega
  have HLL := hid hl
  obtain ⟨all, hall⟩ : ∃ all, all = sideF s L := ⟨_, rfl⟩
  rw [← hall]
  have HALL := hid hall
  clear h hx hu hl hn hall
  go_enter Try.func28, Try.ntmps28
  go_wp2_with (at_builtin; refine wpList_copy_or rfl _ _ rfl (w0 := w) rfl rfl rfl rfl HW.out HL.out ?_; (
    intro v2 w2 hR hB2
    have HR2 := hid hR
    have HB2 := hid hB2
    obtain ⟨a2, c2, n2, rfl, hn2⟩ := hR.asSlice
    clear hR hB2 hn2))
  have hq := heap_alloc_new w2 (.cells #[.slice a2 n2 c2] 29)
  have hal : Below w2.heap.size w2 (w2.alloc (.cells #[.slice a2 n2 c2] 29)) := (Below.refl _ w2).alloc (Nat.le_refl _) _
  have hF := rFirst (b := w2.heap.size) hq (OwnG.on HR2.out hal) HL.out s hs
  have hO2 : Og2 w (w2.alloc (.cells #[.slice a2 n2 c2] 29)) w2.heap.size (.slice a2 n2 c2) (.slice none 0 0) [] L := ⟨HB2.out.trans (hal.mono HB2.out.size), HB2.out.size, hq, OwnG.on HR2.out hal, World.ownsRow_nil _ _ _ _, fun k hk e => by cases e⟩
  obtain ⟨N, hN⟩ : ∃ N, N = w2.heap.size := ⟨_, rfl⟩
  rw [← hN] at hF hO2 ⊢
  have HO2 := hid hO2
  refine hF.mono ?_
  rintro e w3 ⟨z, rfl, hfst, hB3⟩
  have HOG := hid (HO2.out.next hB3 HU.out (by rw [HALL.out]; rfl : [] ++ sideF s L = all) hfst (by have := HLL.out; simpa using this))
  clear hq hal hF hO2 hN HO2 hfst hB3 HR2 HB2
  go_wp2_with fail
  go_loopg [7, 8] 8 (fun gg s7 s8 wr => ∃ (os M : List Od) (vc : Value) (oa : Option Addr) (on oc : Nat) (z : Int), M.length ≤ gg ∧ s7 = .slice oa on oc ∧ s8 = .int .i64 z ∧ Hid (Og w wr s N vc (.slice oa on oc) os M all z))
  case atStart => exact ⟨[], L, .slice a2 n2 c2, none, 0, 0, z, HLL.out, rfl, rfl, HOG⟩
  case round =>
    obtain ⟨os, M, vc, oa, on, oc, z', hgg, rfl, rfl, HG⟩ := hrel
    clear HOG
    rcases HG.out.fst.at with ⟨hnil, rfl⟩ | ⟨j, x, xs, rfl, hj, hsx, hx⟩
    · have HE : Hid (os = all) := hid (by have := HG.out.al; rw [hnil, List.append_nil] at this; exact this)
      clear hnil
      go_wp2_with fail
      go_ret
      exact ⟨_, rfl, by rw [← HE.out]; exact HG.out.ro, HG.out.be⟩
    · obtain ⟨hltN, c0, fN⟩ := HG.out.rb.cells
      obtain ⟨ca, cn, cc, rfl, hcn, hcx⟩ := OwnR.at HG.out.row
      obtain ⟨g, rfl, hg, k0, k1, k2, k3⟩ := hcx j x hx
      have hjn : (j : Int) < (cn : Int) := by omega
      have hj0 : (0 : Int) ≤ (j : Int) := by omega
      have hcn8 : cn ≤ 8 := by have := HG.out.lo; omega
      have HS := hid (sl_one_or wr x)
      have HX := hid hx
      have HSL := hid (side_less HG.out.un hsx hx)
      have HAL := hid (show (os ++ [x]) ++ xs = all by have := HG.out.al; rw [hsx] at this; rw [← this, List.append_assoc]; rfl)
      clear hcx hx hsx hcn hj
      go_wp2_with (first
        | (at_builtin; refine wpList_append_or1 rfl _ _ rfl w.heap.size _ os rfl (OwnG.on HG.out.ro ((Below.refl _ wr).alloc (Nat.le_refl _) _)) _ 1 1 x rfl HS.out (by have := HG.out.lo; omega) (by have := HG.out.be.size; simp; omega) ?_; (
            intro v4 w4 hR4 hg4 hf4
            have HO4 := hid (HG.out.app hR4 hg4 hf4)
            obtain ⟨a4, c4, n4, rfl, hn4⟩ := hR4.asSlice
            obtain ⟨hltN4, d0, fN4⟩ := HO4.out.rb.cells
            clear hR4 hg4 hf4 hn4 k0 k1 k2 k3 c0 fN))
        | (go_at_call 41; (
            refine (rWithout HO4.out.row (by have := HG.out.lo; omega) j).mono ?_
            rintro e w5 ⟨r5, rfl, hO5, hB5⟩
            have HO5 := hid (HO4.out.put hO5 hB5)
            obtain ⟨a5, c5, n5, rfl, hn5⟩ := hO5.asSlice
            obtain ⟨hltN5, d5, fN5⟩ := (HO4.out.rb.on hB5).cells
            clear hO5 hB5 hn5 d0 fN4))
        | (go_at_call 39; (
            refine (rFirst HO5.out.rb HO5.out.row (by have := HG.out.lo; have := HSL.out.2.2; omega) s hs).mono ?_
            rintro e w7 ⟨z7, rfl, hf7, hB7⟩
            have HG7 := hid (HO5.out.next hB7 HSL.out.2.1 (by rw [HSL.out.1]; exact HAL.out : (os ++ [x]) ++ sideF s (less M j) = all) hf7 (by have := HG.out.lo; have := HSL.out.2.2; simp; omega))
            clear hf7 hB7 d5 fN5)))
      go_roundg (less M j).length
      case measure => have := HSL.out.2.2; omega
      case rel => exact ⟨os ++ [x], less M j, .slice a5 n5 c5, a4, n4, c4, z7, Nat.le_refl _, rfl, rfl, HG7⟩
end Go.Proofs.Ytdgllpfccdbdnaa

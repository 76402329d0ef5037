import Derived.Test.YtbcmhnaiabifjaaG10
import Derived.Test.YtbcmhnaiabifjaaG03
import Derived.Test.YtbcmhnaiabifjaaRows
import Derived.WalkKit
import Derived.LoopTactic
import Derived.ProofKit
namespace Go.Proofs.Ytbcmhnaiabifjaa
set_option linter.unusedVariables false
open Go.RowKit
open Go.Lib (hid)
def ofE2 (cs : List C7) : Int := if ofE cs = 0 ∧ 1024 < (ofL cs).length then 4 else ofE cs
def ofL2 (cs : List C7) : List C7 := if ofE cs = 0 ∧ 1024 < (ofL cs).length then [] else ofL cs
theorem of2_bad {cs : List C7} (h : cs.all C7.ok = false) : ofE2 cs = 1 ∧ ofL2 cs = [] := by
  obtain ⟨h1, h2⟩ := of_bad h
  unfold ofE2 ofL2; simp [h1, h2]
theorem of2_clash {cs : List C7} (h : cs.all C7.ok = true) (hc : clashB cs = true) : ofE2 cs = 6 ∧ ofL2 cs = [] := by
  obtain ⟨h1, h2⟩ := of_clash h hc
  unfold ofE2 ofL2; simp [h1, h2]
theorem of2_fine {cs set : List C7} (h : ofE cs = 0 ∧ ofL cs = set) (hl : set.length ≤ 1024) : ofE2 cs = 0 ∧ ofL2 cs = set := by
  unfold ofE2 ofL2; rw [h.1, h.2]; simp; omega
theorem of2_full {cs set : List C7} (h : ofE cs = 0 ∧ ofL cs = set) (hl : ¬ set.length ≤ 1024) : ofE2 cs = 4 ∧ ofL2 cs = [] := by
  unfold ofE2 ofL2; rw [h.1, h.2]; simp; omega
set_option maxHeartbeats 1600000 in
set_option maxRecDepth 100000 in
theorem cOf2 {v : Value} {cs : List C7} {w : World} (h : Sl w v cs) (hl : cs.length ≤ 50000) : Calls Try.prog 50 #[v] w fun e w' => ∃ r, e = .returned (slE r (ofE2 cs)) ∧ Own w' w.heap.size r (ofL2 cs) ∧ Below w.heap.size w w' := by
  have hR := cRight' h (by omega)
  have hN := fun W (hB : Below w.heap.size w W) => cByNames (h.on hB) (by omega)
  clear h
  rcases hok : cs.all C7.ok with _ | _
  · rw [hok] at hR
    have HE := hid (of2_bad hok)
    clear hok hN
    go_enter Try.func50, Try.ntmps50
    go_wp2_with (go_at_call 48; refine hR.mono ?_; rintro e w' ⟨rfl, hB⟩)
    go_ret2
    refine ⟨.slice none 0 0, ?_, ?_, hB⟩
    · rw [HE.out.1]; rfl
    · rw [HE.out.2]; exact Own.nil _ _
  · rw [hok] at hR
    have HK := hid hok
    obtain ⟨i0, hi, hz0, hz1, hz2⟩ := info_parts Try.infoC
    clear hok
    go_enter Try.func50, Try.ntmps50
    go_wp2_with (go_at_call 48; refine hR.mono ?_; rintro e w0 ⟨rfl, hB0⟩)
    go_wp2_with (go_at_call 69; refine (hN _ hB0).mono ?_; rintro e w1 ⟨r, s, rfl, hs, hpm, hst, hB1⟩; obtain ⟨b, o, cap, a, rfl, ha, hc, hb⟩ := hs.open; clear hs)
    have HBB := hid (hB0.trans (hB1.mono hB0.size))
    have HP := hid (And.intro hpm hst)
    have hsl : s.length ≤ 50000 := by rw [hpm.length_eq]; exact hl
    clear hN hR hB0 hB1 hpm hst
    go_loopw [4, 14] (fun u i wr => ∃ (k : Nat) (set : List C7), k ≤ s.length ∧ i = .int .i64 k ∧ Hid (Upto s k set) ∧ Own wr w1.heap.size u set ∧ Below w1.heap.size w1 wr) (fun _ i _ => s.length - (intOf i).toNat)
    case atStart => exact ⟨0, [], Nat.zero_le _, rfl, Upto.start s, Own.nil _ _, Below.refl _ _⟩
    case round =>
      obtain ⟨k, set, hk, rfl, hat, hown, hB⟩ := hrel
      have hsz := hB.size
      have hol := hat.out.len
      have HB := hid hB
      have HO := hid hown
      by_cases hlt : k < s.length
      · obtain rfl := ha (by omega)
        obtain ⟨c, hcc⟩ : ∃ c, s[k]? = some c := ⟨s[k], List.getElem?_eq_getElem hlt⟩
        have hbw := hb (by omega)
        obtain ⟨c0, c1, c2, c3, c4, c5, c6⟩ := (hc.on hB hbw).at hcc
        have HC := hid hcc
        clear hcc hB
        by_cases h0 : 0 < set.length
        · obtain ⟨g, cap', n, rfl, hn, hgb, hgl, hcells⟩ := hown.parts h0
          obtain ⟨m, hnm, hmn⟩ : ∃ m : Nat, (n : Int) - 1 = m ∧ m < n := ⟨n - 1, by omega, by omega⟩
          obtain ⟨d, hd⟩ : ∃ d, set[m]? = some d := ⟨set[m], List.getElem?_eq_getElem (by omega)⟩
          obtain ⟨d0, d1, d2, d3, d4, d5, d6⟩ := hcells m d hd
          have hmk : n ≤ k := by omega
          have hm0 : decide ((m : Int) < 0) = false := decide_eq_false (by omega)
          have hd' : set[set.length - 1]? = some d := by rw [← hn, show n - 1 = m by omega]; exact hd
          unfold Own at hown
          rw [← hn] at hown
          have HD := hid (And.intro hd' hn)
          clear hd hd' hn hcells
          by_cases hi' : d.i = c.i
          · rcases hs' : d.same c with _ | _
            · have hE := neqC hs'
              have hG := fun op p q W => guardC op p q d c W
              simp only [C7.v, cmV, hi'] at hE hG
              have HE := hid (of2_clash HK.out ((clash_perm (mem_of_perm HP.out.1)) ▸ hat.out.no HC.out HD.out.1 hi' hs'))
              clear hs' hown
              go_wp2
              go_quiet (fail)
              go_wp2
              obtain ⟨Wq, hWq⟩ : ∃ Wq, Wq = (wr.alloc (.cells #[.int .i64 c.i, .int .i64 c.k, .int .i64 c.s, .int .i64 c.t, .int .i64 c.d, .int .i64 c.p, .int .i64 c.q] 47)).drewN nq := ⟨_, rfl⟩
              rw [← hWq]
              have hWD : Below w1.heap.size w1 Wq := by rw [hWq]; exact Below.drewN' (HB.out.alloc hsz _) _
              have hWO : Own Wq w1.heap.size (.slice (some ⟨g, 0, none⟩) n cap') set := by rw [hWq]; exact own_drewN (HO.out.alloc _) _
              have q0 : Wq.cell? ⟨g, m * 7, none⟩ = some (.int .i64 d.i) := by rw [hWq]; exact (World.cell?_alloc_past _ _ _ hgl).trans d0
              have r0 : Wq.cell? ⟨wr.heap.size, 0, none⟩ = some (.int .i64 c.i) := by rw [hWq]; exact World.cell?_alloc_new ..
              have q1 : Wq.cell? ⟨g, m * 7 + 1, none⟩ = some (.int .i64 d.k) := by rw [hWq]; exact (World.cell?_alloc_past _ _ _ hgl).trans d1
              have r1 : Wq.cell? ⟨wr.heap.size, 1, none⟩ = some (.int .i64 c.k) := by rw [hWq]; exact World.cell?_alloc_new ..
              have q2 : Wq.cell? ⟨g, m * 7 + 2, none⟩ = some (.int .i64 d.s) := by rw [hWq]; exact (World.cell?_alloc_past _ _ _ hgl).trans d2
              have r2 : Wq.cell? ⟨wr.heap.size, 2, none⟩ = some (.int .i64 c.s) := by rw [hWq]; exact World.cell?_alloc_new ..
              have q3 : Wq.cell? ⟨g, m * 7 + 3, none⟩ = some (.int .i64 d.t) := by rw [hWq]; exact (World.cell?_alloc_past _ _ _ hgl).trans d3
              have r3 : Wq.cell? ⟨wr.heap.size, 3, none⟩ = some (.int .i64 c.t) := by rw [hWq]; exact World.cell?_alloc_new ..
              have q4 : Wq.cell? ⟨g, m * 7 + 4, none⟩ = some (.int .i64 d.d) := by rw [hWq]; exact (World.cell?_alloc_past _ _ _ hgl).trans d4
              have r4 : Wq.cell? ⟨wr.heap.size, 4, none⟩ = some (.int .i64 c.d) := by rw [hWq]; exact World.cell?_alloc_new ..
              have q5 : Wq.cell? ⟨g, m * 7 + 5, none⟩ = some (.int .i64 d.p) := by rw [hWq]; exact (World.cell?_alloc_past _ _ _ hgl).trans d5
              have r5 : Wq.cell? ⟨wr.heap.size, 5, none⟩ = some (.int .i64 c.p) := by rw [hWq]; exact World.cell?_alloc_new ..
              have q6 : Wq.cell? ⟨g, m * 7 + 6, none⟩ = some (.int .i64 d.q) := by rw [hWq]; exact (World.cell?_alloc_past _ _ _ hgl).trans d6
              have r6 : Wq.cell? ⟨wr.heap.size, 6, none⟩ = some (.int .i64 c.q) := by rw [hWq]; exact World.cell?_alloc_new ..
              have HW := hid (And.intro hWD hWO)
              clear hWq hWD hWO d0 d1 d2 d3 d4 d5 d6
              go_quiet (fail)
              go_wp2
              go_ret2
              refine ⟨.slice none 0 0, ?_, ?_, ?_⟩
              · rw [HE.out.1]; rfl
              · rw [HE.out.2]; exact Own.nil _ _
              · exact HBB.out.trans (Below.mono (Below.drewN' HW.out.1 _) HBB.out.size)
            · have hE := neqC hs'
              have hG := fun op p q W => guardC op p q d c W
              simp only [C7.v, cmV, hi'] at hE hG
              have HU := hid (hat.out.stay HC.out (by rw [HD.out.1, C7.same_iff.1 hs']))
              clear hs' hown
              go_wp2
              go_quiet (fail)
              go_wp2
              obtain ⟨Wq, hWq⟩ : ∃ Wq, Wq = (wr.alloc (.cells #[.int .i64 c.i, .int .i64 c.k, .int .i64 c.s, .int .i64 c.t, .int .i64 c.d, .int .i64 c.p, .int .i64 c.q] 47)).drewN nq := ⟨_, rfl⟩
              rw [← hWq]
              have hWD : Below w1.heap.size w1 Wq := by rw [hWq]; exact Below.drewN' (HB.out.alloc hsz _) _
              have hWO : Own Wq w1.heap.size (.slice (some ⟨g, 0, none⟩) n cap') set := by rw [hWq]; exact own_drewN (HO.out.alloc _) _
              have q0 : Wq.cell? ⟨g, m * 7, none⟩ = some (.int .i64 d.i) := by rw [hWq]; exact (World.cell?_alloc_past _ _ _ hgl).trans d0
              have r0 : Wq.cell? ⟨wr.heap.size, 0, none⟩ = some (.int .i64 c.i) := by rw [hWq]; exact World.cell?_alloc_new ..
              have q1 : Wq.cell? ⟨g, m * 7 + 1, none⟩ = some (.int .i64 d.k) := by rw [hWq]; exact (World.cell?_alloc_past _ _ _ hgl).trans d1
              have r1 : Wq.cell? ⟨wr.heap.size, 1, none⟩ = some (.int .i64 c.k) := by rw [hWq]; exact World.cell?_alloc_new ..
              have q2 : Wq.cell? ⟨g, m * 7 + 2, none⟩ = some (.int .i64 d.s) := by rw [hWq]; exact (World.cell?_alloc_past _ _ _ hgl).trans d2
              have r2 : Wq.cell? ⟨wr.heap.size, 2, none⟩ = some (.int .i64 c.s) := by rw [hWq]; exact World.cell?_alloc_new ..
              have q3 : Wq.cell? ⟨g, m * 7 + 3, none⟩ = some (.int .i64 d.t) := by rw [hWq]; exact (World.cell?_alloc_past _ _ _ hgl).trans d3
              have r3 : Wq.cell? ⟨wr.heap.size, 3, none⟩ = some (.int .i64 c.t) := by rw [hWq]; exact World.cell?_alloc_new ..
              have q4 : Wq.cell? ⟨g, m * 7 + 4, none⟩ = some (.int .i64 d.d) := by rw [hWq]; exact (World.cell?_alloc_past _ _ _ hgl).trans d4
              have r4 : Wq.cell? ⟨wr.heap.size, 4, none⟩ = some (.int .i64 c.d) := by rw [hWq]; exact World.cell?_alloc_new ..
              have q5 : Wq.cell? ⟨g, m * 7 + 5, none⟩ = some (.int .i64 d.p) := by rw [hWq]; exact (World.cell?_alloc_past _ _ _ hgl).trans d5
              have r5 : Wq.cell? ⟨wr.heap.size, 5, none⟩ = some (.int .i64 c.p) := by rw [hWq]; exact World.cell?_alloc_new ..
              have q6 : Wq.cell? ⟨g, m * 7 + 6, none⟩ = some (.int .i64 d.q) := by rw [hWq]; exact (World.cell?_alloc_past _ _ _ hgl).trans d6
              have r6 : Wq.cell? ⟨wr.heap.size, 6, none⟩ = some (.int .i64 c.q) := by rw [hWq]; exact World.cell?_alloc_new ..
              have HW := hid (And.intro hWD hWO)
              clear hWq hWD hWO d0 d1 d2 d3 d4 d5 d6
              go_quiet (fail)
              go_wp2
              go_roundw
              case rel => exact ⟨k + 1, set, by omega, by go_num, HU, own_drewN HW.out.2 _, Below.drewN' HW.out.1 _⟩
              case measure => simp [intOf]; omega
          · have HU := hid (hat.out.add HP.out.2 HC.out (fun e he => by rw [HD.out.1] at he; cases he; exact hi'))
            go_wp2
            go_quiet (fail)
            go_wp2_with (at_builtin; refine wpList_append_own _ rfl _ _ 26 rfl w1.heap.size 47 i0 _ 7 56 Try.underlying26 hi hz0 hz1 hz2 rfl (by decide) _ _ _ rfl ((own_drewN (hown.alloc _) _).alloc _) ⟨wr.heap.size + 1, 0, none⟩ 1 1 c.cells rfl rfl ?a1 ?a2 ?a3 ?a4 ?a5 ?_)
            case a1 => exact new_cell (by first | rfl | simp)
            case a2 => exact cells_one c
            case a3 => unfold maxLen; omega
            case a4 => omega
            case a5 => first | omega | (simp; omega)
            intro v' w2 hown' hgrow _
            have R := Own.growsN ((Below.drewN' (HB.out.alloc hsz _) nq).alloc (by simp; omega) _) (by simp; omega) (fun k hk => (HO.out.lt k hk).1) hown' (by have := HD.out.2; omega) hgrow
            clear hown' hgrow hown
            go_wp2
            go_roundw
            case rel => exact ⟨k + 1, _, by omega, by go_num, HU, R.1, R.2⟩
            case measure => simp [intOf]; omega
        · have HU := hid (hat.out.add HP.out.2 HC.out (fun e he => by rw [List.length_eq_zero_iff.1 (show set.length = 0 by omega)] at he; simp at he))
          obtain ⟨g, cap', n, rfl, hn⟩ := hown.asSlice
          obtain rfl : n = 0 := by omega
          unfold Own at hown
          rw [← hn] at hown
          have HD := hid hn
          clear hn
          go_wp2
          go_quiet (fail)
          go_wp2_with (at_builtin; refine wpList_append_own _ rfl _ _ 26 rfl w1.heap.size 47 i0 _ 7 56 Try.underlying26 hi hz0 hz1 hz2 rfl (by decide) _ _ _ rfl ((own_drewN (hown.alloc _) _).alloc _) ⟨wr.heap.size + 1, 0, none⟩ 1 1 c.cells rfl rfl ?b1 ?b2 ?b3 ?b4 ?b5 ?_)
          case b1 => exact new_cell (by first | rfl | simp)
          case b2 => exact cells_one c
          case b3 => unfold maxLen; omega
          case b4 => omega
          case b5 => first | omega | (simp; omega)
          intro v' w2 hown' hgrow _
          have R := Own.growsN ((Below.drewN' (HB.out.alloc hsz _) nq).alloc (by simp; omega) _) (by simp; omega) (fun k hk => (HO.out.lt k hk).1) hown' (by have := HD.out; omega) hgrow
          clear hown' hgrow hown
          go_wp2
          go_roundw
          case rel => exact ⟨k + 1, _, by omega, by go_num, HU, R.1, R.2⟩
          case measure => simp [intOf]; omega
      · have hks : k = s.length := by omega
        have HE0 : Hid (ofE cs = 0 ∧ ofL cs = set) := hid (Upto.fine (hks ▸ hat.out) (mem_of_perm HP.out.1) HK.out)
        obtain ⟨g, cap', n, rfl, hn⟩ := hown.asSlice
        by_cases hn1 : n ≤ 1024
        · have HE := hid (of2_fine HE0.out (by rw [← hn]; exact hn1))
          clear hown hn hks
          go_wp2
          go_ret2
          refine ⟨.slice g n cap', ?_, ?_, HBB.out.trans (hB.mono HBB.out.size)⟩
          · rw [HE.out.1]; rfl
          · rw [HE.out.2]; exact own_mono HO.out HBB.out.size
        · have HE := hid (of2_full HE0.out (by rw [← hn]; exact hn1))
          clear hown hn hks
          go_wp2
          go_ret2
          refine ⟨.slice none 0 0, ?_, ?_, HBB.out.trans (hB.mono HBB.out.size)⟩
          · rw [HE.out.1]; rfl
          · rw [HE.out.2]; exact Own.nil _ _
set_option maxHeartbeats 1600000 in
set_option maxRecDepth 100000 in
theorem rOf2 {v : Value} {cs : List C7} {w : World} (h : Sl w v cs) (hl : cs.length ≤ 50000) : Calls Try.prog 32 #[v] w fun e w' => ∃ r, e = .returned (slE r (ofE2 cs)) ∧ Own w' w.heap.size r (ofL2 cs) ∧ Below w.heap.size w w' := by
  have hR := rRights' h (by omega)
  obtain ⟨b, o, cap, a, rfl, ha, hc, hb⟩ := h.open
  clear h
  rcases hok : cs.all C7.ok with _ | _
  · rw [hok] at hR
    have HE := hid (of2_bad hok)
    clear hok
    go_enter Try.func32, Try.ntmps32
    go_wp2_with (go_at_call 57; refine hR.mono ?_; rintro e w' ⟨rfl, hB⟩)
    go_ret2
    refine ⟨.slice none 0 0, ?_, ?_, hB⟩
    · rw [HE.out.1]; rfl
    · rw [HE.out.2]; exact Own.nil _ _
  · rw [hok] at hR
    have HK := hid hok
    clear hok
    go_enter Try.func32, Try.ntmps32
    go_wp2_with (go_at_call 57; refine hR.mono ?_; rintro e w' ⟨rfl, hB'⟩)
    go_loopw [5, 6] (fun u i wr => ∃ (k : Nat) (out : List C7), k ≤ cs.length ∧ i = .int .i64 k ∧ Hid (clashB (cs.take k) = false ∧ out = setL (cs.take k)) ∧ Own wr w.heap.size u out ∧ Below w.heap.size w wr) (fun _ i _ => cs.length - (intOf i).toNat)
    case atStart => exact ⟨0, [], Nat.zero_le _, rfl, ⟨by simp [clashB], by simp [setL]⟩, Own.nil _ _, hB'⟩
    case round =>
      clear hB'
      obtain ⟨k, out, hk, rfl, hat, hown, hB⟩ := hrel
      have hsz := hB.size
      have hol : out.length ≤ k := by rw [hat.out.2]; exact Nat.le_trans (setL_len _) (by simp; omega)
      have HB := hid hB
      have HO := hid hown
      by_cases hlt : k < cs.length
      · obtain rfl := ha (by omega)
        obtain ⟨c, hcc⟩ : ∃ c, cs[k]? = some c := ⟨cs[k], List.getElem?_eq_getElem hlt⟩
        have hbw := hb (by omega)
        obtain ⟨c0, c1, c2, c3, c4, c5, c6⟩ := (hc.on hB hbw).at hcc
        have HC := hid hcc
        have hF := rFind hown.sl (by omega) c.i
        have hP := fun q => rPut (hown.sl.drewN q) (by omega) c
        clear hcc hB
        rcases hp : placeI out c.i with _ | j
        · rw [placeV_none hp] at hF
          have HS := hid (step_fine HC.out hat.out.1 (fun j d h => by rw [← hat.out.2, hp] at h; cases h))
          clear hp hown
          go_wp2_with (go_at_call 58; refine hF.mono ?_; rintro e w' ⟨rfl, rfl⟩)
          go_quiet (fail)
          go_wp2_with (go_at_call 59; refine (hP _).mono ?_; rintro e w1 ⟨r, rfl, hown1, hB1⟩)
          go_roundw
          case rel => exact ⟨k + 1, putL out c, by omega, by go_num, hid ⟨HS.out.1, by rw [HS.out.2, hat.out.2]⟩, own_mono hown1 hsz, (Below.drewN' HB.out _).trans (hB1.mono hsz)⟩
          case measure => simp [intOf]; omega
        · rw [placeV_some hp] at hF
          obtain ⟨hjl, d, hd, hdi⟩ := placeI_some hp
          obtain ⟨g, cap', n, rfl, hn, hgb, hgl, hcells⟩ := hown.parts (by omega)
          obtain ⟨d0, d1, d2, d3, d4, d5, d6⟩ := hcells j d hd
          have hjn : j < n := by omega
          have HH := hid (And.intro hp (And.intro hd (And.intro hdi hn)))
          clear hp hd hdi hn hcells hown
          rcases hs : d.same c with _ | _
          · have hE := neqC hs
            have hG := fun op p q W => guardC op p q d c W
            have HE := hid (of2_clash HK.out (step_clash HC.out hat.out.1 (by rw [← hat.out.2]; exact HH.out.2.1) HH.out.2.2.1 hs))
            clear hs
            go_wp2_with (go_at_call 58; refine hF.mono ?_; rintro e w' ⟨rfl, rfl⟩)
            go_quiet (fail)
            go_wp2
            go_ret2
            refine ⟨.slice none 0 0, ?_, ?_, Below.drewN' HB.out _⟩
            · rw [HE.out.1]; rfl
            · rw [HE.out.2]; exact Own.nil _ _
          · have hE := neqC hs
            have hG := fun op p q W => guardC op p q d c W
            have HS := hid (step_fine HC.out hat.out.1 (fun j' d' h h' => by
              rw [← hat.out.2, HH.out.1] at h; cases h
              rw [← hat.out.2, HH.out.2.1] at h'; cases h'
              exact C7.same_iff.1 hs))
            clear hs
            go_wp2_with (go_at_call 58; refine hF.mono ?_; rintro e w' ⟨rfl, rfl⟩)
            go_quiet (fail)
            go_wp2_with (go_at_call 59; refine (hP _).mono ?_; rintro e w1 ⟨r, rfl, hown1, hB1⟩)
            go_roundw
            case rel => exact ⟨k + 1, putL out c, by omega, by go_num, hid ⟨HS.out.1, by rw [HS.out.2, hat.out.2]⟩, own_mono hown1 hsz, (Below.drewN' HB.out _).trans (hB1.mono hsz)⟩
            case measure => simp [intOf]; omega
      · have HE0 : Hid (ofE cs = 0 ∧ ofL cs = out) := hid (by
          have := hat.out
          rw [List.take_of_length_le (by omega)] at this
          rw [this.2]; exact of_fine HK.out this.1)
        obtain ⟨g, cap', n, rfl, hn⟩ := hown.asSlice
        by_cases hn1 : n ≤ 1024
        · have HE := hid (of2_fine HE0.out (by rw [← hn]; exact hn1))
          clear hown hn
          go_wp2
          go_ret2
          refine ⟨.slice g n cap', ?_, ?_, hB⟩
          · rw [HE.out.1]; rfl
          · rw [HE.out.2]; exact HO.out
        · have HE := hid (of2_full HE0.out (by rw [← hn]; exact hn1))
          clear hown hn
          go_wp2
          go_ret2
          refine ⟨.slice none 0 0, ?_, ?_, hB⟩
          · rw [HE.out.1]; rfl
          · rw [HE.out.2]; exact Own.nil _ _
end Go.Proofs.Ytbcmhnaiabifjaa
namespace Go.Proofs.Ytbcmhnaiabifjaa
open Go.RowKit
theorem rClassic_yes (n : Int) (w : World) (h : 3 ≤ n) (h' : n ≤ 9) : Calls Try.prog 17 #[.int .i64 n] w fun e w' => e = .returned (.int .i64 (n / 2 + 1)) ∧ w = w' := by
  go_enter Try.func17, Try.ntmps17
  go_wp2
  go_loop [4] (fun i => ∃ k : Nat, 2 * k ≤ n + 2 ∧ i = .int .i64 k) (fun i => (n + 2 - 2 * intOf i).toNat)
  case atStart => exact ⟨0, by omega, rfl⟩
  case round =>
    obtain ⟨k, hk, rfl⟩ := hrel
    by_cases hlt : 2 * (k : Int) ≤ n
    · go_wp2
      go_round
      case rel => exact ⟨k + 1, by omega, by go_num⟩
      case measure => simp [intOf]; omega
    · go_wp2
      go_ret
      exact ⟨ret_int (by omega), rfl⟩
theorem rFast_yes (n : Int) (w : World) (h : 3 ≤ n) (h' : n ≤ 9) : Calls Try.prog 16 #[.int .i64 n] w fun e w' => e = .returned (.int .i64 ((3 * n + 3) / 4)) ∧ w = w' := by
  go_enter Try.func16, Try.ntmps16
  go_wp2
  go_loop [4] (fun i => ∃ k : Nat, 4 * k ≤ 3 * n + 3 ∧ i = .int .i64 k) (fun i => (3 * n + 4 - 4 * intOf i).toNat)
  case atStart => exact ⟨0, by omega, rfl⟩
  case round =>
    obtain ⟨k, hk, rfl⟩ := hrel
    by_cases hlt : 4 * (k : Int) < 3 * n
    · go_wp2
      go_round
      case rel => exact ⟨k + 1, by omega, by go_num⟩
      case measure => simp [intOf]; omega
    · go_wp2
      go_ret
      exact ⟨ret_int (by omega), rfl⟩
theorem sClassic_yes (n : Int) (w : World) (h : 3 ≤ n) (h' : n ≤ 9) : Calls Try.prog 37 #[.int .i64 n] w fun e w' => e = .returned (.int .i64 (n / 2 + 1)) ∧ w = w' := by
  go_enter Try.func37, Try.ntmps37
  go_wp2
  go_ret
  exact ⟨rfl, rfl⟩
theorem sFast_yes (n : Int) (w : World) (h : 3 ≤ n) (h' : n ≤ 9) : Calls Try.prog 62 #[.int .i64 n] w fun e w' => e = .returned (.int .i64 ((3 * n + 3) / 4)) ∧ w = w' := by
  go_enter Try.func62, Try.ntmps62
  go_wp2
  go_ret
  exact ⟨rfl, rfl⟩
theorem sNeed_yes (n q : Int) (w : World) (h : 3 ≤ n) (h' : n ≤ 9) (h0 : 0 ≤ q) (h1 : q ≤ n) : Calls Try.prog 43 #[.int .i64 n, .int .i64 q] w fun e w' => e = .returned (.int .i64 ((3 * n + 3) / 4 - (n - q))) ∧ w = w' := by
  go_enter Try.func43, Try.ntmps43
  go_wp2_with (first | (go_at_call 62; refine (sFast_yes _ _ (by omega) (by omega)).mono ?_; rintro e w' ⟨rfl, rfl⟩) | go_in)
  go_ret
  exact ⟨rfl, rfl⟩
theorem rNeed_yes (n q : Int) (w : World) (h : 3 ≤ n) (h' : n ≤ 9) (h0 : 0 ≤ q) (h1 : q ≤ n) : Calls Try.prog 26 #[.int .i64 n, .int .i64 q] w fun e w' => e = .returned (.int .i64 ((3 * n + 3) / 4 - (n - q))) ∧ w = w' := by
  go_enter Try.func26, Try.ntmps26
  go_wp2_with (first | (go_at_call 16; refine (rFast_yes _ _ (by omega) (by omega)).mono ?_; rintro e w' ⟨rfl, rfl⟩) | go_in)
  go_ret
  exact ⟨rfl, rfl⟩
theorem sNeed_no (n q : Int) (w : World) (h : 3 ≤ n) (h' : n ≤ 9) (h0 : q < 0 ∨ n < q) : Calls Try.prog 43 #[.int .i64 n, .int .i64 q] w fun e w' => e = .returned (.int .i64 0) ∧ w = w' := by
  rcases h0 with h0 | h0
  · go_enter Try.func43, Try.ntmps43
    go_wp2
    go_ret
    exact ⟨rfl, rfl⟩
  · have h2 : ¬ q < 0 := by omega
    go_enter Try.func43, Try.ntmps43
    go_wp2
    go_ret
    exact ⟨rfl, rfl⟩
theorem rNeed_no (n q : Int) (w : World) (h : 3 ≤ n) (h' : n ≤ 9) (h0 : q < 0 ∨ n < q) : Calls Try.prog 26 #[.int .i64 n, .int .i64 q] w fun e w' => e = .returned (.int .i64 0) ∧ w = w' := by
  rcases h0 with h0 | h0
  · go_enter Try.func26, Try.ntmps26
    go_wp2
    go_ret
    exact ⟨rfl, rfl⟩
  · have h2 : ¬ q < 0 := by omega
    go_enter Try.func26, Try.ntmps26
    go_wp2
    go_ret
    exact ⟨rfl, rfl⟩
def rightB (n : Int) : Bool := decide (3 ≤ n ∧ n ≤ 9)
def clI (n : Int) : Int := if 3 ≤ n ∧ n ≤ 9 then n / 2 + 1 else 0
def neI (n q : Int) : Int := if 3 ≤ n ∧ n ≤ 9 ∧ 0 ≤ q ∧ q ≤ n then (3 * n + 3) / 4 - (n - q) else 0
theorem ret_bool' {a b : Bool} (h : a = b) : Ending.returned (.bool a) = .returned (.bool b) := by rw [h]
theorem sRight_any (n : Int) (w : World) : Calls Try.prog 36 #[.int .i64 n] w fun e w' => e = .returned (.bool (rightB n)) ∧ w = w' := by
  by_cases h0 : 3 ≤ n
  · by_cases h1 : n ≤ 9
    · go_enter Try.func36, Try.ntmps36
      go_wp2
      go_ret
      exact ⟨ret_bool' (by unfold rightB; symm; simp; omega), rfl⟩
    · go_enter Try.func36, Try.ntmps36
      go_wp2
      go_ret
      exact ⟨ret_bool' (by unfold rightB; symm; simp; omega), rfl⟩
  · go_enter Try.func36, Try.ntmps36
    go_wp2
    go_ret
    exact ⟨ret_bool' (by unfold rightB; symm; simp; omega), rfl⟩
theorem rRight_any (n : Int) (w : World) : Calls Try.prog 35 #[.int .i64 n] w fun e w' => e = .returned (.bool (rightB n)) ∧ w = w' := by
  by_cases h0 : 3 ≤ n
  · by_cases h1 : n ≤ 9
    · go_enter Try.func35, Try.ntmps35
      go_wp2
      go_ret
      exact ⟨ret_bool' (by unfold rightB; symm; simp; omega), rfl⟩
    · go_enter Try.func35, Try.ntmps35
      go_wp2
      go_ret
      exact ⟨ret_bool' (by unfold rightB; symm; simp; omega), rfl⟩
  · go_enter Try.func35, Try.ntmps35
    go_wp2
    go_ret
    exact ⟨ret_bool' (by unfold rightB; symm; simp; omega), rfl⟩
theorem right_no {n : Int} (h : ¬ (3 ≤ n ∧ n ≤ 9)) : rightB n = false := by unfold rightB; simpa using h
theorem sClassic_any (n : Int) (w : World) : Calls Try.prog 37 #[.int .i64 n] w fun e w' => e = .returned (.int .i64 (clI n)) ∧ w = w' := by
  by_cases h : 3 ≤ n ∧ n ≤ 9
  · refine (sClassic_yes n w h.1 h.2).mono ?_
    rintro e w' ⟨rfl, rfl⟩
    exact ⟨ret_int (by unfold clI; rw [if_pos h]), rfl⟩
  · have hr := right_no h
    go_enter Try.func37, Try.ntmps37
    go_wp2_with (go_at_call 36; refine (sRight_any _ _).mono ?_; rintro e w' ⟨rfl, rfl⟩)
    go_ret
    exact ⟨ret_int (by unfold clI; rw [if_neg h]), rfl⟩
theorem rClassic_any (n : Int) (w : World) : Calls Try.prog 17 #[.int .i64 n] w fun e w' => e = .returned (.int .i64 (clI n)) ∧ w = w' := by
  by_cases h : 3 ≤ n ∧ n ≤ 9
  · refine (rClassic_yes n w h.1 h.2).mono ?_
    rintro e w' ⟨rfl, rfl⟩
    exact ⟨ret_int (by unfold clI; rw [if_pos h]), rfl⟩
  · have hr := right_no h
    go_enter Try.func17, Try.ntmps17
    go_wp2_with (go_at_call 35; refine (rRight_any _ _).mono ?_; rintro e w' ⟨rfl, rfl⟩)
    go_ret
    exact ⟨ret_int (by unfold clI; rw [if_neg h]), rfl⟩
theorem sNeed_any (n q : Int) (w : World) : Calls Try.prog 43 #[.int .i64 n, .int .i64 q] w fun e w' => e = .returned (.int .i64 (neI n q)) ∧ w = w' := by
  by_cases h : 3 ≤ n ∧ n ≤ 9
  · by_cases h0 : q < 0 ∨ n < q
    · refine (sNeed_no n q w h.1 h.2 h0).mono ?_
      rintro e w' ⟨rfl, rfl⟩
      exact ⟨ret_int (by unfold neI; rw [if_neg (by omega)]), rfl⟩
    · refine (sNeed_yes n q w h.1 h.2 (by omega) (by omega)).mono ?_
      rintro e w' ⟨rfl, rfl⟩
      exact ⟨ret_int (by unfold neI; rw [if_pos (by omega)]), rfl⟩
  · have hr := right_no h
    go_enter Try.func43, Try.ntmps43
    go_wp2_with (go_at_call 36; refine (sRight_any _ _).mono ?_; rintro e w' ⟨rfl, rfl⟩)
    go_ret
    exact ⟨ret_int (by unfold neI; rw [if_neg (by omega)]), rfl⟩
theorem rNeed_any (n q : Int) (w : World) : Calls Try.prog 26 #[.int .i64 n, .int .i64 q] w fun e w' => e = .returned (.int .i64 (neI n q)) ∧ w = w' := by
  by_cases h : 3 ≤ n ∧ n ≤ 9
  · by_cases h0 : q < 0 ∨ n < q
    · refine (rNeed_no n q w h.1 h.2 h0).mono ?_
      rintro e w' ⟨rfl, rfl⟩
      exact ⟨ret_int (by unfold neI; rw [if_neg (by omega)]), rfl⟩
    · refine (rNeed_yes n q w h.1 h.2 (by omega) (by omega)).mono ?_
      rintro e w' ⟨rfl, rfl⟩
      exact ⟨ret_int (by unfold neI; rw [if_pos (by omega)]), rfl⟩
  · have hr := right_no h
    go_enter Try.func26, Try.ntmps26
    go_wp2_with (go_at_call 35; refine (rRight_any _ _).mono ?_; rintro e w' ⟨rfl, rfl⟩)
    go_ret
    exact ⟨ret_int (by unfold neI; rw [if_neg (by omega)]), rfl⟩
end Go.Proofs.Ytbcmhnaiabifjaa
namespace Go.Proofs.Ytbcmhnaiabifjaa
open Go.RowKit
end Go.Proofs.Ytbcmhnaiabifjaa

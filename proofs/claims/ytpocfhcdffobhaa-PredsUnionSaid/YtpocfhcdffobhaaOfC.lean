/- The program's Of: the set of commands, or the error. -/
import Derived.Test.YtpocfhcdffobhaaByNames
import Derived.Test.YtpocfhcdffobhaaOfR
namespace Go.Proofs.Ytpocfhcdffobhaa
set_option linter.unusedVariables false
open Go.RowKit
open Go.Lib (hid)

theorem mem_of_perm {s cs : List C7} (h : s.Perm cs) : ∀ x, x ∈ s ↔ x ∈ cs := fun x => h.mem_iff

theorem Own.growsN {w W0 w1 : World} {B n : Nat} {v v' : Value} {cs : List C7} {c : C7} (hB : Below B w W0) (hsz : B ≤ W0.heap.size) (hlt : ∀ k, v.ownBlock = some k → B ≤ k)
    (hown' : w1.ownsRow B 34 7 v' n (flat cs ++ c.cells)) (hn : n = cs.length + 1) (hg : W0.grownBy w1 v.ownBlock) : Own w1 B v' (cs ++ [c]) ∧ Below B w w1 :=
  Own.grows hB hsz hlt (hn ▸ hown') hg

set_option maxHeartbeats 1600000 in
set_option maxRecDepth 100000 in
theorem cOf {v : Value} {cs : List C7} {w : World} (h : Sl w v cs) (hl : cs.length ≤ 1024) : Calls Try.prog 6 #[v] w fun e w' => ∃ r, e = .returned (slE r (ofE cs)) ∧ Own w' w.heap.size r (ofL cs) ∧ Below w.heap.size w w' := by
  have hR := cRight' h (by omega)
  have hN := fun W (hB : Below w.heap.size w W) => cByNames (h.on hB) (by omega)
  clear h
  rcases hok : cs.all C7.ok with _ | _
  · rw [hok] at hR
    have HE := hid (of_bad hok)
    clear hok hN
    go_enter Try.func6, Try.ntmps6
    go_wp2_with (go_at_call 22; refine hR.mono ?_; rintro e w' ⟨rfl, hB⟩)
    go_ret2
    refine ⟨.slice none 0 0, ?_, ?_, hB⟩
    · rw [HE.out.1]; rfl
    · rw [HE.out.2]; exact Own.nil _ _
  · rw [hok] at hR
    have HK := hid hok
    obtain ⟨i0, hi, hz0, hz1, hz2⟩ := info_parts Try.infoC
    clear hok
    go_enter Try.func6, Try.ntmps6
    go_wp2_with (go_at_call 22; refine hR.mono ?_; rintro e w0 ⟨rfl, hB0⟩)
    go_wp2_with (go_at_call 23; refine (hN _ hB0).mono ?_; rintro e w1 ⟨r, s, rfl, hs, hpm, hst, hB1⟩; obtain ⟨b, o, cap, a, rfl, ha, hc, hb⟩ := hs.open; clear hs)
    have HBB := hid (hB0.trans (hB1.mono hB0.size))
    have HP := hid (And.intro hpm hst)
    have hsl : s.length ≤ 1024 := by rw [hpm.length_eq]; exact hl
    clear hN hR hB0 hB1 hpm hst
    go_loopw [4, 14] (fun u i wr => ∃ (k : Nat) (set : List C7), k ≤ s.length ∧ i = .int .i64 k ∧ Hid (Upto s k set) ∧ Own wr w1.heap.size u set ∧ Below w1.heap.size w1 wr) (fun _ i _ => s.length - (intOf i).toNat)
    case atStart => exact ⟨0, [], Nat.zero_le _, rfl, Upto.start s, Own.nil _ _, Below.refl _ _⟩
    case round =>
      obtain ⟨k, set, hk, rfl, hat, hown, hB⟩ := hrel
      have hsz := hB.size
      have hol := hat.out.len
      have HB := hid hB
      have HO := hid hown
      by_cases hlt : k < s.length
      · obtain rfl := ha (by omega)
        obtain ⟨c, hcc⟩ : ∃ c, s[k]? = some c := ⟨s[k], List.getElem?_eq_getElem hlt⟩
        have hbw := hb (by omega)
        obtain ⟨c0, c1, c2, c3, c4, c5, c6⟩ := (hc.on hB hbw).at hcc
        have HC := hid hcc
        clear hcc hB
        by_cases h0 : 0 < set.length
        · obtain ⟨g, cap', n, rfl, hn, hgb, hgl, hcells⟩ := hown.parts h0
          obtain ⟨m, hnm, hmn⟩ : ∃ m : Nat, (n : Int) - 1 = m ∧ m < n := ⟨n - 1, by omega, by omega⟩
          obtain ⟨d, hd⟩ : ∃ d, set[m]? = some d := ⟨set[m], List.getElem?_eq_getElem (by omega)⟩
          obtain ⟨d0, d1, d2, d3, d4, d5, d6⟩ := hcells m d hd
          have hmk : n ≤ k := by omega
          have hm0 : decide ((m : Int) < 0) = false := decide_eq_false (by omega)
          have hd' : set[set.length - 1]? = some d := by rw [← hn, show n - 1 = m by omega]; exact hd
          unfold Own at hown
          rw [← hn] at hown
          have HD := hid (And.intro hd' hn)
          clear hd hd' hn hcells
          by_cases hi' : d.i = c.i
          · rcases hs' : d.same c with _ | _
            · have hE := neqC hs'
              have hG := fun op p q W => guardC op p q d c W
              simp only [C7.v, cmV, hi'] at hE hG
              have HE := hid (of_clash HK.out ((clash_perm (mem_of_perm HP.out.1)) ▸ hat.out.no HC.out HD.out.1 hi' hs'))
              clear hs' hown
              go_wp2
              go_quiet (fail)
              go_wp2
              obtain ⟨Wq, hWq⟩ : ∃ Wq, Wq = (wr.alloc (.cells #[.int .i64 c.i, .int .i64 c.k, .int .i64 c.s, .int .i64 c.t, .int .i64 c.d, .int .i64 c.p, .int .i64 c.q] 34)).drewN nq := ⟨_, rfl⟩
              rw [← hWq]
              have hWD : Below w1.heap.size w1 Wq := by rw [hWq]; exact Below.drewN' (HB.out.alloc hsz _) _
              have hWO : Own Wq w1.heap.size (.slice (some ⟨g, 0, none⟩) n cap') set := by rw [hWq]; exact own_drewN (HO.out.alloc _) _
              have q0 : Wq.cell? ⟨g, m * 7, none⟩ = some (.int .i64 d.i) := by rw [hWq]; exact (World.cell?_alloc_past _ _ _ hgl).trans d0
              have r0 : Wq.cell? ⟨wr.heap.size, 0, none⟩ = some (.int .i64 c.i) := by rw [hWq]; exact World.cell?_alloc_new ..
              have q1 : Wq.cell? ⟨g, m * 7 + 1, none⟩ = some (.int .i64 d.k) := by rw [hWq]; exact (World.cell?_alloc_past _ _ _ hgl).trans d1
              have r1 : Wq.cell? ⟨wr.heap.size, 1, none⟩ = some (.int .i64 c.k) := by rw [hWq]; exact World.cell?_alloc_new ..
              have q2 : Wq.cell? ⟨g, m * 7 + 2, none⟩ = some (.int .i64 d.s) := by rw [hWq]; exact (World.cell?_alloc_past _ _ _ hgl).trans d2
              have r2 : Wq.cell? ⟨wr.heap.size, 2, none⟩ = some (.int .i64 c.s) := by rw [hWq]; exact World.cell?_alloc_new ..
              have q3 : Wq.cell? ⟨g, m * 7 + 3, none⟩ = some (.int .i64 d.t) := by rw [hWq]; exact (World.cell?_alloc_past _ _ _ hgl).trans d3
              have r3 : Wq.cell? ⟨wr.heap.size, 3, none⟩ = some (.int .i64 c.t) := by rw [hWq]; exact World.cell?_alloc_new ..
              have q4 : Wq.cell? ⟨g, m * 7 + 4, none⟩ = some (.int .i64 d.d) := by rw [hWq]; exact (World.cell?_alloc_past _ _ _ hgl).trans d4
              have r4 : Wq.cell? ⟨wr.heap.size, 4, none⟩ = some (.int .i64 c.d) := by rw [hWq]; exact World.cell?_alloc_new ..
              have q5 : Wq.cell? ⟨g, m * 7 + 5, none⟩ = some (.int .i64 d.p) := by rw [hWq]; exact (World.cell?_alloc_past _ _ _ hgl).trans d5
              have r5 : Wq.cell? ⟨wr.heap.size, 5, none⟩ = some (.int .i64 c.p) := by rw [hWq]; exact World.cell?_alloc_new ..
              have q6 : Wq.cell? ⟨g, m * 7 + 6, none⟩ = some (.int .i64 d.q) := by rw [hWq]; exact (World.cell?_alloc_past _ _ _ hgl).trans d6
              have r6 : Wq.cell? ⟨wr.heap.size, 6, none⟩ = some (.int .i64 c.q) := by rw [hWq]; exact World.cell?_alloc_new ..
              have HW := hid (And.intro hWD hWO)
              clear hWq hWD hWO d0 d1 d2 d3 d4 d5 d6
              go_quiet (fail)
              go_wp2
              go_ret2
              refine ⟨.slice none 0 0, ?_, ?_, ?_⟩
              · rw [HE.out.1]; rfl
              · rw [HE.out.2]; exact Own.nil _ _
              · exact HBB.out.trans (Below.mono (Below.drewN' HW.out.1 _) HBB.out.size)
            · have hE := neqC hs'
              have hG := fun op p q W => guardC op p q d c W
              simp only [C7.v, cmV, hi'] at hE hG
              have HU := hid (hat.out.stay HC.out (by rw [HD.out.1, C7.same_iff.1 hs']))
              clear hs' hown
              go_wp2
              go_quiet (fail)
              go_wp2
              obtain ⟨Wq, hWq⟩ : ∃ Wq, Wq = (wr.alloc (.cells #[.int .i64 c.i, .int .i64 c.k, .int .i64 c.s, .int .i64 c.t, .int .i64 c.d, .int .i64 c.p, .int .i64 c.q] 34)).drewN nq := ⟨_, rfl⟩
              rw [← hWq]
              have hWD : Below w1.heap.size w1 Wq := by rw [hWq]; exact Below.drewN' (HB.out.alloc hsz _) _
              have hWO : Own Wq w1.heap.size (.slice (some ⟨g, 0, none⟩) n cap') set := by rw [hWq]; exact own_drewN (HO.out.alloc _) _
              have q0 : Wq.cell? ⟨g, m * 7, none⟩ = some (.int .i64 d.i) := by rw [hWq]; exact (World.cell?_alloc_past _ _ _ hgl).trans d0
              have r0 : Wq.cell? ⟨wr.heap.size, 0, none⟩ = some (.int .i64 c.i) := by rw [hWq]; exact World.cell?_alloc_new ..
              have q1 : Wq.cell? ⟨g, m * 7 + 1, none⟩ = some (.int .i64 d.k) := by rw [hWq]; exact (World.cell?_alloc_past _ _ _ hgl).trans d1
              have r1 : Wq.cell? ⟨wr.heap.size, 1, none⟩ = some (.int .i64 c.k) := by rw [hWq]; exact World.cell?_alloc_new ..
              have q2 : Wq.cell? ⟨g, m * 7 + 2, none⟩ = some (.int .i64 d.s) := by rw [hWq]; exact (World.cell?_alloc_past _ _ _ hgl).trans d2
              have r2 : Wq.cell? ⟨wr.heap.size, 2, none⟩ = some (.int .i64 c.s) := by rw [hWq]; exact World.cell?_alloc_new ..
              have q3 : Wq.cell? ⟨g, m * 7 + 3, none⟩ = some (.int .i64 d.t) := by rw [hWq]; exact (World.cell?_alloc_past _ _ _ hgl).trans d3
              have r3 : Wq.cell? ⟨wr.heap.size, 3, none⟩ = some (.int .i64 c.t) := by rw [hWq]; exact World.cell?_alloc_new ..
              have q4 : Wq.cell? ⟨g, m * 7 + 4, none⟩ = some (.int .i64 d.d) := by rw [hWq]; exact (World.cell?_alloc_past _ _ _ hgl).trans d4
              have r4 : Wq.cell? ⟨wr.heap.size, 4, none⟩ = some (.int .i64 c.d) := by rw [hWq]; exact World.cell?_alloc_new ..
              have q5 : Wq.cell? ⟨g, m * 7 + 5, none⟩ = some (.int .i64 d.p) := by rw [hWq]; exact (World.cell?_alloc_past _ _ _ hgl).trans d5
              have r5 : Wq.cell? ⟨wr.heap.size, 5, none⟩ = some (.int .i64 c.p) := by rw [hWq]; exact World.cell?_alloc_new ..
              have q6 : Wq.cell? ⟨g, m * 7 + 6, none⟩ = some (.int .i64 d.q) := by rw [hWq]; exact (World.cell?_alloc_past _ _ _ hgl).trans d6
              have r6 : Wq.cell? ⟨wr.heap.size, 6, none⟩ = some (.int .i64 c.q) := by rw [hWq]; exact World.cell?_alloc_new ..
              have HW := hid (And.intro hWD hWO)
              clear hWq hWD hWO d0 d1 d2 d3 d4 d5 d6
              go_quiet (fail)
              go_wp2
              go_roundw
              case rel => exact ⟨k + 1, set, by omega, by go_num, HU, own_drewN HW.out.2 _, Below.drewN' HW.out.1 _⟩
              case measure => simp [intOf]; omega
          · have HU := hid (hat.out.add HP.out.2 HC.out (fun e he => by rw [HD.out.1] at he; cases he; exact hi'))
            go_wp2
            go_quiet (fail)
            go_wp2_with (at_builtin; refine wpList_append_own _ rfl _ _ 22 rfl w1.heap.size 34 i0 _ 7 56 Try.underlying22 hi hz0 hz1 hz2 rfl (by decide) _ _ _ rfl ((own_drewN (hown.alloc _) _).alloc _) ⟨wr.heap.size + 1, 0, none⟩ 1 1 c.cells rfl rfl ?a1 ?a2 ?a3 ?a4 ?a5 ?_)
            case a1 => exact new_cell (by first | rfl | simp)
            case a2 => exact cells_one c
            case a3 => unfold maxLen; omega
            case a4 => omega
            case a5 => first | omega | (simp; omega)
            intro v' w2 hown' hgrow _
            have R := Own.growsN ((Below.drewN' (HB.out.alloc hsz _) nq).alloc (by simp; omega) _) (by simp; omega) (fun k hk => (HO.out.lt k hk).1) hown' (by have := HD.out.2; omega) hgrow
            clear hown' hgrow hown
            go_wp2
            go_roundw
            case rel => exact ⟨k + 1, _, by omega, by go_num, HU, R.1, R.2⟩
            case measure => simp [intOf]; omega
        · have HU := hid (hat.out.add HP.out.2 HC.out (fun e he => by rw [List.length_eq_zero_iff.1 (show set.length = 0 by omega)] at he; simp at he))
          obtain ⟨g, cap', n, rfl, hn⟩ := hown.asSlice
          obtain rfl : n = 0 := by omega
          unfold Own at hown
          rw [← hn] at hown
          have HD := hid hn
          clear hn
          go_wp2
          go_quiet (fail)
          go_wp2_with (at_builtin; refine wpList_append_own _ rfl _ _ 22 rfl w1.heap.size 34 i0 _ 7 56 Try.underlying22 hi hz0 hz1 hz2 rfl (by decide) _ _ _ rfl ((own_drewN (hown.alloc _) _).alloc _) ⟨wr.heap.size + 1, 0, none⟩ 1 1 c.cells rfl rfl ?b1 ?b2 ?b3 ?b4 ?b5 ?_)
          case b1 => exact new_cell (by first | rfl | simp)
          case b2 => exact cells_one c
          case b3 => unfold maxLen; omega
          case b4 => omega
          case b5 => first | omega | (simp; omega)
          intro v' w2 hown' hgrow _
          have R := Own.growsN ((Below.drewN' (HB.out.alloc hsz _) nq).alloc (by simp; omega) _) (by simp; omega) (fun k hk => (HO.out.lt k hk).1) hown' (by have := HD.out; omega) hgrow
          clear hown' hgrow hown
          go_wp2
          go_roundw
          case rel => exact ⟨k + 1, _, by omega, by go_num, HU, R.1, R.2⟩
          case measure => simp [intOf]; omega
      · have hks : k = s.length := by omega
        have HE : Hid (ofE cs = 0 ∧ ofL cs = set) := hid (Upto.fine (hks ▸ hat.out) (mem_of_perm HP.out.1) HK.out)
        obtain ⟨g, cap', n, rfl, hn⟩ := hown.asSlice
        have hn1 : n ≤ 1024 := by omega
        clear hown hn hks
        go_wp2
        go_ret2
        refine ⟨.slice g n cap', ?_, ?_, HBB.out.trans (hB.mono HBB.out.size)⟩
        · rw [HE.out.1]; rfl
        · rw [HE.out.2]; exact own_mono HO.out HBB.out.size
end Go.Proofs.Ytpocfhcdffobhaa

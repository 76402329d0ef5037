/- The program's net: frames sent. -/
import Derived.Test.YtcfkifiejojciaaNActs
import Derived.Deep.RegionLaw
namespace Go.Proofs.Ytcfkifiejojciaa
set_option linter.unusedVariables false
open Go.RowKit
open Go.Lib (hid)

/-- How many frames go in. -/
def fitN (room : Int) (m n : Nat) : Nat := min n (room - (m : Int)).toNat
/-- The first of a slice's slices. -/
theorem cut_runL (a : Option Addr) (n cap k : Nat) (hk : k ≤ cap) (W : World) : (Instr.slice 31 (.slice a n cap) none (some (.int .i64 (k : Int))) none).run Try.prog W = .ok (.slice a k cap) W := by
  have hs : (sizeOf (Try.prog.elem 31)).run Try.prog W = .ok 1 W := by
    obtain ⟨i0, hi, hz0, hz1, hz2⟩ := info_parts Try.infoS
    rw [show Try.prog.elem 31 = 40 from by kernel_rfl]
    simp [sizeOf, typeInfo, hi, hz1]
  rw [run_slice_h (P := Try.prog) (w := W) 31 a n cap (by kernel_rfl) .i64 (k : Int) (by omega) (by omega), hs]
  show Result.ok (sliced a 0 k cap 1) W = _
  unfold sliced
  have : (if cap = 0 then a else a.map (·.add (0 * 1))) = a := by
    split
    · rfl
    · cases a with
      | none => rfl
      | some ad => simp [Addr.add]
  rw [this, Nat.sub_zero, Nat.sub_zero]

theorem OwnB.sv {w : World} {B : Nat} {v : Value} {l : List UInt8} (h : OwnB w B v l) : ∃ s : Sv, v = s.v ∧ OwnB w B s.v l := by
  obtain ⟨g, cap, n, rfl, _⟩ := h.asSlice
  exact ⟨⟨g, n, cap⟩, rfl, h⟩
/-- What a round of Send has made of the net. -/
def SendI (w : World) (B p : Nat) (room : Int) (v0 : Value) (s : Int) (ls : List (List UInt8)) (wr : World) : Prop := LeftA 47 w wr B p room v0 s ls
set_option maxHeartbeats 3200000 in
set_option maxRecDepth 100000 in
theorem cSend {w : World} {p B : Nat} {room s : Int} {v vl : Value} {ps qs : Ps} (h : NetP w B p room v s ps) (hB : B ≤ w.heap.size) (hr : roomB room = true) (hp : (ps.length : Int) ≤ room) (hs : Sr w B vl qs) (hq : qs.length ≤ 1000000) (hl : ∀ q ∈ qs, q.2.length ≤ 1000000) (hs0 : 0 ≤ s) (hs1 : s ≤ 1000000) (hap : 0 < qs.length → ∀ k, vl.ownBlock = some k → ¬ Nb p v k) :
    Calls Try.prog 17 #[ptr p, vl] w fun e w' => e = .returned (.int .i64 (fitN room ps.length qs.length : Nat)) ∧ LeftA 47 w w' B p room v (s + ((qs.length : Int) - (fitN room ps.length qs.length : Nat))) (bs ps ++ (bs qs).take (fitN room ps.length qs.length)) := by
  have hr2 := hr
  unfold roomB at hr2
  simp at hr2
  have HL := hid (cLeft h.1 h.2.1 hr (by omega))
  have HN := hid h
  have HSr := hid hs
  have HLE := hid hl
  have HAP := hid hap
  have HBW := hid hB
  have HNB := hid (h.nb (by decide))
  obtain ⟨k, hk⟩ : ∃ k, k = fitN room ps.length qs.length := ⟨_, rfl⟩
  rw [← hk]
  have hmin : min (qs.length : Int) (room - (ps.length : Int)) = (k : Int) := by rw [hk]; unfold fitN; omega
  have hkn : k ≤ qs.length := by rw [hk]; unfold fitN; omega
  have HKM : Hid (ps.length + k ≤ 4096) := hid (by rw [hk]; unfold fitN; omega)
  obtain ⟨b, o, cap, al, rfl, hcap, _, hal, hc, hbl, hbt⟩ := hs
  have hcut := cut_runL al qs.length cap k (by omega)
  obtain ⟨n, hn⟩ : ∃ n, n = qs.length := ⟨_, rfl⟩
  rw [← hn] at hmin hkn hal hbl hq hcap hcut ⊢
  have HA := hid (And.intro hal hbl)
  have HC := hid hc
  have HBT := hid hbt
  have HNN := hid hn
  have hw1 : wrap64 ((n : Int) - (k : Int)) = (n : Int) - (k : Int) := by unfold wrap64; omega
  have hw2 : wrap64 (s + ((n : Int) - (k : Int))) = s + ((n : Int) - (k : Int)) := by unfold wrap64; omega
  have HW := hid (And.intro hw1 hw2)
  have hkc : (k : Int) ≤ (cap : Int) := by omega
  have HKN := hid hkn
  clear h hl hap hr hr2 hp hk hal hbl hc hbt hn hw1 hw2 hB hs0 hs1
  go_enter Try.func17, Try.ntmps17
  go_wp2_with fail
  go_at_call 24
  refine HL.out.mono ?_
  rintro e w1 ⟨rfl, hB1⟩
  have HB1 := hid hB1
  clear hB1
  go_wp2_with fail
  have HI0 : Hid (LeftA 47 w w1 B p room v s (bs ps ++ (bs qs).take 0)) := hid ⟨v, ps, HN.out.on HB1.out, by rw [List.take_zero, List.append_nil], Tch.ofBelow HB1.out, Fr.refl _ _⟩
  have HS1 : Hid (w.heap.size ≤ w1.heap.size) := hid HB1.out.size
  clear HB1 HL hmin hcut
  go_loopw [19] (fun i wr => ∃ j : Nat, j ≤ k ∧ i = .int .i64 j ∧ Hid (LeftA 47 w wr B p room v s (bs ps ++ (bs qs).take j))) (fun i _ => k - (intOf i).toNat)
  case atStart => exact ⟨0, Nat.zero_le _, rfl, HI0⟩
  case round =>
    obtain ⟨j, hj, rfl, HI⟩ := hrel
    by_cases hlt : j < k
    · have hlt2 : (j : Int) < (k : Int) := by omega
      obtain ⟨q, hqj⟩ : ∃ q, qs[j]? = some q := ⟨qs[j]'(by have := HNN.out; have := HKN.out; omega), List.getElem?_eq_getElem (by have := HNN.out; have := HKN.out; omega)⟩
      obtain ⟨v1, ps1, hN, hbs, hT, hF⟩ := HI.out
      have hcj := HC.out j q hqj
      obtain ⟨⟨sa, sn, sc⟩, l⟩ := q
      dsimp only at hcj
      obtain rfl := HA.out.1 (by have := HKN.out; omega)
      have hb := HA.out.2 (by have := HKN.out; omega)
      have hnb : ¬ Nb p v b := HAP.out (by have := HNN.out; have := HKN.out; omega) b rfl
      have hcw : wr.cell? ⟨b, o + j, none⟩ = some (.slice sa sn sc) := (hT.cell hb hnb).trans hcj
      have hQ : Bt wr B ⟨sa, sn, sc⟩ l := (HBT.out _ (List.mem_of_getElem? hqj)).tch hT HNB.out
      have hCl := cClone (w := wr.drew) hQ.1 (HLE.out _ (List.mem_of_getElem? hqj))
      have HCL := hid hCl
      have hlen : ps1.length + 1 ≤ 1000000 := by have h1 := congrArg List.length hbs; rw [bs_len, List.length_append, bs_len, List.length_take, bs_len] at h1; have := HKM.out; omega
      obtain ⟨a1, n1, cap1, e1, hn1⟩ := hN.2.1.asSlice
      rw [e1] at hN hF
      obtain ⟨hltp, c0, c1, c2, f0, f1, f2⟩ := hN.1.cells
      have HN1 := hid hN
      have hbs2 : bs ps1 ++ [l] = bs ps ++ (bs qs).take (j + 1) := by rw [hbs, List.append_assoc, ← takeN_snoc (bs_at hqj)]
      have HBS := hid hbs2
      have HT := hid hT
      have HF := hid hF
      have HLEN := hid hlen
      clear HC HBT HLE HN HI HAP hqj hcj hnb hQ hCl hlen hn1 hN hbs hbs2 hT hF c0 c2 e1
      go_wp2
      go_region_law (first
        | (go_simp; go_at_call 23; (
            refine HCL.out.mono ?_
            rintro e w2 ⟨r, rfl, hO, hB2⟩
            obtain ⟨⟨ga, na, ca⟩, rfl, hO2⟩ := OwnB.sv hO
            have hN2 : NetP w2 B p room (.slice a1 n1 cap1) s ps1 := NetA.on (w := wr.drew) HN1.out hB2
            obtain ⟨hltp2, d0, d1, d2, g0, g1, g2⟩ := hN2.1.cells
            have hb3 : Below w2.heap.size w2 (w2.alloc (.cells #[.slice ga na ca] 40)) := (Below.refl _ w2).alloc (Nat.le_refl _) _
            have HN3 := hid (hN2.on hb3)
            have HS3 : Hid (Sr (w2.alloc (.cells #[.slice ga na ca] 40)) B (.slice (some ⟨w2.heap.size, 0, none⟩) 1 1) [(⟨ga, na, ca⟩, l)]) := hid (Sr.one (OwnB.bt hO2))
            have HB3 : Hid (Below wr.heap.size wr (w2.alloc (.cells #[.slice ga na ca] 40))) := hid (((belowDrew (Below.refl _ wr)).trans hB2).trans (hb3.mono hB2.size))
            have HZ : Hid (B ≤ (w2.alloc (.cells #[.slice ga na ca] 40)).heap.size) := hid (Nat.le_trans (Nat.le_trans HBW.out HT.out.size) HB3.out.size)
            clear hO hO2 hB2 hN2 hb3 d0 d2))
        | (refine step_append_rw rfl (.tmp 27) (.tmp 30) rfl B (.slice a1 n1 cap1) ps1 rfl HN3.out.2.1 ⟨w2.heap.size, 0, none⟩ 1 1 [(⟨ga, na, ca⟩, l)] rfl HS3.out HLEN.out HZ.out ?_; (
            intro v4 w4 hR4 hg4 hf4
            have hT4 : Tch (Nb p (.slice a1 n1 cap1)) wr w4 := (Tch.ofBelow HB3.out).trans (Tch.ofGrown hg4 (fun k hk => .inr hk))
            have hne := Tri.off HN3.out.1 (by decide) HN3.out.2.1
            have hq4 := obKept HN3.out.1 hg4 hne
            have hO4 := Tri.off hq4 (by decide) hR4
            have hR5 : Rw (w4.setCell ⟨p, 1, none⟩ v4) B v4 (ps1 ++ [(⟨ga, na, ca⟩, l)]) := hR4.tch (S := fun k => k = p) (Tch.set _ _ _ rfl) (fun k hk => by cases hk; exact ⟨HN3.out.2.2, not8 hq4 (by decide)⟩) (fun k hk e => hO4 (by rw [hk, e]))
            have hbs5 : bs (ps1 ++ [(⟨ga, na, ca⟩, l)]) = bs ps ++ (bs qs).take (j + 1) := by rw [bs_append]; exact HBS.out
            have hf5 : Fr w.heap.size v v4 := HF.out.trans hf4 (Nat.le_trans HT.out.size HB3.out.size)
            have hT5 : Tch (Nb p v) w (w4.setCell ⟨p, 1, none⟩ v4) := HT.out.next (hT4.trans (Tch.set _ _ _ (.inl rfl))) (fun i hi => by rcases hi with h1 | h1; exact .inl (.inl h1); exact (HF.out i h1).imp .inr id)
            have HI5 : Hid (LeftA 47 w (w4.setCell ⟨p, 1, none⟩ v4) B p room v s (bs ps ++ (bs qs).take (j + 1))) := hid ⟨v4, _, ⟨Tri.set1 hq4, hR5, HN3.out.2.2⟩, hbs5, hT5, hf5⟩
            obtain ⟨hltp4, e0, e1, e2, m0, m1, m2⟩ := Tri.cells hq4
            obtain ⟨a4, n4, cap4, rfl, hn4⟩ := hR4.asSlice
            clear hR4 hg4 hf4 hT4 hne hq4 hO4 hR5 hbs5 hf5 hT5 hn4 e0 e2)))
      all_goals (
        go_wp2
        go_roundw
        case rel => exact ⟨j + 1, by omega, by go_num, HI5⟩
        case measure => simp [RowKit.intOf]; omega)
    · have hlt2 : ¬ (j : Int) < (k : Int) := by omega
      obtain rfl : j = k := by omega
      obtain ⟨v1, ps1, hN, hbs, hT, hF⟩ := HI.out
      obtain ⟨hltp, c0, c1, c2, f0, f1, f2⟩ := hN.1.cells
      obtain ⟨hw1, hw2⟩ := HW.out
      have hne := Tri.off hN.1 (by decide) hN.2.1
      have HN1 := hid hN
      have HX := hid (And.intro hbs (And.intro hT (And.intro hF hne)))
      clear hN hbs hT hF hne
      go_wp2
      go_ret
      refine ⟨rfl, v1, ps1, ⟨Tri.set2 HN1.out.1, HN1.out.2.1.tch (S := fun k => k = p) (Tch.set _ _ _ rfl) (fun k hk => by cases hk; exact ⟨HN1.out.2.2, not8 HN1.out.1 (by decide)⟩) (fun k hk e => HX.out.2.2.2 (by rw [hk, e])), HN1.out.2.2⟩, HX.out.1, HX.out.2.1.trans (Tch.set _ _ _ (.inl rfl)), HX.out.2.2.1⟩
end Go.Proofs.Ytcfkifiejojciaa

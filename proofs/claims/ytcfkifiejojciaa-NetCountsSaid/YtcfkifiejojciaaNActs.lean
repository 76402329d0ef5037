/- The program's net: a frame taken out, one doubled. -/
import Derived.Test.YtcfkifiejojciaaNProg
import Derived.Test.YtcfkifiejojciaaShelf
import Derived.Lib.OwnBridge
namespace Go.Proofs.Ytcfkifiejojciaa
set_option linter.unusedVariables false
open Go.RowKit
open Go.Lib (hid)

instance : Inhabited Sv := ⟨⟨none, 0, 0⟩⟩
/-- A list without the one at a place. -/
def less {α : Type} (l : List α) (i : Nat) : List α := l.take i ++ l.drop (i + 1)
theorem bs_less (ps : Ps) (i : Nat) : bs (less ps i) = less (bs ps) i := by simp [bs, less, List.map_take, List.map_drop]
theorem less_len {α : Type} {l : List α} {i : Nat} (h : i < l.length) : (less l i).length + 1 = l.length := by unfold less; rw [List.length_append, List.length_take, List.length_drop]; omega
theorem less_mem {α : Type} {l : List α} {i : Nat} {x : α} (h : x ∈ less l i) : x ∈ l := by
  rcases List.mem_append.1 h with h | h
  · exact List.mem_of_mem_take h
  · exact List.mem_of_mem_drop h
theorem hd_enc (ps : Ps) : hd ps = (ps.map fun p => p.1).map Sv.v := by simp [hd, List.map_map, Function.comp_def]

theorem cDel {w : World} {B : Nat} {v : Value} {ps : Ps} (h : Rw w B v ps) (i : Nat) (hi : i < ps.length) : Calls Try.prog 22 #[v, .int .i64 i, .int .i64 ((i : Int) + 1)] w fun e w' => ∃ v', e = .returned v' ∧ Rw w' B v' (less ps i) ∧ Tch (fun k => v.ownBlock = some k) w w' ∧ v'.ownBlock = v.ownBlock := by
  have hne : v ≠ .slice none 0 0 := fun e => by
    rcases h.shape with ⟨_, rfl⟩ | ⟨g, cap, e2, _⟩
    · simp at hi
    · rw [e] at e2; cases e2
  have h1 := h.1
  rw [hd_enc] at h1
  obtain ⟨g, cap, rfl, hB, hg, hn, hm, hl, hH⟩ := Lib.holds_of_ownsRow h1 hne
  obtain ⟨i0, hi0, hz0, hz1, hz2⟩ := info_parts Try.infoS
  have hc := AnyE.slices_Delete Try.delL Sv.v (fun _ => rfl) ⟨none, 0, 0⟩ Try.zeroValue40 i0 hi0 hz1 g 0 cap i (i + 1) (ps.map fun p => p.1).toArray w hH (by simp; exact hn) (by unfold maxLen at hm; omega) (by omega) (by simp; omega)
  change Calls Try.prog 22 _ _ _ at hc
  rw [show ((ps.map fun p => p.1).toArray).size = ps.length from by simp] at hc
  refine hc.mono ?_
  rintro e w' ⟨rfl, q, rfl⟩
  have hlen : (less ps i).length = ps.length - 1 := by have := less_len hi; omega
  have hup := Lib.ownsRow_putRow (q := q) (k := ps.length - 1) (ys := (ps.map fun p => p.1).take i ++ (ps.map fun p => p.1).drop (i + 1) ++ List.replicate (i + 1 - i) ⟨none, 0, 0⟩) h1 (by simp; omega) (by omega)
  have ht : Tch (fun k => (Value.slice (some ⟨g, 0, none⟩) ps.length cap).ownBlock = some k) w (Go.Sort.putRow Sv.v (Go.Sort.ahead w q) g 0 ((ps.map fun p => p.1).take i ++ (ps.map fun p => p.1).drop (i + 1) ++ List.replicate (i + 1 - i) (⟨none, 0, 0⟩ : Sv)).toArray) := by
    refine ⟨rfl, rfl, rfl, by simp, fun k hk hS => ?_⟩
    have hgk : g ≠ k := fun e => hS (by rw [e]; rfl)
    simp [Go.Sort.putRow, Go.Sort.mapBlock, Go.Sort.ahead, Array.getElem?_modify, hgk]
  refine ⟨_, rfl, ⟨?_, fun p hp => (h.2 p (less_mem hp)).tch ht fun k hk => ⟨(h.blk hk).1, (h.blk hk).2.2⟩⟩, ht, rfl⟩
  rw [hlen, hd_enc]
  have : ((ps.map fun p => p.1).take i ++ (ps.map fun p => p.1).drop (i + 1) ++ List.replicate (i + 1 - i) (⟨none, 0, 0⟩ : Sv)).take (ps.length - 1) = (less ps i).map fun p => p.1 := by
    rw [List.take_left']
    · simp [less, List.map_take, List.map_drop]
    · simp; omega
  rw [this] at hup
  rw [show ps.length - (i + 1 - i) = ps.length - 1 by omega]
  exact hup

set_option maxHeartbeats 800000 in
set_option maxRecDepth 100000 in
theorem cTake_no {w : World} {p B : Nat} {room s : Int} {v : Value} {ps : Ps} (h : NetP w B p room v s ps) (i : Int) (hi : i < 0 ∨ (ps.length : Int) ≤ i) : Calls Try.prog 15 #[ptr p, .int .i64 i] w fun e w' => e = .returned (.tuple #[.slice none 0 0, .bool false]) ∧ w = w' := by
  have HA := hid (cAt_no h.1 h.2.1 i hi)
  clear h hi
  go_enter Try.func15, Try.ntmps15
  go_wp2_with (go_at_call 14; refine HA.out.mono ?_; rintro e w1 ⟨rfl, rfl⟩)
  go_ret2
  exact ⟨rfl, rfl⟩
set_option maxHeartbeats 800000 in
set_option maxRecDepth 100000 in
theorem cTake_yes {w : World} {p B : Nat} {room s : Int} {v : Value} {ps : Ps} (h : NetP w B p room v s ps) (hB : B ≤ w.heap.size) (i : Nat) {q : Sv × List UInt8} (hi : ps[i]? = some q) (hl : q.2.length ≤ 1000000) (hm : ps.length ≤ 1000000) :
    Calls Try.prog 15 #[ptr p, .int .i64 i] w fun e w' => ∃ r v', e = .returned (.tuple #[r, .bool true]) ∧ OwnB w' w.heap.size r q.2 ∧ NetP w' B p room v' s (less ps i) ∧ Tch (Nb p v) w w' ∧ Fr w.heap.size v v' := by
  have hil := (List.getElem?_eq_some_iff.1 hi).1
  have HA := hid (cAt_yes h.1 h.2.1 i hi)
  have HD := hid (cDel h.2.1 i hil)
  have HQ := hid (h.2.1.2 q (List.mem_of_getElem? hi))
  have HP := hid h
  have HL := hid hl
  have hw1 : (i : Int) + 1 ≤ 1000000 := by omega
  obtain ⟨hlt, c0, c1, c2, f0, f1, f2⟩ := h.1.cells
  obtain ⟨a, cap, e1, hcap, _⟩ := h.2.1.any
  obtain ⟨⟨sa, sn, sc⟩, l⟩ := q
  dsimp only at HA HQ HL hl ⊢
  rw [e1] at c1 HD HP ⊢
  have HLT := hid hlt
  clear h hl e1 hcap hi
  go_enter Try.func15, Try.ntmps15
  go_wp2_with fail
  go_at_call 14
  refine HA.out.mono ?_
  rintro e w1 ⟨rfl, rfl⟩
  go_wp2_with fail
  go_at_call 22
  refine HD.out.mono ?_
  rintro e w2 ⟨v', rfl, hR, hT, hb⟩
  have hT2 : Tch (Nb p (.slice a ps.length cap)) w w2 := hT.mono fun k hk => .inr hk
  have hne := Tri.off HP.out.1 (by decide) HP.out.2.1
  have hq2 : Nt w2 p room (.slice a ps.length cap) s := hT.ob HP.out.1 hne
  obtain ⟨hlt2, d0, d1, d2, g0, g1, g2⟩ := Tri.cells hq2
  obtain ⟨a', cap', rfl, _, _⟩ := hR.any
  obtain ⟨n', hn'⟩ : ∃ n', n' = (less ps i).length := ⟨_, rfl⟩
  rw [← hn'] at hR hb ⊢
  have hS := HP.out.nb (by decide)
  have hT3 : Tch (Nb p (.slice a ps.length cap)) w (w2.setCell ⟨p, 1, none⟩ (.slice a' n' cap')) := hT2.trans (Tch.set _ _ _ (.inl rfl))
  have hQ3 : Bt (w2.setCell ⟨p, 1, none⟩ (.slice a' n' cap')) B ⟨sa, sn, sc⟩ l := HQ.out.tch hT3 hS
  have HC := hid (cClone hQ3.1 HL.out)
  have hR3 : Rw (w2.setCell ⟨p, 1, none⟩ (.slice a' n' cap')) B (.slice a' n' cap') (less ps i) := hR.tch (S := fun k => k = p) (Tch.set _ _ _ rfl) (fun k hk => by cases hk; exact ⟨HP.out.2.2, not8 hq2 (by decide)⟩) (fun k hk e => hne (by rw [← hb, hk, e]))
  have HN3 : Hid (NetP (w2.setCell ⟨p, 1, none⟩ (.slice a' n' cap')) B p room (.slice a' n' cap') s (less ps i)) := hid ⟨Tri.set1 hq2, hR3, HP.out.2.2⟩
  have HT3 := hid hT3
  have HBb := hid hb
  clear hR hT hb hn' hT2 hne hq2 hS hT3 hQ3 hR3
  go_wp2_with fail
  go_at_call 23
  refine HC.out.mono ?_
  rintro e w4 ⟨r, rfl, hO, hB4⟩
  have HO := hid hO
  have HB4 := hid hB4
  obtain ⟨ga, ca, na, rfl, hna⟩ := hO.asSlice
  clear hO hB4 hna
  go_wp2_with fail
  go_ret2
  refine ⟨_, _, rfl, own_monoB HO.out HT3.out.size, HN3.out.on HB4.out, HT3.out.trans (Tch.ofBelow HB4.out), fun k hk => .inl (HBb.out ▸ hk)⟩

set_option maxHeartbeats 800000 in
set_option maxRecDepth 100000 in
theorem cDouble_no {w : World} {p B : Nat} {room s : Int} {v : Value} {ps : Ps} (h : NetP w B p room v s ps) (i : Int) (hi : i < 0 ∨ (ps.length : Int) ≤ i) : Calls Try.prog 16 #[ptr p, .int .i64 i] w fun e w' => e = .returned (.bool false) ∧ w = w' := by
  have HA := hid (cAt_no h.1 h.2.1 i hi)
  clear h hi
  go_enter Try.func16, Try.ntmps16
  go_wp2_with (go_at_call 14; refine HA.out.mono ?_; rintro e w1 ⟨rfl, rfl⟩)
  go_ret
  exact ⟨rfl, rfl⟩
set_option maxHeartbeats 800000 in
set_option maxRecDepth 100000 in
theorem cDouble_full {w : World} {p B : Nat} {room s : Int} {v : Value} {ps : Ps} (h : NetP w B p room v s ps) (hr : roomB room = true) (hm : (ps.length : Int) = room) (i : Nat) (hi : i < ps.length) : Calls Try.prog 16 #[ptr p, .int .i64 i] w fun e w' => e = .returned (.bool false) ∧ Below w.heap.size w w' := by
  obtain ⟨q, hq⟩ : ∃ q, ps[i]? = some q := ⟨_, List.getElem?_eq_getElem hi⟩
  have HA := hid (cAt_yes h.1 h.2.1 i hq)
  have hL := cLeft h.1 h.2.1 hr (by unfold roomB at hr; simp at hr; omega)
  rw [show room - (ps.length : Int) = 0 by omega] at hL
  have HL := hid hL
  obtain ⟨⟨sa, sn, sc⟩, l⟩ := q
  dsimp only at HA
  clear h hi hq hL hm hr
  go_enter Try.func16, Try.ntmps16
  go_wp2_with fail
  go_at_call 14
  refine HA.out.mono ?_
  rintro e w1 ⟨rfl, rfl⟩
  go_wp2_with fail
  go_at_call 24
  refine HL.out.mono ?_
  rintro e w2 ⟨rfl, hB⟩
  go_wp2_with fail
  go_ret
  exact ⟨rfl, hB⟩
set_option maxHeartbeats 1600000 in
set_option maxRecDepth 100000 in
theorem cDouble_yes {w : World} {p B : Nat} {room s : Int} {v : Value} {ps : Ps} (h : NetP w B p room v s ps) (hB : B ≤ w.heap.size) (hr : roomB room = true) (hm : (ps.length : Int) < room) (i : Nat) {q : Sv × List UInt8} (hi : ps[i]? = some q) :
    Calls Try.prog 16 #[ptr p, .int .i64 i] w fun e w' => ∃ v', e = .returned (.bool true) ∧ NetP w' B p room v' s (ps ++ [q]) ∧ Tch (Nb p v) w w' ∧ Fr w.heap.size v v' := by
  have HA := hid (cAt_yes h.1 h.2.1 i hi)
  have hr2 := hr
  unfold roomB at hr2
  simp at hr2
  have HL := hid (cLeft h.1 h.2.1 hr (by omega))
  have HP := hid h
  have HQ := hid (h.2.1.2 q (List.mem_of_getElem? hi))
  have hz : (room - (ps.length : Int) == 0) = false := by simp; omega
  have hz2 : ¬ room - (ps.length : Int) = 0 := by omega
  have HM : Hid (ps.length ≤ 4096) := hid (by omega)
  have HH := hid hB
  obtain ⟨⟨sa, sn, sc⟩, l⟩ := q
  dsimp only at HA HQ
  obtain ⟨a, cap, e1, hcap, _⟩ := h.2.1.any
  rw [e1] at HP ⊢
  clear h hi hr hr2 hm hB e1 hcap
  go_enter Try.func16, Try.ntmps16
  go_wp2_with fail
  go_at_call 14
  refine HA.out.mono ?_
  rintro e w1 ⟨rfl, rfl⟩
  go_wp2_with fail
  go_at_call 24
  refine HL.out.mono ?_
  rintro e w2 ⟨rfl, hB2⟩
  have hN2 := HP.out.on hB2
  have hb3 : Below w2.heap.size w2 (w2.alloc (.cells #[.slice sa sn sc] 40)) := (Below.refl _ w2).alloc (Nat.le_refl _) _
  have HN3 := hid (hN2.on hb3)
  have HS3 : Hid (Sr (w2.alloc (.cells #[.slice sa sn sc] 40)) B (.slice (some ⟨w2.heap.size, 0, none⟩) 1 1) [(⟨sa, sn, sc⟩, l)]) := hid (Sr.one (HQ.out.on hB2))
  have HB3 := hid (hB2.trans (hb3.mono hB2.size))
  have HZ := hid (show B ≤ w2.heap.size + 1 by have := HH.out; have := hB2.size; omega)
  obtain ⟨hlt, c0, c1, c2, f0, f1, f2⟩ := hN2.1.cells
  clear hN2 hB2 hb3
  go_wp2_with (at_builtin; refine wpList_append_rw rfl _ _ rfl B (.slice a ps.length cap) ps rfl HN3.out.2.1 _ _ rfl HS3.out (by have := HM.out; simp; omega) (by have := HZ.out; simpa using this) ?_; intro v4 w4 hR4 hg4 hf4; have HT4 := hid (Tch.ofGrown (S := Nb p (.slice a ps.length cap)) hg4 (fun k hk => .inr hk)); have hne := Tri.off HN3.out.1 (by decide) HN3.out.2.1; have hq4 := obKept HN3.out.1 hg4 hne; have HQ4 := hid hq4; have HF4 : Hid (Fr w.heap.size (.slice a ps.length cap) v4) := hid (hf4.le HB3.out.size); have HR4 := hid hR4; have HO4 := hid (Tri.off hq4 (by decide) hR4); obtain ⟨hlt4, d0, d1, d2, g0, g1, g2⟩ := Tri.cells hq4; obtain ⟨a4, n4, cap4, rfl, hn4⟩ := hR4.asSlice; clear hR4 hg4 hf4 hne hq4 hn4)
  go_ret
  refine ⟨_, rfl, ⟨Tri.set1 HQ4.out, HR4.out.tch (S := fun k => k = p) (Tch.set _ _ _ rfl) (fun k hk => by cases hk; exact ⟨HN3.out.2.2, not8 HQ4.out (by decide)⟩) (fun k hk e => HO4.out (by rw [hk, e])), HN3.out.2.2⟩, ((Tch.ofBelow HB3.out).trans HT4.out).trans (Tch.set _ _ _ (.inl rfl)), HF4.out⟩
end Go.Proofs.Ytcfkifiejojciaa

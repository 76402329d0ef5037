/- The walk of the law FrameTorn. -/
import Derived.Test.YtpjcjnifklgojaaFTells
import Derived.Deep.CutRange
import Derived.Deep.LoopGhost
namespace Go.Proofs.Ytpjcjnifklgojaa
set_option linter.unusedVariables false
open Go.RowKit
open Go.Lib (hid)

/-- How far the loop has come: of k records' frames, m are whole. -/
def TornAt (ls : List (List UInt8)) (keep : Int) (k m : Nat) : Prop :=
  m ≤ k ∧ (((framesB (ls.take k)).length : Int) ≤ keep → m = k) ∧ (0 ≤ keep → ((framesB (ls.take m)).length : Int) ≤ keep) ∧ (m < k → keep < ((framesB (ls.take (m + 1))).length : Int)) ∧ (keep < 0 → m = 0)
theorem TornAt.start (ls : List (List UInt8)) (keep : Int) : TornAt ls keep 0 0 := by
  refine ⟨Nat.le_refl _, fun _ => rfl, fun h => by simpa [framesB] using h, fun h => absurd h (by omega), fun _ => rfl⟩
theorem frames_more {ls : List (List UInt8)} {k : Nat} {l : List UInt8} (h : ls[k]? = some l) : framesB (ls.take (k + 1)) = framesB (ls.take k) ++ frameB l := by rw [takeN_snoc h, frames_snoc]
theorem frames_rise {ls : List (List UInt8)} {k : Nat} {l : List UInt8} (h : ls[k]? = some l) : (framesB (ls.take (k + 1))).length = (framesB (ls.take k)).length + l.length + 6 := by rw [frames_more h, List.length_append, frame_len]; omega
theorem TornAt.yes {ls : List (List UInt8)} {keep : Int} {k m : Nat} {l : List UInt8} (h : TornAt ls keep k m) (hl : ls[k]? = some l) (hk : ((framesB (ls.take (k + 1))).length : Int) ≤ keep) : TornAt ls keep (k + 1) (k + 1) :=
  ⟨Nat.le_refl _, fun _ => rfl, fun _ => hk, fun h => absurd h (by omega), fun h => by omega⟩
theorem TornAt.no {ls : List (List UInt8)} {keep : Int} {k m : Nat} {l : List UInt8} (h : TornAt ls keep k m) (hl : ls[k]? = some l) (hk : ¬ ((framesB (ls.take (k + 1))).length : Int) ≤ keep) : TornAt ls keep (k + 1) m := by
  obtain ⟨h1, h2, h3, h4, h5⟩ := h
  refine ⟨by omega, fun hh => absurd hh hk, h3, fun hm => ?_, h5⟩
  by_cases hmk : m < k
  · exact h4 hmk
  · obtain rfl : m = k := by omega
    omega
/-- What is told in the end. -/
theorem TornAt.done {ls : List (List UInt8)} {keep : Int} {m : Nat} (hf : FineL ls) (h : TornAt ls keep ls.length m) : 
    (keep < 0 → m = 0) ∧ (0 ≤ keep → keep < ((framesB ls).length : Int) → scanN ((framesB ls).take keep.toNat) = (ls.take m, (framesB (ls.take m)).length)) ∧ (0 ≤ keep → ¬ keep < ((framesB ls).length : Int) → scanN (framesB ls) = (ls.take m, (framesB (ls.take m)).length)) := by
  obtain ⟨h1, h2, h3, h4, h5⟩ := h
  rw [List.take_length] at h2
  refine ⟨h5, fun h0 hlt => ?_, fun h0 hge => ?_⟩
  · have hm : m < ls.length := by
      by_cases hml : m < ls.length
      · exact hml
      · obtain rfl : m = ls.length := by omega
        have := h3 h0
        rw [List.take_length] at this
        omega
    exact torn hf hm (by have := h3 h0; omega) (by have := h4 hm; omega)
  · obtain rfl := h2 (by omega)
    rw [List.take_length]
    exact whole_scan hf
theorem fine_of {ls : List (List UInt8)} (h : ∀ l ∈ ls, 1 ≤ l.length ∧ l.length ≤ 60) : FineL ls := fun l hl => ⟨(h l hl).1, by have := (h l hl).2; omega⟩
theorem frames_short : ∀ (ls : List (List UInt8)), (∀ l ∈ ls, 1 ≤ l.length ∧ l.length ≤ 60) → (framesB ls).length ≤ 66 * ls.length
  | [], _ => by simp [framesB]
  | l :: ls, h => by
    have h1 := frames_short ls (fun x hx => h x (List.mem_cons_of_mem _ hx))
    have h2 := (h l (List.mem_cons_self ..)).2
    rw [frames_cons, List.length_append, frame_len, List.length_cons]; omega
theorem SlL.any {w : World} {v : Value} {ls : List (List UInt8)} (h : SlL w v ls) : ∃ a cap, v = .slice a ls.length cap ∧ ls.length ≤ cap := by
  obtain ⟨b, o, cap, a, ps, _, rfl, hcap, _⟩ := h
  exact ⟨a, cap, rfl, hcap⟩
/-- The first ones. -/
theorem SlL.head {w : World} {a : Option Addr} {cap : Nat} {ls : List (List UInt8)} (h : SlL w (.slice a ls.length cap) ls) {m : Nat} (hm : m ≤ ls.length) : SlL w (.slice a m cap) (ls.take m) := by
  obtain ⟨b, o, cap', a', ps, hps, hv, hcap, ha, hr, hl⟩ := h
  injection hv with e1 e2 e3
  subst e1 e3
  have hlen : (ls.take m).length = m := by rw [List.length_take]; omega
  refine ⟨b, o, cap, a, ps.take m, by rw [List.map_take, hps], by rw [hlen], by omega, fun h0 => ha (by omega), fun j p hj => ?_, fun h0 => hl (by omega)⟩
  have hj2 : j < m := by have := (List.getElem?_eq_some_iff.1 hj).1; rw [List.length_take] at this; omega
  rw [List.getElem?_take, if_pos hj2] at hj
  exact hr j p hj

set_option maxHeartbeats 1600000 in
set_option maxRecDepth 100000 in
theorem wTorn_long {va : Value} {ls : List (List UInt8)} {w : World} (ha : SlL w va ls) (hl : ls.length ≤ 9223372036854775807) (i : Int) (h : 40 < ls.length) : Calls Try.prog 4 #[va, .int .i64 i] w fun e w' => e = .returned (.bool true) ∧ Below w.heap.size w w' := by
  obtain ⟨a, cap, rfl, _⟩ := ha.any
  obtain ⟨n, hn⟩ : ∃ n, n = ls.length := ⟨_, rfl⟩
  rw [← hn] at h hl ⊢
  clear ha hn
  have h2 : (40 : Int) < (n : Int) := by omega
  go_enter Try.func4, Try.ntmps4
  go_wp2_with (go_at_call 6; refine (oAlive _).mono ?_; rintro e w' ⟨rfl, hB⟩)
  go_ret
  exact ⟨rfl, hB⟩

theorem SlB.len' {w : World} {p : Sv} {l : List UInt8} (h : SlB w p.v l) : p.n = l.length := by
  obtain ⟨_, _, cap, a, hv', _⟩ := id h
  injection hv'
theorem SlB.headAny {w : World} {a : Option Addr} {n cap : Nat} {l : List UInt8} (h : SlB w (.slice a n cap) l) {m : Nat} (hm : m ≤ l.length) : SlB w (.slice a m cap) (l.take m) := by
  obtain ⟨b, o, cap', a', hv, hn, hcap, ha, hc, hl⟩ := h
  injection hv with e1 e2 e3
  subst e1 e3
  have hlen : (l.take m).length = m := by rw [List.length_take]; omega
  refine ⟨b, o, cap, a, by rw [hlen], hn, by omega, fun h0 => ha (by omega), fun j x hx => ?_, fun h0 => hl (by omega)⟩
  have hj : j < m := by have := (List.getElem?_eq_some_iff.1 hx).1; omega
  rw [List.getElem?_take, if_pos hj] at hx
  exact hc j x hx
theorem all_more {ls : List (List UInt8)} {k : Nat} {l : List UInt8} (h : ∀ x ∈ ls.take k, 1 ≤ x.length ∧ x.length ≤ 60) (hl : ls[k]? = some l) (h1 : 1 ≤ l.length) (h2 : l.length ≤ 60) : ∀ x ∈ ls.take (k + 1), 1 ≤ x.length ∧ x.length ≤ 60 := by
  rw [takeN_snoc hl]
  intro x hx
  rcases List.mem_append.1 hx with hx | hx
  · exact h x hx
  · obtain rfl := List.mem_singleton.1 hx; exact ⟨h1, h2⟩

set_option maxHeartbeats 3200000 in
set_option maxRecDepth 100000 in
theorem wTorn {va : Value} {ls : List (List UInt8)} {w : World} (ha : SlL w va ls) (hn : ls.length ≤ 40) (hbig : ∀ l ∈ ls, l.length ≤ 9223372036854775807) (keep : Int) (hk0 : -9223372036854775808 ≤ keep) (hk1 : keep ≤ 9223372036854775807) : Calls Try.prog 4 #[va, .int .i64 keep] w fun e w' => e = .returned (.bool true) ∧ Below w.heap.size w w' := by
  have HA := hid ha
  obtain ⟨b, o, cap, a, ps, hps, rfl, hcap, hao, hr, hlb⟩ := ha
  obtain ⟨n, hnn⟩ : ∃ n, n = ls.length := ⟨_, rfl⟩
  rw [← hnn] at hn hcap hao hlb ⊢
  have HN := hid hnn
  have HP := hid hps
  have HR := hid hr
  have HBIG := hid hbig
  have k1 : ¬ (40 : Int) < (n : Int) := by omega
  clear hps hr hnn hbig
  go_enter Try.func4, Try.ntmps4
  go_wp2_with fail
  go_loopw [5, 6, 7, 8] (fun u wh z i wr => ∃ k m : Nat, k ≤ n ∧ m ≤ k ∧ i = .int .i64 k ∧ wh = .int .i64 m ∧ z = .int .i64 ((framesB (ls.take m)).length : Nat) ∧ Hid (TornAt ls keep k m) ∧ Hid (∀ l ∈ ls.take k, 1 ≤ l.length ∧ l.length ≤ 60) ∧ OwnB wr w.heap.size u (framesB (ls.take k)) ∧ Below w.heap.size w wr) (fun _ _ _ i _ => n - (intOf i).toNat)
  case atStart => exact ⟨0, 0, Nat.zero_le _, Nat.le_refl _, rfl, rfl, rfl, hid (TornAt.start _ _), hid (by simp), OwnB.nil _ _, Below.refl _ _⟩
  case round =>
    obtain ⟨k, m, hk, hmk, rfl, rfl, rfl, htorn, hall, hown, hB⟩ := hrel
    have hsz := hB.size
    have HB := hid hB
    have HO := hid hown
    have hshort := frames_short _ hall.out
    rw [List.length_take, Nat.min_eq_left (by have := HN.out; omega)] at hshort
    obtain ⟨out, hout⟩ : ∃ out, out = framesB (ls.take k) := ⟨_, rfl⟩
    rw [← hout] at hown HO hshort
    have HOUT := hid hout
    obtain ⟨z, hz⟩ : ∃ z, z = (framesB (ls.take m)).length := ⟨_, rfl⟩
    rw [← hz]
    have HZ := hid hz
    have HSH := hid hshort
    clear hout hz hshort
    by_cases hlt : k < n
    · have hlt2 : (k : Int) < (n : Int) := by omega
      obtain rfl := hao (by omega)
      obtain ⟨p, hp⟩ : ∃ p, ps[k]? = some p := ⟨ps[k]'(by have := congrArg List.length HP.out; rw [List.length_map] at this; have := HN.out; omega), List.getElem?_eq_getElem (by have := congrArg List.length HP.out; rw [List.length_map] at this; have := HN.out; omega)⟩
      obtain ⟨⟨pa, pn, pc⟩, l⟩ := p
      have hlk : ls[k]? = some l := by rw [← HP.out, List.getElem?_map, hp]; rfl
      have h1 := HR.out k _ hp
      have hbw := hlb (by omega)
      have c0 : wr.cell? ⟨b, o + k, none⟩ = some (.slice pa pn pc) := (hB.cell (p := ⟨b, o + k, none⟩) hbw).trans h1.1
      have hpn : pn = l.length := h1.2.len'
      have HE := hid (h1.2.on HB.out)
      have hpb : pn ≤ 9223372036854775807 := by rw [hpn]; exact HBIG.out l (List.mem_of_getElem? hlk)
      have HPN := hid hpn
      have HLK := hid hlk
      clear hp h1 hpn hlk hB
      by_cases hs1 : pn < 1
      · have k2 : (pn : Int) < 1 := by omega
        have HBW := HB.out.size
        clear hown
        go_wp2_with fail
        go_at_call 6
        refine (oAlive _).mono ?_
        rintro e w' ⟨rfl, hB2⟩
        go_wp2_with fail
        go_ret
        exact ⟨rfl, HB.out.trans (hB2.mono HB.out.size)⟩
      · have k2 : ¬ (pn : Int) < 1 := by omega
        have k3 : decide ((pn : Int) < 1) = false := decide_eq_false k2
        by_cases hs2 : 60 < pn
        · have k4 : (60 : Int) < (pn : Int) := by omega
          have k5 : decide ((60 : Int) < (pn : Int)) = true := decide_eq_true k4
          clear hown
          go_wp2_with fail
          go_at_call 6
          refine (oAlive _).mono ?_
          rintro e w' ⟨rfl, hB2⟩
          go_wp2_with fail
          go_ret
          exact ⟨rfl, HB.out.trans (hB2.mono HB.out.size)⟩
        · have k4 : ¬ (60 : Int) < (pn : Int) := by omega
          have k5 : decide ((60 : Int) < (pn : Int)) = false := decide_eq_false k4
          go_wp2_with fail
          go_at_call 7
          refine (cWrap_yes HE.out (by have := HPN.out; omega) (by have := HPN.out; omega)).mono ?_
          rintro e w1 ⟨r1, rfl, ho1, hB1⟩
          obtain ⟨g1, c1, rfl⟩ := ho1.some (fun e => by have := congrArg List.length e; rw [frame_len] at this; simp at this)
          have HS1 := hid ho1.slb
          have hfl : (frameB l).length = pn + 6 := by rw [frame_len, ← HPN.out]
          rw [hfl] at HS1 ⊢
          have HB1 := hid (HB.out.trans (hB1.mono hsz))
          have HO1 := hid (own_below HO.out hB1 (fun k hk => (HO.out.lt k hk).2))
          obtain ⟨gl, cl, nl, rfl, hnl⟩ := hown.asSlice
          have HFL := hid hfl
          have hsz1 := HB1.out.size
          clear hfl ho1 hB1 hown hnl c0
          have hrise := frames_rise HLK.out
          rw [← HOUT.out, ← HPN.out] at hrise
          have hmore := frames_more HLK.out
          rw [← HOUT.out] at hmore
          obtain ⟨L, hL⟩ : ∃ L, L = (framesB (ls.take (k + 1))).length := ⟨_, rfl⟩
          rw [← hL] at hrise
          have HLL := hid hL
          have HMORE := hid hmore
          have hLb : L ≤ 3000 := by have := HSH.out; omega
          have hL0 : L ≠ 0 := by omega
          have hall2 := hid (all_more hall.out HLK.out (by have := HPN.out; omega) (by have := HPN.out; omega))
          have HBW := HB1.out.size
          have tok : Hid (0 = 0) := hid rfl
          clear hL hrise hmore
          by_cases hkeep : (L : Int) ≤ keep
          all_goals (
            go_upto_region 14 with fail
            go_wp2_with (first
              | (clear tok; at_builtin; refine wpList_append_slb rfl _ _ rfl w.heap.size _ out rfl HO1.out _ (frameB l) rfl HS1.out (by rw [HFL.out]; have := HSH.out; omega) hsz1 ?_; intro v5 w5 ho5 hg5; rw [← HMORE.out] at ho5; have HB5 := hid (HB1.out.grown hg5 hsz1 (fun k hk => (HO1.out.lt k hk).1)); obtain ⟨g5, c5, rfl⟩ := ho5.some (fun e => by have := congrArg List.length e; rw [← HLL.out] at this; simp at this; omega); have HO5 := hid ho5; rw [← HLL.out] at HO5 ⊢; clear ho5 hg5)
              | fail)
            go_roundw)
          case rel => exact ⟨k + 1, k + 1, by omega, Nat.le_refl _, by go_num, by go_num, by rw [HLL.out], hid (htorn.out.yes HLK.out (by rw [← HLL.out]; exact hkeep)), hall2, by have h := HO5.out; unfold OwnB at h ⊢; rw [← HLL.out] at h ⊢; exact h, HB5.out⟩
          case measure => simp [RowKit.intOf]; omega
          case rel => exact ⟨k + 1, m, by omega, by omega, by go_num, rfl, by rw [HZ.out], hid (htorn.out.no HLK.out (by rw [← HLL.out]; omega)), hall2, by have h := HO5.out; unfold OwnB at h ⊢; rw [← HLL.out] at h ⊢; exact h, HB5.out⟩
          case measure => simp [RowKit.intOf]; omega
    · obtain rfl : k = n := by omega
      have hlt2 : ¬ (k : Int) < (k : Int) := by omega
      have htake : ls.take k = ls := List.take_of_length_le (by have := HN.out; omega)
      have hall2 := hall.out
      rw [htake] at hall2
      have hout2 : out = framesB ls := by rw [HOUT.out, htake]
      have hd := TornAt.done (fine_of hall2) (by have := htorn.out; rw [HN.out] at this; exact this)
      rw [← hout2, ← HZ.out] at hd
      have HD := hid hd
      obtain ⟨gl, cl, nl, rfl, hnl⟩ := hown.asSlice
      have HNL := hid hnl
      have hnlb : nl ≤ 3000 := by have := HSH.out; omega
      have hml : m ≤ ls.length := by have := HN.out; omega
      have hHead := (HA.out.head hml : SlL w (.slice a m cap) (ls.take m))
      have HHEAD := hid hHead
      have hmcap : (m : Int) ≤ (cap : Int) := by omega
      have hml2 : (ls.take m).length ≤ 1000000 := by rw [List.length_take]; omega
      have HML := hid hml2
      have HBW := HB.out.size
      have hmk2 : (m : Int) ≤ (k : Int) := by omega
      clear hd hout2 hall2 htake hown hnl hHead hml2
      by_cases hneg : keep < 0
      · have k2 : decide (0 ≤ keep) = false := decide_eq_false (by omega)
        have k3 : decide (keep < 0) = true := decide_eq_true hneg
        go_wp2_with fail
        go_at_call 9
        refine (cScan (SlB.nil _) (by simp)).mono ?_
        rintro e w3 ⟨r3, qs, rfl, ho3, hm3, hB3⟩
        rw [scan_nil] at hm3 ⊢
        have HB3 := hid (HB.out.trans (hB3.mono HB.out.size))
        have HL3 := hid ho3.sl
        rw [hm3, show ([] : List (List UInt8)) = ls.take 0 from rfl] at HL3
        obtain ⟨g3, c3, n3, rfl, hn3⟩ := ho3.asSlice
        clear ho3 hB3 hn3 hm3
        go_wp2_with fail
        go_at_call 11
        refine (rSame HL3.out ((HA.out.head (m := 0) (Nat.zero_le _)).on HB3.out) (by simp) (by simp)).mono ?_
        rintro e w5 ⟨rfl, hB5⟩
        rw [beq_self_eq_true]
        have HB5 := hid (HB3.out.trans (hB5.mono HB3.out.size))
        clear hB5
        go_wp2_with fail
        go_at_call 6
        refine (oAlive _).mono ?_
        rintro e w6 ⟨rfl, hB6⟩
        go_wp2_with fail
        go_ret
        exact ⟨rfl, HB5.out.trans (hB6.mono HB5.out.size)⟩
      · obtain ⟨q, rfl⟩ : ∃ q : Nat, keep = q := ⟨keep.toNat, by omega⟩
        have k2 : decide (0 ≤ (q : Int)) = true := decide_eq_true (by omega)
        have k3 : decide ((q : Int) < 0) = false := decide_eq_false (by omega)
        by_cases hq : (q : Int) < (nl : Int)
        · have hqn : q < out.length := by have := HNL.out; omega
          have hscan := HD.out.2.1 (by omega) (by omega)
          rw [Int.toNat_natCast] at hscan
          have hcut := hid (HO.out.slb.headAny (m := q) (by omega))
          have hqcl : (q : Int) ≤ (cl : Int) := by
            obtain ⟨_, _, cap2, a2, hv, _, h2, _⟩ := HO.out.slb
            injection hv with _ _ h3
            omega
          have hcl : (out.take q).length ≤ 1000000 := by rw [List.length_take]; omega
          have HSC := hid hscan
          have HCL := hid hcl
          have hq0 : (0 : Int) ≤ (q : Int) := by omega
          clear hscan hcl hqn
          go_wp2_with fail
          go_at_call 9
          refine (cScan hcut.out HCL.out).mono ?_
          rintro e w3 ⟨r3, qs, rfl, ho3, hm3, hB3⟩
          rw [HSC.out] at hm3 ⊢
          have HB3 := hid (HB.out.trans (hB3.mono HB.out.size))
          have HL3 := hid ho3.sl
          rw [hm3] at HL3
          obtain ⟨g3, c3, n3, rfl, hn3⟩ := ho3.asSlice
          clear ho3 hB3 hn3 hm3
          go_wp2_with fail
          go_at_call 11
          refine (rSame HL3.out (HHEAD.out.on HB3.out) HML.out HML.out).mono ?_
          rintro e w5 ⟨rfl, hB5⟩
          rw [beq_self_eq_true]
          have HB5 := hid (HB3.out.trans (hB5.mono HB3.out.size))
          clear hB5
          go_wp2_with fail
          go_at_call 6
          refine (oAlive _).mono ?_
          rintro e w6 ⟨rfl, hB6⟩
          go_wp2_with fail
          go_ret
          exact ⟨rfl, HB5.out.trans (hB6.mono HB5.out.size)⟩
        · have hscan := HD.out.2.2 (by omega) (by have := HNL.out; omega)
          have HSC := hid hscan
          have HCL := hid (show out.length ≤ 1000000 by have := HNL.out; omega)
          have hq0 : (0 : Int) ≤ (q : Int) := by omega
          clear hscan
          go_wp2_with fail
          go_at_call 9
          refine (cScan HO.out.slb HCL.out).mono ?_
          rintro e w3 ⟨r3, qs, rfl, ho3, hm3, hB3⟩
          rw [HSC.out] at hm3 ⊢
          have HB3 := hid (HB.out.trans (hB3.mono HB.out.size))
          have HL3 := hid ho3.sl
          rw [hm3] at HL3
          obtain ⟨g3, c3, n3, rfl, hn3⟩ := ho3.asSlice
          clear ho3 hB3 hn3 hm3
          go_wp2_with fail
          go_at_call 11
          refine (rSame HL3.out (HHEAD.out.on HB3.out) HML.out HML.out).mono ?_
          rintro e w5 ⟨rfl, hB5⟩
          rw [beq_self_eq_true]
          have HB5 := hid (HB3.out.trans (hB5.mono HB3.out.size))
          clear hB5
          go_wp2_with fail
          go_at_call 6
          refine (oAlive _).mono ?_
          rintro e w6 ⟨rfl, hB6⟩
          go_wp2_with fail
          go_ret
          exact ⟨rfl, HB5.out.trans (hB6.mono HB5.out.size)⟩
end Go.Proofs.Ytpjcjnifklgojaa

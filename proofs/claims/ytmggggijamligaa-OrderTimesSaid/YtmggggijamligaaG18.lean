import Derived.Test.YtmggggijamligaaYTimMZm
import Derived.Test.YtmggggijamligaaG16
import Derived.Test.YtmggggijamligaaG00
import Derived.Lib.SmallJoins
import Derived.Carry
import Derived.Handed
import Derived.OpenShut
import Derived.Deep.Slices
import Derived.Deep.Fields
import Derived.ChangeSame
import Derived.Test.YtmggggijamligaaG01
import Derived.ChangeSlices
namespace Go.Proofs.Ytmggggijamligaa
set_option linter.unusedVariables false
open Go.RowKit
open Go.Lib (hid)
theorem Own.cut {w : World} {B m : Nat} {v : Value} {cs : List C7} (h : Own w B v cs) (hm : m ≤ cs.length) : ∃ (g : Option Addr) (n cap : Nat), v = .slice g n cap ∧ n = cs.length ∧ n ≤ cap ∧ Sl w (.slice g m cap) (cs.take m) := by
  have hl : (cs.take m).length = m := by rw [List.length_take]; omega
  have hcl := fun g (hg : v.ownBlock = some g) => h.cells hg
  have hlt := h.lt
  rcases h.2 with ⟨rfl, h0⟩ | ⟨g, cap, cur, rfl, hb, hg, hn, hmx, hs, ht⟩
  · have : cs = [] := List.length_eq_zero_iff.1 h0
    subst this
    have : m = 0 := by simpa using hm
    subst this
    exact ⟨none, 0, 0, rfl, rfl, Nat.le_refl _, (Own.nil w 0).sl⟩
  · refine ⟨_, _, cap, rfl, rfl, hn, ⟨g, 0, cap, _, by rw [hl], fun e => (by cases e), fun _ => rfl, fun j c hc f u hu => ?_, fun _ => (hlt g rfl).2⟩⟩
    have hjm : cs[j]? = some c := by
      rw [List.getElem?_take] at hc
      split at hc
      · exact hc
      · cases hc
    have := hcl g rfl _ _ (flat_at cs j c hjm f u hu)
    rw [addr_add] at this
    rw [Nat.zero_add]; exact this
theorem good_wf {n : Nat} {S : Nat → Int} {T : Nat → Nat} {l : List En} {ix : List Nat} (hn : n ≤ 100000) (h : GoodT n S T l ix) : WfA l [] := by
  refine ⟨fun y hy => ?_, fun x hx => by simp at hx⟩
  obtain ⟨j, hj⟩ := List.getElem?_of_mem hy
  obtain ⟨i, _, _, hi, ho⟩ := h.get hj
  have key : ∀ k, k < n → wfI (cmdT S k).i := fun k hk => wfI_of (by
    show -9223372036854775808 ≤ 16 * ((k : Int) + 1) ∧ 16 * ((k : Int) + 1) ≤ 9223372036854775807
    omega)
  refine ⟨by rw [ho.id]; exact key i hi, fun c hc => ?_⟩
  obtain ⟨k, hk, _, _, rfl⟩ := ho.sub c hc
  exact key k hk
theorem toldS_get {n : Nat} {S : Nat → Int} {T : Nat → Nat} {l : List En} {ix : List Nat} (h : GoodT n S T l ix) {s : Int} {k : Nat} (hk : k < (ofS s (allF l [])).length) : ∃ p, (toldS S l s)[k]? = some p ∧ p < n ∧ (ofS s (allF l []))[k]? = some (cmdT S p) := by
  rw [toldS_map h, List.length_map] at hk
  refine ⟨(toldS S l s)[k], List.getElem?_eq_getElem hk, toldS_lt h s _ (List.getElem_mem hk), ?_⟩
  rw [toldS_map h, List.getElem?_map, List.getElem?_eq_getElem hk]; rfl
theorem toldS_next {n : Nat} {S : Nat → Int} {T : Nat → Nat} (hT : ∀ i k, i < n → k < n → T i = T k → i = k) {l : List En} {ix : List Nat} (h : GoodT n S T l ix) {s : Int} {j k p q : Nat} (hjk : j < k) (hp : (toldS S l s)[j]? = some p) (hq : (toldS S l s)[k]? = some q) : T p < T q := by
  have h1 := List.pairwise_iff_getElem.1 (toldS_rise hT h s) j k (List.getElem?_eq_some_iff.1 hp).1 (List.getElem?_eq_some_iff.1 hq).1 hjk
  rw [(List.getElem?_eq_some_iff.1 hp).2, (List.getElem?_eq_some_iff.1 hq).2] at h1
  exact h1
set_option maxHeartbeats 8000000 in
set_option maxRecDepth 100000 in
theorem cTimes (hAL : AllOK) (hWA : WaitsOK) (hLV : AliveOK) {v : Value} {its : List It} {w : World} (h : SlIt w v its) (hI : ∀ x ∈ its, x.ok) (hl : its.length ≤ 9223372036854775807) (more : Nat) (hm : more < 18446744073709551616) (bits : Nat) (hbi : bits < 4294967296) : Calls Try.prog 4 #[v, .int .u64 (more : Int), .int .u32 (bits : Int)] w fun e w' => e = .returned (.bool true) ∧ Below w.heap.size w w' := by
  have HSI := hid h
  have HOK := hid hI
  obtain ⟨b, o, cap, a, rfl, ha, hc, hb⟩ := h
  have HCC := hid hc
  have HLV : Hid AliveOK := hid hLV
  have HAL : Hid AllOK := hid hAL
  have HWA : Hid WaitsOK := hid hWA
  obtain ⟨n, hn⟩ : ∃ n, n = its.length := ⟨_, rfl⟩
  rw [← hn] at ha hb hl HSI ⊢
  have HN := hid hn
  have HM := hid hm
  clear hn hI hc hLV hAL hWA hm
  go_enter Try.func4, Try.ntmps4
  by_cases hn30 : n ≤ 30
  rotate_left
  · have hn1 : ((30 : Int) < n) := by omega
    have hlv := HLV.out w
    go_wp2_with (first
      | (go_at_call 6; refine hlv.mono ?_; clear hlv; rintro e w2 ⟨rfl, hB2⟩; have HB2 := hid hB2; clear hB2)
      | fail)
    go_ret
    exact ⟨rfl, HB2.out⟩
  have hn1 : ¬ ((30 : Int) < n) := by omega
  go_wp2_with fail
  go_loopg [7] n (fun gg s7 wr => ∃ (i : Nat), i ≤ n ∧ gg = n - i ∧ s7 = .int .i64 i ∧ Hid (∀ x y, x < i → y < x → timT its x ≠ timT its y) ∧ Hid (Below w.heap.size w wr))
  case atStart => exact ⟨0, Nat.zero_le _, rfl, rfl, hid (fun x y h => absurd h (by omega)), hid (Below.refl _ _)⟩
  case round =>
    obtain ⟨i, hi, rfl, rfl, HDI, HB⟩ := hrel
    by_cases hit : i < n
    · have hiti : ((i : Int) < n) := by omega
      obtain rfl := ha (by omega)
      have hbw := hb (by omega)
      obtain ⟨y, hy⟩ : ∃ x, its[i]? = some x := ⟨its[i]'(by rw [← HN.out]; exact hit), List.getElem?_eq_getElem (by rw [← HN.out]; exact hit)⟩
      obtain ⟨yt, hyt⟩ : ∃ z, z = y.t := ⟨_, rfl⟩
      have HYT : Hid (timT its i = yt) := hid (by rw [timT_at hy, hyt])
      have HY1 : Hid (∀ W, Below w.heap.size w W → W.cell? ⟨b, o + i * 2 + 1, none⟩ = some (.int .u16 (yt : Int))) := hid (fun W hW => (hW.cell hbw).trans (by rw [hyt]; exact HCC.out i y hy 1 _ rfl))
      rename World => wi
      clear hy hyt
      go_wp2_with fail
      go_loopw [8] (fun s8 wr => ∃ (k : Nat), k ≤ i ∧ s8 = .int .i64 k ∧ Hid (∀ y, y < k → timT its i ≠ timT its y) ∧ Hid (Below w.heap.size w wr)) (fun s8 _ => i - (RowKit.intOf s8).toNat)
      case atStart => exact ⟨0, Nat.zero_le _, rfl, hid (fun y h => absurd h (by omega)), HB⟩
      case round =>
        obtain ⟨k, hk, rfl, HDK, HBK⟩ := hrel
        by_cases hkt : k < i
        · have hkti : ((k : Int) < i) := by omega
          have hkn : ((k : Int) < n) := by omega
          obtain ⟨x, hx⟩ : ∃ x, its[k]? = some x := ⟨its[k]'(by rw [← HN.out]; omega), List.getElem?_eq_getElem (by rw [← HN.out]; omega)⟩
          obtain ⟨xt, hxt⟩ : ∃ z, z = x.t := ⟨_, rfl⟩
          have HXT : Hid (timT its k = xt) := hid (by rw [timT_at hx, hxt])
          have d1 : wr.cell? ⟨b, o + k * 2 + 1, none⟩ = some (.int .u16 (xt : Int)) := (HBK.out.cell hbw).trans (by rw [hxt]; exact HCC.out k x hx 1 _ rfl)
          have e1 : wr.cell? ⟨b, o + i * 2 + 1, none⟩ = some (.int .u16 (yt : Int)) := HY1.out wr HBK.out
          clear hx hxt
          by_cases heq : yt = xt
          · have hq1 : ((yt : Int) == (xt : Int)) = true := by simp [heq]
            have hq2 : (yt == xt) = true := by simp [heq]
            have hq3 : decide ((yt : Int) = (xt : Int)) = true := by simp [heq]
            have hq4 : decide (yt = xt) = true := by simp [heq]
            clear heq
            go_wp2_with fail
            go_quiet (fail)
            have hlv := HLV.out (wr.drewN nq)
            have HBX : Hid (Below w.heap.size w (wr.drewN nq)) := hid (Below.drewN' HBK.out _)
            generalize wr.drewN nq = wx at hlv HBX ⊢
            go_wp2_with (first
              | (go_at_call 6; refine hlv.mono ?_; clear hlv; rintro e w2 ⟨rfl, hB2⟩; have HB2 := hid (HBX.out.trans (hB2.mono HBX.out.size)); clear hB2)
              | fail)
            go_ret
            exact ⟨rfl, HB2.out⟩
          · have hq0 : ¬ ((yt : Int) = (xt : Int)) := by omega
            have hq1 : ((yt : Int) == (xt : Int)) = false := by simpa using hq0
            have hq2 : (yt == xt) = false := by simpa using heq
            have hq3 : decide ((yt : Int) = (xt : Int)) = false := decide_eq_false hq0
            have hq4 : decide (yt = xt) = false := decide_eq_false heq
            have HNE := hid heq
            clear heq hq0
            go_wp2_with fail
            go_quiet (fail)
            go_wp2_with fail
            go_roundw
            case rel => exact ⟨k + 1, by omega, by go_num, hid (fun y hy => by
              by_cases e : y = k
              · subst e; rw [HYT.out, HXT.out]; exact HNE.out
              · exact HDK.out y (by omega)), hid (Below.drewN' HBK.out _)⟩
            case measure => first | omega | (simp [RowKit.intOf]; omega)
        · have hkti : ¬ ((k : Int) < i) := by omega
          obtain rfl : i = k := by omega
          go_wp2_with fail
          go_roundg (n - (i + 1))
          case measure => omega
          case rel => exact ⟨i + 1, by omega, rfl, by go_num, hid (fun x y hx hy => by
            by_cases e : x = i
            · subst e; exact HDK.out y hy
            · exact HDI.out x y (by omega) hy), HBK⟩
    · have hiti : ¬ ((i : Int) < n) := by omega
      obtain rfl : n = i := by omega
      have HT : Hid (∀ x y, x < n → y < n → timT its x = timT its y → x = y) := hid (by have := HDI.out; rw [HN.out] at this ⊢; exact timT_inj this)
      have hen : Calls Try.prog 16 #[.slice a n cap, .int .u64 (more : Int)] wr (EntP its wr) := by
        have h1 : SlIt wr (.slice a n cap) its := SlG.on HSI.out HB.out
        exact cEntries h1 HOK.out (by rw [← HN.out]; exact hn30) more HM.out
      clear HDI hit hiti hi
      rename World => w1
      go_upto_region 12 with (first
        | (go_at_call 16; refine hen.mono ?_; clear hen; rintro e w2 ⟨re, l, rfl, hE, hK, hP, hB2⟩)
        | fail)
      have HB2 := hid (HB.out.trans (hB2.mono HB.out.size))
      have HE := hid hE
      have HK := hid hK
      have HP : Hid (PartT n (symT its) (timT its) n l) := hid (by rw [HN.out]; exact hP)
      have HG : Hid (GoodT n (symT its) (timT its) l (List.range n)) := hid HP.out.good
      have HSH : Hid (∀ y ∈ l, y.short 100) := hid (fun y hy => by
        obtain ⟨j, hj⟩ := List.getElem?_of_mem hy
        exact (HP.out.ok j y hj).2)
      have HAT : Hid (AllAt w2 l) := hid (fun y hy => (HK.out y hy).at)
      have HLN : Hid (l.length = n) := hid HP.out.len
      have hA1 := HAL.out (OwnG.slG kE HE.out) HAT.out HSH.out (by rw [HLN.out]; omega) (slS_nil w2) (by decide) (good_wf (by omega) HG.out)
      obtain ⟨all, hall⟩ : ∃ z, z = allF l [] := ⟨_, rfl⟩
      have HALL := hid hall
      rw [← hall] at hA1
      have HAN : Hid (all.length = n) := hid (by rw [hall]; exact told_len HT.out HG.out)
      obtain ⟨ge, ce, ne, rfl, hne⟩ := hE.asSlice
      obtain rfl : n = ne := by rw [hne, List.length_map, HLN.out]
      clear hE hK hP hB2 hall hne
      go_upto_region 13 with (first
        | (go_at_call 11; refine hA1.mono ?_; clear hA1; rintro e w3 ⟨ra, rfl, ho3, hB3⟩)
        | fail)
      have HE3 := hid (OwnG.on HE.out hB3)
      have HK3 : Hid (∀ x ∈ l, KeepT w3 w1.heap.size x) := hid (fun x hx => (HK.out x hx).on hB3)
      have HO3 := hid ho3
      have HB3 := hid (HB2.out.trans (hB3.mono HB2.out.size))
      obtain ⟨gr, nr, cr, rfl, hnr⟩ := ho3.asS
      obtain rfl : n = nr := by rw [hnr, HAN.out]
      clear ho3 hB3 hnr HE HK HAT
      go_wp2_with fail
      go_loopw [11, 12] (fun s11 s12 wr => ∃ (k : Nat) (lp : List En) (ix : List Nat), k ≤ n ∧ s12 = .int .i64 k ∧ Hid (OwnE wr w3.heap.size s11 (evs lp)) ∧ Hid (PickT l k lp ix) ∧ Hid (Below w3.heap.size w3 wr)) (fun _ s12 _ => n - (RowKit.intOf s12).toNat)
      case atStart => exact ⟨0, [], [], Nat.zero_le _, rfl, hid (OwnG.nil _ _ _ _ _), hid (PickT.none _), hid (Below.refl _ _)⟩
      case round =>
        obtain ⟨k, lp, ix, hk, rfl, HPO, HPK, HBQ⟩ := hrel
        obtain ⟨gp, cp, np, rfl, -⟩ := HPO.out.asSlice
        by_cases hkt : k < n
        · have hkti : ((k : Int) < n) := by omega
          obtain ⟨x, hx⟩ : ∃ x, l[k]? = some x := ⟨l[k]'(by rw [HLN.out]; exact hkt), List.getElem?_eq_getElem (by rw [HLN.out]; exact hkt)⟩
          obtain ⟨b3, o3, c3, a3, e3, ha3, hc3, hb3⟩ := OwnG.slG kE HE3.out
          injection e3 with e4 e5 e6
          have ha4 := ha3 (by rw [List.length_map, HLN.out]; omega)
          obtain rfl := e4.trans ha4
          have HCX : Hid (wr.rangeAt b3 (o3 + k * 19) x.e.list) := hid (fun j u hu => (HBQ.out.cell (p := ⟨b3, _, none⟩) (hb3 (by rw [List.length_map, HLN.out]; omega))).trans (hc3 k x.e (at_evs hx) j u hu))
          have HX := hid hx
          have HPL : Hid ((evs lp).length ≤ 100000) := hid (by have := HPK.out.len_le; rw [List.length_map]; omega)
          clear hx ha4 ha3 hc3 hb3 e4 e5 e6
          go_upto_region 18 with fail
          · go_wp2_with (first
              | ((with_reducible refine loadEl (T := 55) (x := ?lx1) (b := ?lb1) (o := ?lo1) uE iE x.e ?lg1 ?lp1 ?lxx1 ?lc1 ?_); (case lg1 => rfl); (case lp1 => rfl); (case lxx1 => rfl); (case lc1 => exact HCX.out))
              | ((with_reducible refine wpList_bsE (x := ?bx2) x.e ?bg2 ?bo2 ?bv2 ?_); (case bg2 => rfl); (case bo2 => rfl); (case bv2 => rfl); intro W2 hN hB2; have HN2 := hid hN; have HO2 := hid (OwnG.on HPO.out hB2); have HB5 := hid (HBQ.out.trans (hB2.mono HBQ.out.size)); have hs2 := HB5.out.size; clear hN hB2)
              | (at_builtin; ((with_reducible refine wpList_apE (s := ?as3) (x := ?ax3) (es := evs lp) (B := w3.heap.size) (q := wr.heap.size) x.e ?ag3 ?ao3 ?av3 ?aw3 HO2.out HN2.out HPL.out hs2 ?_); (case ag3 => rfl); (case ao3 => rfl); (case av3 => rfl); (case aw3 => rfl); intro v6 w6 hO6 hg; have HO6 := hid hO6; have HB6 := hid (HB5.out.grown hg hs2 (fun j hj => (HO2.out.lt j hj).1)); clear hO6 hg))
              | fail)
            go_roundw
            case rel => exact ⟨k + 1, lp ++ [x], ix ++ [k], by omega, by go_num, hid (by rw [show evs (lp ++ [x]) = evs lp ++ [x.e] from List.map_append]; exact HO6.out), hid (HPK.out.take HX.out), HB6⟩
            case measure => first | omega | (simp [RowKit.intOf]; omega)
          · go_roundw
            case rel => exact ⟨k + 1, lp, ix, by omega, by go_num, HPO, hid HPK.out.keep, HBQ⟩
            case measure => first | omega | (simp [RowKit.intOf]; omega)
        · have hkti : ¬ ((k : Int) < n) := by omega
          obtain rfl : n = k := by omega
          rename World => w4
          have HB4 := hid (HB3.out.trans (HBQ.out.mono HB3.out.size))
          have HGP : Hid (GoodT n (symT its) (timT its) lp ix) := hid (HPK.out.good HG.out)
          have HAP : Hid (AllAt w4 lp) := hid (fun y hy => (((HK3.out y (HPK.out.mem y hy)).on HBQ.out)).at)
          have hA2 := HAL.out (OwnG.slG kE HPO.out) HAP.out (fun y hy => HSH.out y (HPK.out.mem y hy)) (by have := HPK.out.len_le; omega) (slS_nil w4) (by decide) (good_wf (by omega) HGP.out)
          obtain ⟨few, hfew⟩ : ∃ z, z = allF lp [] := ⟨_, rfl⟩
          have HFEW := hid hfew
          rw [← hfew] at hA2
          have HE4 := hid (OwnG.on HE3.out HBQ.out)
          have HO4 := hid (HO3.out.onB HBQ.out)
          have HK4 : Hid (∀ x ∈ l, KeepT w4 w1.heap.size x) := hid (fun x hx => (HK3.out x hx).on HBQ.out)
          clear hfew hkti hk
          go_upto_region 20 with (first
            | (go_at_call 11; refine hA2.mono ?_; clear hA2; rintro e w5 ⟨rf, rfl, ho5, hB5⟩)
            | fail)
          have HE5 := hid (OwnG.on HE4.out hB5)
          have HK5 : Hid (∀ x ∈ l, KeepT w5 w1.heap.size x) := hid (fun x hx => (HK4.out x hx).on hB5)
          have HO5 := hid (HO4.out.onB hB5)
          have HF5 := hid ho5
          have HB5 := hid (HB4.out.trans (hB5.mono HB4.out.size))
          obtain ⟨gf, nf, cf, rfl, -⟩ := ho5.asS
          clear ho5 hB5
          have hW1 := HWA.out (OwnG.slG kE HE5.out) (fun y hy => (HK5.out y hy).at) HSH.out (by rw [HLN.out]; omega) (slS_nil w5) (by decide) (good_wf (by omega) HG.out)
          skip
          rw [none_waits HT.out HG.out] at hW1
          have hnn : ((n : Int) == (n : Int)) = true := by simp
          go_upto_region 22 with (first
            | (go_at_call 14; refine hW1.mono ?_; clear hW1; rintro e w6 ⟨rw6, rfl, ho6, hB6⟩; obtain ⟨g6, c6, n6, rfl, hn6⟩ := OwnI.asSlice ho6; obtain rfl : n6 = 0 := hn6; have HO6 := hid (HO5.out.onB hB6); have HF6 := hid (HF5.out.onB hB6); have HB6 := hid (HB5.out.trans (hB6.mono HB5.out.size)); clear ho6 hB6)
            | fail)
          go_wp2_with fail
          go_loopg [14] 4 (fun gg s14 wr => ∃ (s : Nat), s ≤ 4 ∧ gg = 4 - s ∧ s14 = .int .i64 s ∧ Hid (Below w6.heap.size w6 wr))
          case atStart => exact ⟨0, by omega, rfl, rfl, hid (Below.refl _ _)⟩
          case round =>
            obtain ⟨s, hs, rfl, rfl, HBS⟩ := hrel
            have HBW := hid (HB6.out.trans (HBS.out.mono HB6.out.size))
            by_cases hs4 : s < 4
            · have hs4i : ((s : Int) < 4) := by omega
              obtain ⟨X, hX⟩ : ∃ z, z = ofS (s : Int) all := ⟨_, rfl⟩
              obtain ⟨Y, hY⟩ : ∃ z, z = ofS (s : Int) few := ⟨_, rfl⟩
              have HXY : Hid (Y.length ≤ X.length ∧ X.take Y.length = Y) := hid (by rw [hX, hY, HALL.out, HFEW.out]; exact few_begins HT.out HG.out HGP.out s)
              have HXL : Hid (X = ofS (s : Int) (allF l [])) := hid (by rw [hX, HALL.out])
              have HXN : Hid (X.length ≤ 1000) := hid (by rw [hX]; have := List.length_filter_le (fun c : C7 => decide (c.s = (s : Int))) all; have := HAN.out; unfold ofS; omega)
              have hof1 := cOfS (HO6.out.onB HBS.out).sl (by rw [HAN.out]; omega) (s : Int)
              rw [← hX] at hof1
              have HFN : Hid (few.length ≤ 1000) := hid (by rw [HFEW.out]; have := allF_le lp []; have := HPK.out.len_le; omega)
              have hof2 : ∀ W, Below wr.heap.size wr W → Calls Try.prog 17 #[.slice gf nf cf, .int .i64 s] W fun e w' => ∃ r, e = .returned r ∧ Own w' W.heap.size r Y ∧ Below W.heap.size W w' := fun W hW => by rw [hY]; exact cOfS ((HF6.out.onB HBS.out).onB hW).sl HFN.out (s : Int)
              have HOF2 := hid hof2
              clear hX hY hof2
              rename World => wo
              go_upto_region 26 with (first
                | (go_at_call 17; refine hof1.mono ?_; clear hof1; rintro e w7 ⟨rx, rfl, hx7, hB7⟩)
                | fail)
              have HB7 := hid hB7
              have HX7 := hid hx7
              obtain ⟨gx, nx, cx, rfl, hnx, hcx, -⟩ := hx7.cut (m := 0) (Nat.zero_le _)
              have HNX := hid hnx
              clear hx7 hB7 hnx
              have hof3 := HOF2.out w7 HB7.out
              go_upto_region 27 with (first
                | (go_at_call 17; refine hof3.mono ?_; clear hof3; rintro e w8 ⟨ry, rfl, hy8, hB8⟩)
                | fail)
              have HX8 := hid (HX7.out.onB hB8)
              have HY8 := hid hy8
              have HB8 := hid (HB7.out.trans (hB8.mono HB7.out.size))
              obtain ⟨gy, ny, cy, rfl, hny⟩ := hy8.asS
              have hyx : ny ≤ nx := by rw [hny, HNX.out]; exact HXY.out.1
              have hyxi : ¬ ((nx : Int) < ny) := by omega
              have hycx : ((ny : Int) ≤ cx) := by omega
              have hnx1 : nx ≤ 1000 := by rw [HNX.out]; exact HXN.out
              have HCUT : Hid (Sl w8 (.slice gx ny cx) Y) := hid (by
                obtain ⟨g, n9, c9, e9, _, _, hc9⟩ := HX8.out.cut (m := ny) (by rw [← HNX.out]; exact hyx)
                injection e9 with e91 e92 e93
                rw [← e91, ← e93, hny, HXY.out.2] at hc9
                rw [hny]; exact hc9)
              have hsm := rSame HCUT.out HY8.out.sl (by have := HXY.out.1; have := HXN.out; omega) (by have := HXY.out.1; have := HXN.out; omega)
              rw [show sameB Y Y = true from decide_eq_true rfl] at hsm
              clear hy8 hB8 hny
              go_upto_region 30 with (first
                | (go_at_call 10; refine hsm.mono ?_; clear hsm; rintro e w9 ⟨rfl, hB9⟩)
                | fail)
              have HX9 := hid (HX8.out.onB hB9)
              have HB9 := hid (HB8.out.trans (hB9.mono HB8.out.size))
              clear hB9
              go_wp2_with fail
              go_loopw [18] (fun s18 wr => ∃ (i : Nat), i ≤ nx ∧ s18 = .int .i64 ((i : Int) + 1) ∧ Hid (Below w9.heap.size w9 wr)) (fun s18 _ => nx + 1 - (RowKit.intOf s18).toNat)
              case atStart => exact ⟨0, Nat.zero_le _, rfl, hid (Below.refl _ _)⟩
              case round =>
                obtain ⟨i, hi, rfl, HBI⟩ := hrel
                by_cases hix : i + 1 < nx
                · have hixi : ((i : Int) + 1 < nx) := by omega
                  have hixj : ((i : Int) < nx) := by omega
                  obtain ⟨p, hp1, hp2, hp3⟩ := toldS_get HG.out (s := (s : Int)) (k := i) (by rw [← HXL.out, ← HNX.out]; omega)
                  obtain ⟨q, hq1, hq2, hq3⟩ := toldS_get HG.out (s := (s : Int)) (k := i + 1) (by rw [← HXL.out, ← HNX.out]; omega)
                  have hpq := toldS_next HT.out HG.out (Nat.lt_succ_self i) hp1 hq1
                  rw [← HXL.out] at hp3 hq3
                  obtain ⟨b7, o7, c7, a7, e7, _, ha7, hc7, hb7⟩ := HX9.out.sl
                  injection e7 with e71 e72 e73
                  have ha8 := ha7 (by rw [← HNX.out]; omega)
                  obtain rfl := e71.trans ha8
                  obtain ⟨xp, hxp⟩ : ∃ z, z = 16 * ((p : Int) + 1) := ⟨_, rfl⟩
                  obtain ⟨xq, hxq⟩ : ∃ z, z = 16 * ((q : Int) + 1) := ⟨_, rfl⟩
                  have hb8 := hb7 (by rw [← HNX.out]; omega)
                  have m0 : wr.cell? ⟨b7, o7 + i * 7, none⟩ = some (.int .i64 xp) := (HBI.out.cell hb8).trans (by rw [hxp]; exact hc7 i _ hp3 0 _ rfl)
                  have m1 : wr.cell? ⟨b7, o7 + (i + 1) * 7, none⟩ = some (.int .i64 xq) := (HBI.out.cell hb8).trans (by rw [hxq]; exact hc7 (i + 1) _ hq3 0 _ rfl)
                  obtain rfl := ha (by omega)
                  have hbw := hb (by omega)
                  obtain ⟨u, hu⟩ : ∃ x, its[p]? = some x := ⟨its[p]'(by rw [← HN.out]; exact hp2), List.getElem?_eq_getElem (by rw [← HN.out]; exact hp2)⟩
                  obtain ⟨v, hv⟩ : ∃ x, its[q]? = some x := ⟨its[q]'(by rw [← HN.out]; exact hq2), List.getElem?_eq_getElem (by rw [← HN.out]; exact hq2)⟩
                  obtain ⟨ut, hut⟩ : ∃ z, z = u.t := ⟨_, rfl⟩
                  obtain ⟨vt, hvt⟩ : ∃ z, z = v.t := ⟨_, rfl⟩
                  rw [timT_at hu, timT_at hv, ← hut, ← hvt] at hpq
                  have HBZ : Hid (Below w.heap.size w wr) := hid (HBW.out.trans ((HB9.out.trans (HBI.out.mono HB9.out.size)).mono HBW.out.size))
                  have m2 : wr.cell? ⟨b, o + p * 2 + 1, none⟩ = some (.int .u16 (ut : Int)) := (HBZ.out.cell hbw).trans (by rw [hut]; exact HCC.out p u hu 1 _ rfl)
                  have m3 : wr.cell? ⟨b, o + q * 2 + 1, none⟩ = some (.int .u16 (vt : Int)) := (HBZ.out.cell hbw).trans (by rw [hvt]; exact HCC.out q v hv 1 _ rfl)
                  have t1 : xp.tdiv 16 = (p : Int) + 1 := by rw [hxp, Int.mul_tdiv_cancel_left _ (by decide)]
                  have t2 : xq.tdiv 16 = (q : Int) + 1 := by rw [hxq, Int.mul_tdiv_cancel_left _ (by decide)]
                  have t3 : IntKind.i64.wrap ((p : Int) + 1) = p + 1 := by rw [IntKind.wrap_i64]; omega
                  have t4 : IntKind.i64.wrap ((q : Int) + 1) = q + 1 := by rw [IntKind.wrap_i64]; omega
                  have t5 : IntKind.i64.wrap (p : Int) = p := by rw [IntKind.wrap_i64]; omega
                  have t6 : IntKind.i64.wrap (q : Int) = q := by rw [IntKind.wrap_i64]; omega
                  have t7 : IntKind.i64.wrap (i : Int) = i := by rw [IntKind.wrap_i64]; omega
                  have hpn : ((p : Int) < n) := by omega
                  have hqn : ((q : Int) < n) := by omega
                  have hge : decide ((vt : Int) ≤ ut) = false := decide_eq_false (by omega)
                  have hge2 : decide (vt ≤ ut) = false := decide_eq_false (by omega)
                  have hge3 : ¬ ((vt : Int) ≤ ut) := by omega
                  clear hp1 hp3 hq1 hq3 e71 e72 e73 ha7 ha8 hc7 hb7 hu hv hut hvt hxp hxq
                  go_wp2_with fail
                  go_quiet (fail)
                  go_wp2_with fail
                  go_roundw
                  case rel => exact ⟨i + 1, by omega, by go_num, hid (Below.drewN' HBI.out _)⟩
                  case measure => first | omega | (simp [RowKit.intOf]; omega)
                · have hixi : ¬ ((i : Int) + 1 < nx) := by omega
                  go_wp2_with fail
                  go_roundg (4 - (s + 1))
                  case measure => omega
                  case rel => exact ⟨s + 1, by omega, rfl, by go_num, hid (HBS.out.trans ((HB9.out.trans (HBI.out.mono HB9.out.size)).mono HBS.out.size))⟩
            · have hs4i : ¬ ((s : Int) < 4) := by omega
              have hlv := HLV.out wr
              go_wp2_with (first
                | (go_at_call 6; refine hlv.mono ?_; clear hlv; rintro e wz ⟨rfl, hBz⟩; have HBz := hid (HBW.out.trans (hBz.mono HBW.out.size)); clear hBz)
                | fail)
              go_ret
              exact ⟨rfl, HBz.out⟩
end Go.Proofs.Ytmggggijamligaa
namespace Go.Proofs.Ytmggggijamligaa
set_option linter.unusedVariables false
open Go.Joins Go.ChangeShapes Go.WideShapes Go.ChangeAt Go.RowKit Go.Deep
theorem add_plain (b o n : Nat) : (⟨b, o, none⟩ : Addr).add n = ⟨b, o + n, none⟩ := by
  by_cases h : n = 0
  · subst h; simp [Addr.add]
  · simp [Addr.add, h]
theorem own : ownKnob Try.prog.godebug = none := by kernel_rfl
theorem laidOut : laidOutB Try.prog = true := by kernel_rfl
end Go.Proofs.Ytmggggijamligaa
namespace Go.Proofs.Ytmggggijamligaa
set_option linter.unusedVariables false
open Go.Joins Go.ChangeShapes Go.WideShapes Go.ChangeAt Go.RowKit Go.Deep
end Go.Proofs.Ytmggggijamligaa
namespace Go.Proofs.Ytmggggijamligaa
set_option linter.unusedVariables false
open Go.Joins Go.ChangeShapes Go.WideShapes Go.ChangeAt Go.RowKit Go.Deep
end Go.Proofs.Ytmggggijamligaa
namespace Go.Proofs.Ytmggggijamligaa
set_option linter.unusedVariables false
open Go.Joins Go.ChangeShapes Go.WideShapes Go.ChangeAt Go.RowKit Go.Deep
section
variable {H : Type} {enc : TypeId × Value → H} {W : World} {base : Nat} {spare : Nat → Bool} {held : Bool} {fuel : Nat}
theorem struct_in {P : Program} {t : TypeId} {fs : Array Field} {cs : List Value} {x : DataW H × List MemPlace} (ht : P.underlying t = some (.struct fs)) (h : DataW.trod enc P W base spare held fuel t cs = some x) :
    cs.length = P.cellsOf t ∧ ∃ n, ∀ (i : Nat) (f : Field), fs[i]? = some f → ∃ y, DataW.trod enc P W base spare held n f.type ((cs.drop f.offset).take (P.cellsOf f.type)) = some y := by
  obtain ⟨xs, n, _, _, hl, hx, hf⟩ := DataW.trod_struct ht h
  refine ⟨hl, n, fun i f hi => ?_⟩
  have hlt : i < fs.size := (Array.getElem?_eq_some_iff.1 hi).1
  exact ⟨xs[i]'(by omega), (hf i f hi).trans (List.getElem?_eq_getElem (by omega))⟩
end
theorem list_of' {α : Type} {n : Nat} {P : Nat → α → Prop} (h : ∀ i, i < n → ∃ c, P i c) : ∃ cs : List α, cs.length = n ∧ ∀ (j : Nat) c, cs[j]? = some c → P j c := by
  induction n with
  | zero => exact ⟨[], rfl, fun j c hc => by simp at hc⟩
  | succ n ih =>
    obtain ⟨cs, hl, hp⟩ := ih fun i hi => h i (by omega)
    obtain ⟨c, hc⟩ := h n (by omega)
    refine ⟨cs ++ [c], by simp [hl], fun j d hd => ?_⟩
    by_cases hj : j < cs.length
    · rw [List.getElem?_append_left hj] at hd; exact hp j d hd
    · have hlen := (List.getElem?_eq_some_iff.1 hd).1
      simp at hlen
      obtain rfl : j = cs.length := by omega
      simp at hd
      subst hd
      rw [hl]; exact hc
end Go.Proofs.Ytmggggijamligaa

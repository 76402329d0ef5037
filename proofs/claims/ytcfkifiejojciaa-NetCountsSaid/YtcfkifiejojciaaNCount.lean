/- A net, what was put in, what was taken: three rows side by side; how often bytes stand in a list. -/
import Derived.Test.YtcfkifiejojciaaNOpen
namespace Go.Proofs.Ytcfkifiejojciaa
set_option linter.unusedVariables false
open Go.RowKit
open Go.Lib (hid)

theorem less_perm {α : Type} {l : List α} {i : Nat} {x : α} (h : l[i]? = some x) : l.Perm (x :: less l i) := by
  obtain ⟨hlt, rfl⟩ := List.getElem?_eq_some_iff.1 h
  have h2 : l = l.take i ++ l[i] :: l.drop (i + 1) := by rw [← List.drop_eq_getElem_cons hlt, List.take_append_drop]
  unfold less
  refine (List.Perm.of_eq h2).trans ?_
  exact List.perm_middle
theorem perm_put {α : Type} {a b c x : List α} (h : a.Perm (b ++ c)) : (a ++ x).Perm (b ++ (c ++ x)) := by rw [← List.append_assoc]; exact h.append_right x
theorem perm_take {α : Type} {a b c : List α} {i : Nat} {x : α} (h : a.Perm (b ++ c)) (hx : c[i]? = some x) : a.Perm ((b ++ [x]) ++ less c i) := by
  refine h.trans ?_
  rw [List.append_assoc]
  exact (less_perm hx).append_left b

/-- A net, and two rows of the law's own. -/
structure C3 (w : World) (B p : Nat) (room lost : Int) (v : Value) (ps : Ps) (vi : Value) (is : Ps) (vo : Value) (os : Ps) : Prop where
  net : NetP w B p room v lost ps
  rin : Rw w B vi is
  rout : Rw w B vo os
  ai : Apt vi v
  ao : Apt vo v
  io : Apt vi vo
theorem C3.on {w w' : World} {B p : Nat} {room lost : Int} {v vi vo : Value} {ps is os : Ps} (h : C3 w B p room lost v ps vi is vo os) (hb : Below w.heap.size w w') : C3 w' B p room lost v ps vi is vo os :=
  ⟨h.net.on hb, h.rin.on hb, h.rout.on hb, h.ai, h.ao, h.io⟩
theorem C3.act {w w1 : World} {B p : Nat} {room lost l' : Int} {v vi vo : Value} {ps is os : Ps} {ls' : List (List UInt8)} (h : C3 w B p room lost v ps vi is vo os) (hl : LeftA 47 w w1 B p room v l' ls') :
    ∃ v' ps', C3 w1 B p room l' v' ps' vi is vo os ∧ bs ps' = ls' ∧ Tch (Nb p v) w w1 := by
  obtain ⟨v', ps', h3, h4, ht, hf⟩ := hl
  have hrow : ∀ u us, Rw w B u us → Apt u v → Rw w1 B u us ∧ Apt u v' := fun u us hu ha => by
    refine ⟨hu.tch ht (h.net.nb (by decide)) (fun k hk => ?_), ha.next (fun k hk => (hu.blk hk).2.1) hf⟩
    rintro (e | e)
    · subst e; exact Tri.off h.net.1 (by decide) hu hk
    · exact ha k hk e
  obtain ⟨a1, a2⟩ := hrow vi is h.rin h.ai
  obtain ⟨b1, b2⟩ := hrow vo os h.rout h.ao
  exact ⟨v', ps', ⟨h3, a1, b1, a2, b2, h.io⟩, h4, ht⟩
theorem net_grown {w w' : World} {B p : Nat} {room lost : Int} {v vi : Value} {ps is : Ps} (h : NetP w B p room v lost ps) (hi : Rw w B vi is) (ha : Apt vi v) (hg : w.grownBy w' vi.ownBlock) : NetP w' B p room v lost ps := by
  have ht : Tch (fun k => vi.ownBlock = some k) w w' := Tch.ofGrown hg fun k hk => hk
  have hne := Tri.off h.1 (by decide) hi
  exact ⟨ht.ob h.1 hne, h.2.1.tch ht (fun k hk => ⟨(hi.blk hk).1, (hi.blk hk).2.2⟩) (fun k hk e => ha k e hk), h.2.2⟩
theorem row_grown {w w' : World} {B : Nat} {vo vi : Value} {os is : Ps} (h : Rw w B vo os) (hi : Rw w B vi is) (ha : Apt vi vo) (hg : w.grownBy w' vi.ownBlock) : Rw w' B vo os :=
  h.tch (S := fun k => vi.ownBlock = some k) (Tch.ofGrown hg fun k hk => hk) (fun k hk => ⟨(hi.blk hk).1, (hi.blk hk).2.2⟩) (fun k hk e => ha k e hk)
theorem C3.putIn {w w' : World} {B p : Nat} {room lost : Int} {v vi vo vi' : Value} {ps is os qs : Ps} (h : C3 w B p room lost v ps vi is vo os) (hr : Rw w' B vi' (is ++ qs)) (hg : w.grownBy w' vi.ownBlock) (hf : Fr w.heap.size vi vi') : C3 w' B p room lost v ps vi' (is ++ qs) vo os :=
  ⟨net_grown h.net h.rin h.ai hg, hr, row_grown h.rout h.rin h.io hg, (h.ai.symm.next (fun k hk => (h.net.2.1.blk hk).2.1) hf).symm, h.ao, (h.io.symm.next (fun k hk => (h.rout.blk hk).2.1) hf).symm⟩
theorem C3.putOut {w w' : World} {B p : Nat} {room lost : Int} {v vi vo vo' : Value} {ps is os qs : Ps} (h : C3 w B p room lost v ps vi is vo os) (hr : Rw w' B vo' (os ++ qs)) (hg : w.grownBy w' vo.ownBlock) (hf : Fr w.heap.size vo vo') : C3 w' B p room lost v ps vi is vo' (os ++ qs) :=
  ⟨net_grown h.net h.rout h.ao hg, row_grown h.rin h.rout h.io.symm hg, hr, h.ai, (h.ao.symm.next (fun k hk => (h.net.2.1.blk hk).2.1) hf).symm, h.io.next (fun k hk => (h.rin.blk hk).2.1) hf⟩

theorem count_step {ls : List (List UInt8)} {k : Nat} {x l : List UInt8} (h : ls[k]? = some x) : List.count l (ls.take (k + 1)) = List.count l (ls.take k) + (if x = l then 1 else 0) := by
  rw [takeN_snoc h, List.count_append]
  congr 1
  simp [List.count_singleton]

set_option maxHeartbeats 1600000 in
set_option maxRecDepth 100000 in
theorem cCount {w : World} {B : Nat} {va vb : Value} {ps : Ps} {l : List UInt8} (ha : Sr w B va ps) (hb : SlB w vb l) (hl : ps.length ≤ 1000000) : Calls Try.prog 18 #[va, vb] w fun e w' => e = .returned (.int .i64 (List.count l (bs ps))) ∧ ∃ m, w' = w.drewN m := by
  obtain ⟨b1, o1, cap1, a1, rfl, hcap1, _, ha1, hr1, hl1, ht1⟩ := ha
  obtain ⟨ab, capb, rfl, _, _⟩ := hb.any
  have hv2 : ∀ m, (convert 40 9 (.slice ab l.length capb)).run Try.prog (w.drewN m) = .ok (strB l) (w.drewN m) := fun m => convB (SlB.drewN m hb)
  have HV2 := hid hv2
  obtain ⟨n, hn⟩ : ∃ n, n = ps.length := ⟨_, rfl⟩
  rw [← hn] at ha1 hl1 hcap1 hl ⊢
  obtain ⟨lb, hlb⟩ : ∃ lb, lb = l.length := ⟨_, rfl⟩
  rw [← hlb] at HV2 ⊢
  have HR := hid (And.intro hr1 (And.intro ht1 hn))
  clear hr1 ht1 hn hb hv2 hlb
  go_enter Try.func18, Try.ntmps18
  go_wp2
  go_loopw [5, 6] (fun c i wr => ∃ k : Nat, k ≤ n ∧ i = .int .i64 k ∧ c = .int .i64 (List.count l ((bs ps).take k) : Nat) ∧ Hid (List.count l ((bs ps).take k) ≤ k) ∧ Hid (∃ m, wr = w.drewN m)) (fun _ i _ => n - (intOf i).toNat)
  case atStart => exact ⟨0, Nat.zero_le _, rfl, by simp, hid (by simp), hid ⟨0, rfl⟩⟩
  case round =>
    obtain ⟨k, hk, rfl, rfl, hle, hW⟩ := hrel
    obtain ⟨m0, rfl⟩ := hW.out
    obtain ⟨c, hc⟩ : ∃ c, c = List.count l ((bs ps).take k) := ⟨_, rfl⟩
    have HC := hid hc
    rw [← hc] at hle ⊢
    have hck : c ≤ 1000000 := by have := hle.out; omega
    clear hc
    by_cases hlt : k < n
    · have hlt2 : (k : Int) < (n : Int) := by omega
      obtain rfl := ha1 (by omega)
      obtain ⟨p, hp⟩ : ∃ p, ps[k]? = some p := ⟨ps[k]'(by have := HR.out.2.2; omega), List.getElem?_eq_getElem (by have := HR.out.2.2; omega)⟩
      have h1 := HR.out.1 k _ hp
      have s1 := (HR.out.2.1 _ (List.mem_of_getElem? hp)).1
      have HST := hid (count_step (l := l) (bs_at hp))
      obtain ⟨⟨pa, pn, pc⟩, x⟩ := p
      dsimp only at h1 s1 HST
      obtain ⟨W, hWW⟩ : ∃ W, W = w.drewN m0 := ⟨_, rfl⟩
      have c0 : W.cell? ⟨b1, o1 + k, none⟩ = some (.slice pa pn pc) := by rw [hWW]; exact h1
      have hv1 : ∀ m, (convert 40 9 (.slice pa pn pc)).run Try.prog (W.drewN m) = .ok (strB x) (W.drewN m) := fun m => by rw [hWW]; exact convB (SlB.drewN m (SlB.drewN m0 s1))
      have hv2 : ∀ m, (convert 40 9 (.slice ab lb capb)).run Try.prog (W.drewN m) = .ok (strB l) (W.drewN m) := fun m => by rw [hWW, World.drewN_drewN]; exact HV2.out _
      rw [← hWW]
      have HWW := hid hWW
      clear h1 s1 hp hWW
      by_cases hxl : x = l
      · have HC2 := hid (show List.count l ((bs ps).take (k + 1)) = c + 1 by rw [HST.out, if_pos hxl, HC.out])
        subst hxl
        go_wp2
        go_quiet (fail)
        go_wp2
        go_roundw
        case rel => exact ⟨k + 1, by omega, by go_num, by rw [HC2.out]; go_num, hid (by rw [HC2.out]; have := hle.out; omega), hid ⟨m0 + nq, by rw [HWW.out, World.drewN_drewN]⟩⟩
        case measure => simp [RowKit.intOf]; omega
      · have HC2 := hid (show List.count l ((bs ps).take (k + 1)) = c by rw [HST.out, if_neg hxl, HC.out]; rfl)
        have hne : (x == l) = false := beq_eq_false_iff_ne.2 hxl
        go_wp2
        go_quiet (fail)
        go_wp2
        go_roundw
        case rel => exact ⟨k + 1, by omega, by go_num, by rw [HC2.out], hid (by rw [HC2.out]; have := hle.out; omega), hid ⟨m0 + nq, by rw [HWW.out, World.drewN_drewN]⟩⟩
        case measure => simp [RowKit.intOf]; omega
    · have hlt2 : ¬ (k : Int) < (n : Int) := by omega
      have HC2 := hid (show List.count l (bs ps) = c by have h1 := HC.out; rw [List.take_of_length_le (by rw [bs_len]; have := HR.out.2.2; omega)] at h1; exact h1.symm)
      go_wp2
      go_ret
      exact ⟨ret_int (by rw [HC2.out]), m0, rfl⟩
end Go.Proofs.Ytcfkifiejojciaa

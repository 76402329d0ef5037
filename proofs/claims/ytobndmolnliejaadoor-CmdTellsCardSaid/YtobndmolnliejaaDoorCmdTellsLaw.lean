/- The law CmdTells: for every list of commands and every two numbers, the name of the numbers and its parts, the name that a number is, whether the commands may be, and whether neighbours among them conflict, are as the document says; the law returns true. No condition on the arguments; the listed library variables start as the program's text lays them (the card ties them). -/
import Derived.Test.YtobndmolnliejaaDoorCmdTellsB
import Derived.Test.YtobndmolnliejaaDoorCmdTellsC
import Derived.Test.YtobndmolnliejaaDoorCmdTellsD
import Derived.Test.YtobndmolnliejaaDoorCmdOpens
import Derived.Test.YtobndmolnliejaaDoorCards
namespace Go.Proofs.YtobndmolnliejaaDoor
open Go.Joins Go.ChangeShapes Go.WideShapes Go.ChangeAt Go.RowKit Go.Deep

theorem wTells (b o cap : Nat) (a : Option Addr) (cs : List C7) (ha : 0 < cs.length → a = some ⟨b, o, none⟩) (hl : cs.length ≤ 9223372036854775807) (s h : Int) (w : World) (ok : Okw w) (hC : CmsAt w b o cs) (hb : 0 < cs.length → b < w.heap.size) :
    Calls Tryd.prog 3 #[.slice a cs.length cap, .int .i64 s, .int .i64 h] w fun e w' => e = .returned (.bool true) ∧ Below w.heap.size w w' := by
  by_cases hn : 200 < cs.length
  · exact wTells_long _ cs.length cap a rfl hn hl s h w ok
  by_cases h1 : s < 1
  · rcases hm : namedB s with _ | _
    · exact wTells_no1f b o cap a cs ha hn s h h1 hm w ok hC hb
    · exact wTells_no1t b o cap a cs ha hn s h h1 hm w ok hC hb
  by_cases h2 : 256 < s
  · rcases hm : namedB s with _ | _
    · exact wTells_no2f b o cap a cs ha hn s h h2 hm w ok hC hb
    · exact wTells_no2t b o cap a cs ha hn s h h2 hm w ok hC hb
  by_cases h3 : h < 0
  · rcases hm : namedB s with _ | _
    · exact wTells_no3f b o cap a cs ha hn s h (by omega) (by omega) h3 hm w ok hC hb
    · exact wTells_no3t b o cap a cs ha hn s h (by omega) (by omega) h3 hm w ok hC hb
  by_cases h4 : 8 < h
  · rcases hm : namedB s with _ | _
    · exact wTells_no4f b o cap a cs ha hn s h (by omega) (by omega) (by omega) h4 hm w ok hC hb
    · exact wTells_no4t b o cap a cs ha hn s h (by omega) (by omega) (by omega) h4 hm w ok hC hb
  rcases hm : namedB s with _ | _
  · exact wTells_yf b o cap a cs ha hn s h (by omega) (by omega) (by omega) (by omega) hm w ok hC hb
  · exact wTells_yt b o cap a cs ha hn s h (by omega) (by omega) (by omega) (by omega) hm w ok hC hb

set_option maxRecDepth 100000 in
theorem lifted (os : Os) (started : os.Started) (H : Type) (enc : TypeId × Value → H) :
    ReturnsInHanded {} Tryd.checked os 3 .any (fun w args => (Rows.cmdTellsSpec.pre enc Tryd.prog Tryd.f3 Rows.cmdTellsRow.domain false w args ∧ laidMetH Tryd.prog Rows.cmdTellsRow.laid w) ∧ sizedMet enc Tryd.prog Tryd.f3 (OpenSpec.ofChange Rows.cmdTellsSpec) false w args)
      (Rows.cmdTellsSpec.post enc Tryd.prog Tryd.f3 false true false false) := by
  refine returns_law (C := Tryd.checked) (X := fun w => laidMetH Tryd.prog Rows.cmdTellsRow.laid w) (fun _ _ hh h => h.of_heap hh) own started (by kernel_rfl) Tryd.func3
    (ChangeSpec.witness_shaped (enc := enc) (C := Tryd.checked) (os := os) (X := fun w _ => laidMetH Tryd.prog Rows.cmdTellsRow.laid w) false (World.laidAll Tryd.prog os Rows.cmdTellsRow.laid) #[.slice none 0 0, .int .i64 0, .int .i64 0] 8 (World.laidAll_os _ _ _)
      (World.shaped_of_ZipB (by kernel_rfl) (by kernel_rfl)) (by kernel_rfl) (by kernel_rfl) (by kernel_rfl)
      (by rw [MakeChecks.laidMetH_plain _ _ _ (by kernel_rfl)]; exact laidMet_laidAll _ (by kernel_rfl) (by kernel_rfl))) ?_
  intro W base args ds gs before hval0 hW hL hS
  have hval : ∀ (j : Nat) t v, Tryd.f3.params[j]? = some t → args[j]? = some v → Value.okWide Tryd.prog W .any base t v := hval0
  have hW' := hW
  obtain ⟨p, q, hA0, hV, rfl, hfz, hnd⟩ := hW
  have hA : DataW.TrodAll enc Tryd.prog W 0 (fun _ => true) true Tryd.f3.params.toList args.toList ds p := hA0
  rw [Tryd.params3] at hA hval
  obtain ⟨v0, v1, v2, d0, d1, d2, p0, p1, p2, rfl, rfl, rfl, h0, h1, h2⟩ := trodAll_three hA
  obtain ⟨rfl, rfl⟩ := trodVars_none hV
  obtain ⟨b, o, cap, a, cs, rfl, ha, hl, hC, hb⟩ := open_cmds (hval 0 22 v0 rfl rfl) h0
  obtain ⟨s, rfl, rfl, rfl, ws⟩ := open_int Tryd.underlying3 (hval 1 3 v1 rfl rfl) h1
  obtain ⟨h, rfl, rfl, rfl, wh⟩ := open_int Tryd.underlying3 (hval 2 3 v2 rfl rfl) h2
  have ok := okw_of hL hS
  refine (wTells b o cap a cs ha hl s h W ok hC hb).mono fun e W' ⟨he, hB⟩ => ?_
  subst he
  have hlt : ∀ x ∈ p0, x.block < W.heap.size := fun x hx => hW'.lt x (by simp [hx])
  exact ⟨_, rfl, _, _, _, [], p0 ++ ([] ++ []), [], hW', trodAll_mk1 (shut_bool Tryd.underlying4 _), trodAll_cons_mk (Below.trod laidOut (by kernel_rfl) (of_decide_eq_true (by kernel_rfl)) h0 hB hlt) (trodAll_mk2 (shut_int Tryd.underlying3 ws) (shut_int Tryd.underlying3 wh)), rfl, hB.frame _, fun h => by cases h⟩

theorem over : Rows.CmdTellsSaid :=
  OpenClaim.holds_of_wide 3 Tryd.f3 rfl rfl rfl rfl rfl rfl rfl ⟨rfl, rfl, rfl, rfl, rfl⟩ rfl rfl rfl rfl rfl (by kernel_rfl) Tryd.func3 (by kernel_rfl)
    (of_decide_eq_true (by kernel_rfl)) (by unfold Func.isWrapper; first | (rw [if_pos (by decide +kernel)]; kernel_rfl) | (rw [if_neg (by decide +kernel)]; exact ⟨rfl, rfl⟩))
    (fun os started H enc _ => lifted os started H enc)

/-- ████ THE STATEMENT ████ -/
theorem proved : Rows.CmdTellsCardSaid :=
  Claim7.holds_tied_plain_at .later [] [.data, .data, .data, .data, .sentinel, .sentinel, .pinned] true (true, "b77375a44f5c2b3df1be254fdf67c944af89c9803ee783b5feaaafba0b2d7f8a") true over (fun _ h => by cases h) (by kernel_rfl) (fun _ h => by cases h) cmdTells_row_tie rfl ⟨rfl, rfl⟩ (by kernel_rfl) rfl
    (fun f fn hf hfn => by
      obtain rfl : f = 3 := Option.some.inj ((show Tryd.prog.funcNamed "lictor/lictorlaw02.CmdTells" = some 3 by kernel_rfl).symm.trans hf) |>.symm
      obtain rfl : fn = Tryd.f3 := (Option.some.inj (Tryd.func3.symm.trans hfn)).symm
      exact ⟨by kernel_rfl, fun j t ht => by
        rw [Tryd.params3] at ht
        have hm : t ∈ [22, 3, 3] := by simpa using Array.mem_of_getElem? ht
        have hall : ([22, 3, 3].all fun u => !Tryd.prog.wantsStandIn u) = true := by kernel_rfl
        exact (show Tryd.prog.wantsStandIn t = false by simpa using List.all_eq_true.1 hall t hm)⟩)
    (by kernel_rfl)
end Go.Proofs.YtobndmolnliejaaDoor

/- The live question of layer 2: its answer is yes. -/
import Derived.Test.YtobndmolnliejaaDoorCmdRParseAll
namespace Go.Proofs.YtobndmolnliejaaDoor
open Go.RowKit Go.Lib

def aliveText : List UInt8 := [51, 51, 32, 112, 108, 97, 99, 101, 32, 50, 32, 115, 101, 108, 108, 32, 49, 48, 48, 32, 53]
def aliveCm : Cm := ⟨33, 0, 2, 0, 1, 100, 5⟩
def aliveCm2 : Cm := ⟨18, 2, 1, 33, 0, 0, 7⟩
theorem dd1 (n : Nat) (h : n < 10) : decDigits n = [UInt8.ofNat (48 + n)] := by rw [decDigits, dif_pos h]
theorem dd2 (n : Nat) (h : ¬ n < 10) : decDigits n = decDigits (n / 10) ++ [UInt8.ofNat (48 + n % 10)] := by rw [decDigits, dif_neg h]
theorem alive_text : aliveCm.text = aliveText := by
  have e : (33 : Int).toNat = 33 ∧ (2 : Int).toNat = 2 ∧ (100 : Int).toNat = 100 ∧ (5 : Int).toNat = 5 := by decide
  simp only [Cm.text, Cm.words, aliveCm, fig, e.1, e.2.1, e.2.2.1, e.2.2.2, if_true]
  rw [dd2 33 (by omega), dd1 (33 / 10) (by omega), dd1 2 (by omega), dd2 100 (by omega), dd2 (100 / 10) (by omega), dd1 (100 / 10 / 10) (by omega), dd1 5 (by omega)]
  decide
theorem alive_text2 : aliveCm2.text = [49, 56, 32, 97, 109, 101, 110, 100, 32, 49, 32, 51, 51, 32, 55] := by
  have e : (18 : Int).toNat = 18 ∧ (1 : Int).toNat = 1 ∧ (33 : Int).toNat = 33 ∧ (7 : Int).toNat = 7 := by decide
  have k0 : ¬ (2 : Int) = 0 := by decide
  have k1 : ¬ (2 : Int) = 1 := by decide
  simp only [Cm.text, Cm.words, aliveCm2, fig, e.1, e.2.1, e.2.2.1, e.2.2.2, if_neg k0, if_neg k1]
  rw [dd2 18 (by omega), dd1 (18 / 10) (by omega), dd2 33 (by omega), dd1 (33 / 10) (by omega), dd1 7 (by omega)]
  decide
theorem alive_parse : parseF aliveText = (aliveCm, 0) := parse_unique _ _ ⟨by decide, alive_text⟩

set_option maxRecDepth 100000 in
theorem cAlive (w : World) (ok : Okw w) : Calls Tryd.prog 5 #[] w fun e w' => e = .returned (.bool true) ∧ Below w.heap.size w w' := by
  have hP := fun W (o : Okw W) => cParse ⟨aliveText.toArray⟩ (by decide) W o
  have hP' : ∀ W (_ : Okw W), Calls Tryd.prog 16 #[str aliveText] W fun e w' => e = .returned (.tuple #[cmV 33 0 2 0 1 100 5, .int .i64 0]) ∧ Below W.heap.size W w' := fun W o => by
    have := hP W o
    rw [show (⟨aliveText.toArray⟩ : ByteArray).data.toList = aliveText from rfl, alive_parse] at this
    exact this
  have hQ : ∀ W (_ : Okw W), Calls Tryd.prog 13 #[cmV 18 2 1 33 0 0 7] W fun e w' => e = .returned (.tuple #[str [49, 56, 32, 97, 109, 101, 110, 100, 32, 49, 32, 51, 51, 32, 55], .int .i64 0]) ∧ Below W.heap.size W w' := fun W o => by
    have := cPrint aliveCm2 W o
    have e1 : aliveCm2.print = [49, 56, 32, 97, 109, 101, 110, 100, 32, 49, 32, 51, 51, 32, 55] := by
      rw [← alive_text2]; unfold Cm.print; rw [if_pos (by decide)]
    have e2 : aliveCm2.printE = 0 := by decide
    rw [e1, e2] at this
    exact this
  clear hP
  unfold aliveText at hP'
  go_enter Tryd.func5, Tryd.ntmps5
  go_wp2_with fail
  refine (hP' w ok).mono ?_
  rintro e w1 ⟨rfl, hb1⟩
  go_wp2_with fail
  refine (hQ _ (ok.on (hb1.alloc hb1.size _))).mono ?_
  rintro e w2 ⟨rfl, hb2⟩
  have c2 : ∀ o, w2.cell? ⟨w1.heap.size, o, none⟩ = (cmCells 33 0 2 0 1 100 5)[o]? := (cells_at ((hb2.block _ (by simp)).trans (ha_new _ _ _ rfl))).1
  go_wp2_with (first
    | (go_at_call 6; refine (cName _ _ _).mono ?_; rintro e w' ⟨rfl, rfl⟩)
    | (go_at_call 8; refine (cHome _ _).mono ?_; rintro e w' ⟨rfl, rfl⟩)
    | (go_at_call 7; refine (cSeq _ _).mono ?_; rintro e w' ⟨rfl, rfl⟩))
  go_ret
  exact ⟨ret_bool rfl, (hb1.alloc hb1.size _).trans (hb2.mono (by have := hb1.size; simp; omega))⟩
end Go.Proofs.YtobndmolnliejaaDoor

/- The document's Parse, of whatever text: the same plain function as the program's. -/
import Derived.Test.YtobndmolnliejaaDoorCmdRParse
namespace Go.Proofs.YtobndmolnliejaaDoor
open Go.RowKit Go.Lib

theorem six (L : List (List UInt8)) (h : 6 ≤ L.length) : L = L.getD 0 [] :: L.getD 1 [] :: L.getD 2 [] :: L.getD 3 [] :: L.getD 4 [] :: L.getD 5 [] :: L.drop 6 := by
  match L, h with
  | a :: b :: c :: d :: e :: f :: r, _ => rfl
theorem getD_app (ws : List (List UInt8)) (j : Nat) (h : j < 6) : (ws ++ [[], [], [], [], [], []]).getD j [] = ws.getD j [] := by
  by_cases hj : j < ws.length
  · simp [List.getD, List.getElem?_append, hj]
  · simp only [List.getD, List.getElem?_append, hj, if_false]
    have e : ws[j]? = none := List.getElem?_eq_none (by omega)
    rw [e]
    rcases (by omega : j - ws.length = 0 ∨ j - ws.length = 1 ∨ j - ws.length = 2 ∨ j - ws.length = 3 ∨ j - ws.length = 4 ∨ j - ws.length = 5) with e | e | e | e | e | e <;> rw [e] <;> rfl
theorem RFin_parse (l : List UInt8) : RFin (rRead (allW (accW ([], []) l))) l = parseF l := rRead_parse l
theorem rParse (l : List UInt8) (hl : l.length ≤ 1000) (w : World) : Calls Tryd.prog 17 #[str l] w fun e w' => e = .returned (.tuple #[cmOf (parseF l).1, .int .i64 (parseF l).2]) ∧ Below w.heap.size w w' := by
  have h6 := six (allW (accW ([], []) l) ++ [[], [], [], [], [], []]) (by simp)
  rw [← RFin_parse]
  have g0 := getD_app (allW (accW ([], []) l)) 0 (by omega)
  have g1 := getD_app (allW (accW ([], []) l)) 1 (by omega)
  have g2 := getD_app (allW (accW ([], []) l)) 2 (by omega)
  have g3 := getD_app (allW (accW ([], []) l)) 3 (by omega)
  have g4 := getD_app (allW (accW ([], []) l)) 4 (by omega)
  have g5 := getD_app (allW (accW ([], []) l)) 5 (by omega)
  rw [g0, g1, g2, g3, g4, g5] at h6
  unfold rRead
  simp only
  by_cases h1 : (allW (accW ([], []) l)).getD 1 [] = wPlace
  · rw [if_pos h1]
    by_cases h2 : (allW (accW ([], []) l)).getD 3 [] = wSell
    · rw [if_pos h2]
      exact rParseSell l _ _ _ _ _ _ hl h6 (by rw [h1]; rfl) (by rw [h2]; rfl) w
    · rw [if_neg h2]
      exact rParseBuy l _ _ _ _ _ _ hl h6 (by rw [h1]; rfl) (by simpa [wSell] using h2) w
  · rw [if_neg h1]
    have t1 : ((allW (accW ([], []) l)).getD 1 [] == [112, 108, 97, 99, 101]) = false := by simpa [wPlace] using h1
    by_cases h2 : (allW (accW ([], []) l)).getD 1 [] = wCancel
    · rw [if_pos h2]
      exact rParseCancel l _ _ _ _ _ _ hl h6 t1 (by rw [h2]; rfl) w
    · rw [if_neg h2]
      have t2 : ((allW (accW ([], []) l)).getD 1 [] == [99, 97, 110, 99, 101, 108]) = false := by simpa [wCancel] using h2
      by_cases h3 : (allW (accW ([], []) l)).getD 1 [] = wAmend
      · rw [if_pos h3]
        exact rParseAmend l _ _ _ _ _ _ hl h6 t1 t2 (by rw [h3]; rfl) w
      · rw [if_neg h3]
        exact rParseNone l _ _ _ _ _ _ hl h6 t1 t2 (by simpa [wAmend] using h3) w
end Go.Proofs.YtobndmolnliejaaDoor

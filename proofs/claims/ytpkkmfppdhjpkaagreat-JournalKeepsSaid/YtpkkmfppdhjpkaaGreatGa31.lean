import Derived.Test.YtpkkmfppdhjpkaaGreatGa29
import Derived.Test.YtpkkmfppdhjpkaaGreatGa30
/- A frame of bytes: the program's Wrap, and the document's. -/



namespace Go.Proofs.YtpkkmfppdhjpkaaGreat
set_option linter.unusedVariables false
open Go.RowKit
open Go.Lib (hid)

def frameB (l : List UInt8) : List UInt8 := lowB l.length 2 ++ l ++ lowB (sumN l) 4
theorem frame_len (l : List UInt8) : (frameB l).length = l.length + 6 := by
  unfold frameB; rw [List.length_append, List.length_append, lowB_len, lowB_len]; omega
def wrapOk (l : List UInt8) : Bool := decide (1 ≤ l.length ∧ l.length ≤ 65535)
def wrapE (l : List UInt8) : Int := if wrapOk l = true then 0 else 1
def wrapB (l : List UInt8) : List UInt8 := if wrapOk l = true then frameB l else []
theorem wrap_yes {l : List UInt8} (h : 1 ≤ l.length) (h2 : l.length ≤ 65535) : wrapE l = 0 ∧ wrapB l = frameB l := by
  have h3 : wrapOk l = true := decide_eq_true ⟨h, h2⟩
  unfold wrapE wrapB; rw [if_pos h3, if_pos h3]; exact ⟨rfl, rfl⟩
theorem wrap_no {l : List UInt8} (h : ¬ (1 ≤ l.length ∧ l.length ≤ 65535)) : wrapE l = 1 ∧ wrapB l = [] := by
  have h3 : ¬ wrapOk l = true := fun hh => h (of_decide_eq_true hh)
  unfold wrapE wrapB; rw [if_neg h3, if_neg h3]; exact ⟨rfl, rfl⟩

/-- Three slices in a block just made. -/
theorem rows_three {w2 : World} {q : Nat} {T : TypeId} {s0 s1 s2 : Sv} {l0 l1 l2 : List UInt8} (h : w2.heap[q]? = some (.cells #[s0.v, s1.v, s2.v] T (0, 0))) (h0 : SlB w2 s0.v l0) (h1 : SlB w2 s1.v l1) (h2 : SlB w2 s2.v l2) : RowsB w2 q 0 [(s0, l0), (s1, l1), (s2, l2)] := by
  intro j p hp
  have hc := cellAt' h
  rw [Nat.zero_add]
  match j, hp with
  | 0, hp => cases hp; exact ⟨hc 0, h0⟩
  | 1, hp => cases hp; exact ⟨hc 1, h1⟩
  | 2, hp => cases hp; exact ⟨hc 2, h2⟩
  | _ + 3, hp => cases hp

set_option maxHeartbeats 1600000 in
set_option maxRecDepth 100000 in
theorem cWrap_no {v : Value} {l : List UInt8} {w : World} (h : SlB w v l) (hl : l.length ≤ 1000000) (hn : ¬ (1 ≤ l.length ∧ l.length ≤ 65535)) : Calls Tryz.prog 56 #[v] w fun e w' => e = .returned (.tuple #[.slice none 0 0, .int .i64 1]) ∧ w = w' := by
  obtain ⟨b, o, cap, a, rfl, _⟩ := h
  by_cases h0 : l.length = 0
  · have h1 : (l.length : Int) = 0 := by omega
    go_enter Tryz.func56, Tryz.ntmps56
    go_wp2
    go_ret2
    exact ⟨rfl, rfl⟩
  · have h1 : ¬ (l.length : Int) = 0 := by omega
    have h2 : (65535 : Int) < (l.length : Int) := by omega
    go_enter Tryz.func56, Tryz.ntmps56
    go_wp2
    go_ret2
    exact ⟨rfl, rfl⟩

set_option maxHeartbeats 1600000 in
set_option maxRecDepth 100000 in
theorem cWrap_yes {v : Value} {l : List UInt8} {w : World} (h : SlB w v l) (hn : 1 ≤ l.length) (hl : l.length ≤ 65535) : Calls Tryz.prog 56 #[v] w fun e w' => ∃ r, e = .returned (.tuple #[r, .int .i64 0]) ∧ OwnB w' w.heap.size r (frameB l) ∧ Below w.heap.size w w' := by
  have HS := hid h
  have hL1 : ∀ W, Calls Tryz.prog 75 #[.int .u32 (l.length : Int), .int .i64 2] W _ := fun W => cLow (n := l.length) (m := 2) (w := W) (by omega) (by omega)
  have hL2 : ∀ W, Calls Tryz.prog 75 #[.int .u32 (sumN l : Int), .int .i64 4] W _ := fun W => cLow (n := sumN l) (m := 4) (w := W) (sumN_lt l) (by omega)
  have hSum := fun W (hb : Below w.heap.size w W) => cSum (HS.out.on hb) (by omega)
  have HL1 := hid hL1
  have HL2 := hid hL2
  have HSum := hid hSum
  have hsl := sumN_lt l
  obtain ⟨S, hS⟩ : ∃ S, S = sumN l := ⟨_, rfl⟩
  have hFr : Hid (frameB l = lowB l.length 2 ++ l ++ lowB S 4) := hid (by rw [hS]; rfl)
  rw [← hS] at HSum HL2
  obtain ⟨b, o, cap, a, rfl, _⟩ := h
  obtain ⟨n, hnn⟩ : ∃ n, n = l.length := ⟨_, rfl⟩
  rw [← hnn] at HS HSum HL1 hn hl hFr ⊢
  have HN := hid hnn
  have h1 : ¬ (n : Int) = 0 := by omega
  clear hL1 hL2 hSum hS hsl hnn
  go_enter Tryz.func56, Tryz.ntmps56
  have h2 : ¬ (65535 : Int) < (n : Int) := by omega
  have h3 : ((n : Int) == 0) = false := by simp; omega
  have h4 : decide ((65535 : Int) < (n : Int)) = false := decide_eq_false h2
  go_wp2_with fail
  go_at_call 75
  refine (HL1.out _).mono ?_
  rintro e w1 ⟨r1, rfl, ho1, hB1⟩
  obtain ⟨g1, c1, n1, rfl, hg1⟩ := ho1.asSlice
  have HO1 := hid ho1
  have HB1 := hid hB1
  have HG1 := hid hg1
  clear ho1 hB1 hg1
  go_wp2_with fail
  go_at_call 65
  refine (HSum.out _ HB1.out).mono ?_
  rintro e w2 ⟨rfl, rfl⟩
  go_wp2_with fail
  go_at_call 75
  refine (HL2.out _).mono ?_
  rintro e w2 ⟨r2, rfl, ho2, hB2⟩
  obtain ⟨g2, c2, n2, rfl, hg2⟩ := ho2.asSlice
  have HO2 := hid ho2
  have HB2 := hid hB2
  have HG2 := hid hg2
  clear ho2 hB2 hg2
  go_wp2_with fail
  go_at_call 55
  have hB12 := HB1.out.trans (HB2.out.mono HB1.out.size)
  have hBx := hB12.alloc hB12.size (.cells #[.slice g1 n1 c1, .slice a n cap, .slice g2 n2 c2] 63)
  have hR : RowsB (w2.alloc (.cells #[.slice g1 n1 c1, .slice a n cap, .slice g2 n2 c2] 63)) w2.heap.size 0 [(⟨g1, n1, c1⟩, lowB n 2), (⟨a, n, cap⟩, l), (⟨g2, n2, c2⟩, lowB S 4)] :=
    rows_three (heap_alloc_new w2 _) ((HO1.out.slb.on HB2.out).on ((Below.refl _ w2).alloc (Nat.le_refl _) _)) (HS.out.on hBx) (HO2.out.slb.on ((Below.refl _ w2).alloc (Nat.le_refl _) _))
  have hlens : lensB [((⟨g1, n1, c1⟩ : Sv), lowB n 2), (⟨a, n, cap⟩, l), (⟨g2, n2, c2⟩, lowB S 4)] = n + 6 := by
    unfold lensB; simp [lowB_len, ← HN.out]; omega
  refine (cConcat (cap := 3) hR (by simp) (by rw [hlens]; omega) (by rw [hlens]; omega) (by simp)).mono ?_
  rintro e w3 ⟨r, rfl, ho, hB3⟩
  have HF : Hid (OwnB w3 w.heap.size r (frameB l)) := hid (by
    rw [hFr.out, show lowB n 2 ++ l ++ lowB S 4 = catB [((⟨g1, n1, c1⟩ : Sv), lowB n 2), (⟨a, n, cap⟩, l), (⟨g2, n2, c2⟩, lowB S 4)] from by unfold catB; simp]
    exact own_monoB ho hBx.size)
  have HB3 := hid (hBx.trans (hB3.mono hBx.size))
  obtain ⟨g3, c3, n3, rfl, hg3⟩ := ho.asSlice
  clear ho hg3 hB3 hR hlens hBx hB12
  go_wp2_with fail
  go_ret2
  exact ⟨_, rfl, HF.out, HB3.out⟩

theorem lit_two (w : World) (x y : UInt8) : OwnB (w.alloc (.cells #[.int .u8 x.toNat, .int .u8 y.toNat] 5)) w.heap.size (.slice (some ⟨w.heap.size, 0, none⟩) 2 2) [x, y] :=
  World.ownsRow_lit w #[.int .u8 x.toNat, .int .u8 y.toNat] 2 (Nat.le_refl _) (by unfold maxLen; omega) rfl

end Go.Proofs.YtpkkmfppdhjpkaaGreat
/- The mathematics of a log's frames: what comes whole, whose sum is right. -/
namespace Go.Proofs.YtpkkmfppdhjpkaaGreat
set_option linter.unusedVariables false

/-- How many bytes are in the frame with which a log begins. -/
def firstN (log : List UInt8) : Option Nat :=
  if log.length < 2 then none
  else if wholeN (log.take 2) = 0 ∨ log.length < wholeN (log.take 2) + 6 then none
  else if wholeN ((log.drop (wholeN (log.take 2) + 2)).take 4) = sumN ((log.drop 2).take (wholeN (log.take 2))) then some (wholeN (log.take 2))
  else none
theorem first_some {log : List UInt8} {n : Nat} (h : firstN log = some n) : 1 ≤ n ∧ n ≤ 65535 ∧ n + 6 ≤ log.length ∧ wholeN (log.take 2) = n ∧ wholeN ((log.drop (n + 2)).take 4) = sumN ((log.drop 2).take n) := by
  unfold firstN at h
  split at h
  · cases h
  · split at h
    · cases h
    · split at h
      · rename_i h1 h2 h3
        cases h
        have hl : (log.take 2).length = 2 := by rw [List.length_take]; omega
        have hw := whole_lt (log.take 2)
        rw [hl] at hw
        have : (256 : Nat) ^ 2 = 65536 := by decide
        refine ⟨by omega, by omega, by omega, rfl, h3⟩
      · cases h
theorem first_short {log : List UInt8} (h : log.length < 2) : firstN log = none := by unfold firstN; rw [if_pos h]
theorem first_part {log : List UInt8} (h : ¬ log.length < 2) (h2 : wholeN (log.take 2) = 0 ∨ log.length < wholeN (log.take 2) + 6) : firstN log = none := by unfold firstN; rw [if_neg h, if_pos h2]
theorem first_wrong {log : List UInt8} {n : Nat} (h : ¬ log.length < 2) (hn : wholeN (log.take 2) = n) (h2 : ¬ (n = 0 ∨ log.length < n + 6)) (h3 : ¬ wholeN ((log.drop (n + 2)).take 4) = sumN ((log.drop 2).take n)) : firstN log = none := by
  subst hn; unfold firstN; rw [if_neg h, if_neg h2, if_neg h3]
theorem first_right {log : List UInt8} {n : Nat} (h : ¬ log.length < 2) (hn : wholeN (log.take 2) = n) (h2 : ¬ (n = 0 ∨ log.length < n + 6)) (h3 : wholeN ((log.drop (n + 2)).take 4) = sumN ((log.drop 2).take n)) : firstN log = some n := by
  subst hn; unfold firstN; rw [if_neg h, if_neg h2, if_pos h3]

/-- What is in the frames, and how many bytes these are. -/
def scanN (log : List UInt8) : List (List UInt8) × Nat :=
  match h : firstN log with
  | none => ([], 0)
  | some n => ((log.drop 2).take n :: (scanN (log.drop (n + 6))).1, n + 6 + (scanN (log.drop (n + 6))).2)
termination_by log.length
decreasing_by all_goals (rw [List.length_drop]; have := first_some h; omega)
theorem scan_stop {log : List UInt8} (h : firstN log = none) : scanN log = ([], 0) := by
  rw [scanN]; split
  · rfl
  · rename_i n hn; rw [h] at hn; cases hn
theorem scan_next {log : List UInt8} {n : Nat} (h : firstN log = some n) : scanN log = ((log.drop 2).take n :: (scanN (log.drop (n + 6))).1, n + 6 + (scanN (log.drop (n + 6))).2) := by
  rw [scanN]; split
  · rename_i hn; rw [h] at hn; cases hn
  · rename_i m hm; rw [h] at hm; cases hm; rfl
/-- Behind some frames. -/
def Behind (log : List UInt8) (out : List (List UInt8)) (k : Nat) : Prop := scanN log = (out ++ (scanN (log.drop k)).1, k + (scanN (log.drop k)).2)
theorem Behind.start (log : List UInt8) : Behind log [] 0 := by unfold Behind; rw [List.drop_zero, List.nil_append, Nat.zero_add]
theorem Behind.next {log : List UInt8} {out : List (List UInt8)} {k n : Nat} (h : Behind log out k) (hn : firstN (log.drop k) = some n) : Behind log (out ++ [((log.drop k).drop 2).take n]) (k + n + 6) := by
  unfold Behind at *
  have e : (log.drop k).drop (n + 6) = log.drop (k + n + 6) := by rw [List.drop_drop, show k + (n + 6) = k + n + 6 by omega]
  rw [h, scan_next hn, List.append_assoc, e]
  exact congrArg (Prod.mk _) (by dsimp only; omega)
theorem Behind.stop {log : List UInt8} {out : List (List UInt8)} {k : Nat} (h : Behind log out k) (hn : firstN (log.drop k) = none) : scanN log = (out, k) := by
  unfold Behind at *
  rw [h, scan_stop hn, List.append_nil]; rfl

/-! Frames, one behind the other. -/
theorem frame_take (l : List UInt8) (h : l.length ≤ 65535) (rest : List UInt8) : wholeN ((frameB l ++ rest).take 2) = l.length := by
  unfold frameB
  rw [List.append_assoc, List.append_assoc, List.take_append_of_le_length (by rw [lowB_len]; omega), List.take_of_length_le (by rw [lowB_len]; omega)]
  exact whole_low 2 _ (by omega)
theorem frame_inner (l rest : List UInt8) : ((frameB l ++ rest).drop 2).take l.length = l := by
  unfold frameB
  rw [List.append_assoc, List.append_assoc, List.drop_append_of_le_length (by rw [lowB_len]; omega), List.drop_of_length_le (by rw [lowB_len]; omega), List.nil_append, List.take_append_of_le_length (by omega), List.take_of_length_le (by omega)]
theorem frame_sum (l rest : List UInt8) : ((frameB l ++ rest).drop (l.length + 2)).take 4 = lowB (sumN l) 4 := by
  unfold frameB
  rw [List.append_assoc, List.drop_append_of_le_length (by rw [List.length_append, lowB_len]; omega), List.drop_of_length_le (by rw [List.length_append, lowB_len]; omega), List.nil_append, List.take_append_of_le_length (by rw [lowB_len]; omega), List.take_of_length_le (by rw [lowB_len]; omega)]
theorem frame_first {l : List UInt8} (h : 1 ≤ l.length) (h2 : l.length ≤ 65535) (rest : List UInt8) : firstN (frameB l ++ rest) = some l.length := by
  have hl : (frameB l ++ rest).length = l.length + 6 + rest.length := by rw [List.length_append, frame_len]
  refine first_right (by omega) (frame_take l h2 rest) (by omega) ?_
  rw [frame_sum, frame_inner]
  exact whole_low 4 _ (by have := sumN_lt l; omega)
theorem frame_scan {l : List UInt8} (h : 1 ≤ l.length) (h2 : l.length ≤ 65535) (rest : List UInt8) : scanN (frameB l ++ rest) = (l :: (scanN rest).1, l.length + 6 + (scanN rest).2) := by
  rw [scan_next (frame_first h h2 rest), frame_inner]
  have hd : (frameB l ++ rest).drop (l.length + 6) = rest := by
    rw [List.drop_append_of_le_length (by rw [frame_len]; omega), List.drop_of_length_le (by rw [frame_len]; omega), List.nil_append]
  rw [hd]
/-- The beginning of a frame is none. -/
theorem part_first {l : List UInt8} (h : 1 ≤ l.length) (h2 : l.length ≤ 65535) {k : Nat} (hk : k < l.length + 6) : firstN ((frameB l).take k) = none := by
  have hl : ((frameB l).take k).length = k := by rw [List.length_take, frame_len]; omega
  by_cases h3 : k < 2
  · exact first_short (by omega)
  · have e : wholeN (((frameB l).take k).take 2) = l.length := by
      rw [List.take_take, Nat.min_eq_left (by omega)]
      have := frame_take l h2 []
      rwa [List.append_nil] at this
    exact first_part (by omega) (.inr (by rw [e]; omega))
def framesB (ls : List (List UInt8)) : List UInt8 := ls.flatMap frameB
theorem frames_nil : framesB [] = [] := rfl
theorem frames_cons (l : List UInt8) (ls : List (List UInt8)) : framesB (l :: ls) = frameB l ++ framesB ls := by unfold framesB; rw [List.flatMap_cons]
theorem frames_snoc (ls : List (List UInt8)) (l : List UInt8) : framesB (ls ++ [l]) = framesB ls ++ frameB l := by unfold framesB; simp
def FineL (ls : List (List UInt8)) : Prop := ∀ l ∈ ls, 1 ≤ l.length ∧ l.length ≤ 65535
theorem frames_scan : ∀ (ls : List (List UInt8)) (rest : List UInt8), FineL ls → firstN rest = none → scanN (framesB ls ++ rest) = (ls, (framesB ls).length)
  | [], rest, _, hr => by rw [frames_nil, List.nil_append, scan_stop hr]; rfl
  | l :: ls, rest, h, hr => by
    have hl := h l (List.mem_cons_self ..)
    rw [frames_cons, List.append_assoc, frame_scan hl.1 hl.2, frames_scan ls rest (fun x hx => h x (List.mem_cons_of_mem _ hx)) hr, List.length_append, frame_len]
theorem scan_nil : scanN [] = ([], 0) := scan_stop (first_short (by simp))
/-- TORN. -/
theorem torn {ls : List (List UInt8)} (h : FineL ls) {m k : Nat} (hm : m < ls.length) (h1 : (framesB (ls.take m)).length ≤ k) (h2 : k < (framesB (ls.take (m + 1))).length) : scanN ((framesB ls).take k) = (ls.take m, (framesB (ls.take m)).length) := by
  obtain ⟨l, hl⟩ : ∃ l, ls[m]? = some l := ⟨ls[m], List.getElem?_eq_getElem hm⟩
  have hf := h l (List.mem_of_getElem? hl)
  have hsn : ls.take (m + 1) = ls.take m ++ [l] := takeN_snoc hl
  have e : ls = ls.take m ++ l :: ls.drop (m + 1) := by
    obtain ⟨hh, rfl⟩ := List.getElem?_eq_some_iff.1 hl
    rw [← List.drop_eq_getElem_cons hh, List.take_append_drop]
  rw [hsn, frames_snoc, List.length_append, frame_len] at h2
  have e2 : framesB ls = framesB (ls.take m) ++ (frameB l ++ framesB (ls.drop (m + 1))) := by
    have : framesB (ls.take m ++ l :: ls.drop (m + 1)) = framesB (ls.take m) ++ framesB (l :: ls.drop (m + 1)) := by unfold framesB; rw [List.flatMap_append]
    rw [← e, frames_cons] at this
    exact this
  have e3 : (framesB ls).take k = framesB (ls.take m) ++ (frameB l).take (k - (framesB (ls.take m)).length) := by
    rw [e2, List.take_append, List.take_of_length_le h1, List.take_append_of_le_length (by rw [frame_len]; omega)]
  rw [e3]
  exact frames_scan _ _ (fun x hx => h x (List.mem_of_mem_take hx)) (part_first hf.1 hf.2 (by omega))
theorem whole_scan {ls : List (List UInt8)} (h : FineL ls) : scanN (framesB ls) = (ls, (framesB ls).length) := by
  have := frames_scan ls [] h (first_short (by simp))
  rwa [List.append_nil] at this

/-- ONE BYTE. -/
theorem turned_first {l : List UInt8} (h : 1 ≤ l.length) (h2 : l.length ≤ 65535) {k : Nat} (hk : 2 ≤ k) (hk2 : k < l.length + 6) {x y : UInt8} (hx : (frameB l)[k]? = some x) (hy : y ≠ x) : firstN ((frameB l).set k y) = none := by
  have hl : ((frameB l).set k y).length = l.length + 6 := by rw [List.length_set, frame_len]
  have e : wholeN (((frameB l).set k y).take 2) = l.length := by
    rw [List.take_set_of_le (by omega)]
    have := frame_take l h2 []
    rwa [List.append_nil] at this
  refine first_wrong (by omega) e (by omega) ?_
  have hfi := frame_inner l []
  have hfs := frame_sum l []
  rw [List.append_nil] at hfi hfs
  by_cases hkk : k < l.length + 2
  · have e1 : (((frameB l).set k y).drop (l.length + 2)).take 4 = lowB (sumN l) 4 := by
      rw [List.drop_set_of_lt hkk, hfs]
    have hxl : l[k - 2]? = some x := by
      have : ((frameB l).drop 2)[k - 2]? = some x := by rw [List.getElem?_drop, show 2 + (k - 2) = k by omega]; exact hx
      rw [← hfi, List.getElem?_take, if_pos (by omega)]; exact this
    have e2 : (((frameB l).set k y).drop 2).take l.length = l.set (k - 2) y := by
      rw [List.drop_set, if_neg (by omega), List.take_set, hfi]
    rw [e1, e2, whole_low 4 _ (by have := sumN_lt l; omega)]
    intro hh
    obtain ⟨hlt, hxe⟩ := List.getElem?_eq_some_iff.1 hxl
    have hd : l = l.take (k - 2) ++ x :: l.drop (k - 2 + 1) := by
      rw [← hxe, ← List.drop_eq_getElem_cons hlt, List.take_append_drop]
    have hs : l.set (k - 2) y = l.take (k - 2) ++ y :: l.drop (k - 2 + 1) := by
      rw [List.set_eq_take_append_cons_drop, if_pos hlt]
    rw [hs] at hh
    have := sum_other (a := l.take (k - 2)) (c := l.drop (k - 2 + 1)) hy
    apply this
    rw [← hh, ← hd]
  · have e2 : (((frameB l).set k y).drop 2).take l.length = l := by
      rw [List.drop_set, if_neg (by omega), List.take_set_of_le (by omega), hfi]
    have e1 : (((frameB l).set k y).drop (l.length + 2)).take 4 = (lowB (sumN l) 4).set (k - (l.length + 2)) y := by
      rw [List.drop_set, if_neg (by omega), List.take_set, hfs]
    rw [e1, e2]
    intro hh
    have h4 : ((lowB (sumN l) 4).set (k - (l.length + 2)) y).length = 4 := by rw [List.length_set, lowB_len]
    have h5 := low_whole ((lowB (sumN l) 4).set (k - (l.length + 2)) y)
    rw [h4, hh] at h5
    have hxl : (lowB (sumN l) 4)[k - (l.length + 2)]? = some x := by
      rw [← hfs, List.getElem?_take, if_pos (by omega), List.getElem?_drop, show l.length + 2 + (k - (l.length + 2)) = k by omega]; exact hx
    have h6 : ((lowB (sumN l) 4).set (k - (l.length + 2)) y)[k - (l.length + 2)]? = some y := by
      rw [List.getElem?_set_self (by rw [lowB_len]; omega)]
    rw [← h5, hxl] at h6
    exact hy (Option.some.inj h6).symm
end Go.Proofs.YtpkkmfppdhjpkaaGreat

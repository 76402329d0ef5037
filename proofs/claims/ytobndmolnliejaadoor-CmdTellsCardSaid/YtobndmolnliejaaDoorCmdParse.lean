/- Plain mathematics of a command's text: the text of a command, the command of a text, there and back. No program in this text. -/
import Derived.Test.YtobndmolnliejaaDoorCmdPlain
namespace Go.Proofs.YtobndmolnliejaaDoor
open Go.Lib

structure Cm where
  i : Int
  k : Int
  s : Int
  t : Int
  d : Int
  p : Int
  q : Int
  deriving DecidableEq
def Cm.zero : Cm := ⟨0, 0, 0, 0, 0, 0, 0⟩

def nameB' (x : Int) : Bool := decide (16 ≤ x ∧ x < 4112 ∧ x % 16 ≤ 8)
def betw (x g : Int) : Bool := decide (0 ≤ x ∧ x ≤ g)
/-- Whether a command may be. -/
def Cm.ok (c : Cm) : Bool :=
  nameB' c.i && betw c.s 3 &&
    (if c.k = 0 then c.t == 0 && betw c.d 1 && betw c.p 1048576 && betw c.q 1048576
     else if c.k = 1 then nameB' c.t && betw c.d 0 && betw c.p 0 && betw c.q 0
     else if c.k = 2 then nameB' c.t && betw c.d 0 && betw c.p 0 && betw c.q 1048576
     else false)

def wPlace : List UInt8 := [112, 108, 97, 99, 101]
def wCancel : List UInt8 := [99, 97, 110, 99, 101, 108]
def wAmend : List UInt8 := [97, 109, 101, 110, 100]
def wBuy : List UInt8 := [98, 117, 121]
def wSell : List UInt8 := [115, 101, 108, 108]
def kindWd (k : Int) : List UInt8 := if k = 0 then wPlace else if k = 1 then wCancel else if k = 2 then wAmend else []
def sideWd (d : Int) : List UInt8 := if d = 1 then wSell else wBuy
/-- The words of a command's text. -/
def Cm.words (c : Cm) : List (List UInt8) :=
  if c.k = 0 then [fig c.i, wPlace, fig c.s, sideWd c.d, fig c.p, fig c.q]
  else if c.k = 1 then [fig c.i, wCancel, fig c.s, fig c.t]
  else [fig c.i, wAmend, fig c.s, fig c.t, fig c.q]
def Cm.text (c : Cm) : List UInt8 := join c.words [32]

/-! ### Reading, word by word -/
def numW (l : List UInt8) : Option Int := match atoiAll l with
  | .ok v => if itoa v = l then some v else none
  | _ => none
def kindW (l : List UInt8) : Option Int := if l = wPlace then some 0 else if l = wCancel then some 1 else if l = wAmend then some 2 else none
def sideW (l : List UInt8) : Option Int := if l = wBuy then some 0 else if l = wSell then some 1 else none
def hdW (ws : List (List UInt8)) : List UInt8 := ws.headD []
def val (o : Option Int) : Int := o.getD 0
/-- What is left, and whether a word was wrong. -/
abbrev St := List (List UInt8) × Bool
def St.takes (f : List UInt8 → Option Int) (st : St) : St := (st.1.tail, st.2 || (f (hdW st.1)).isNone)
def St.gives (f : List UInt8 → Option Int) (st : St) : Int := val (f (hdW st.1))

def readPlace (i s : Int) (st : St) : Cm × St :=
  (⟨i, 0, s, 0, st.gives sideW, (st.takes sideW).gives numW, ((st.takes sideW).takes numW).gives numW⟩, ((st.takes sideW).takes numW).takes numW)
def readCancel (i s : Int) (st : St) : Cm × St := (⟨i, 1, s, st.gives numW, 0, 0, 0⟩, st.takes numW)
def readAmend (i s : Int) (st : St) : Cm × St := (⟨i, 2, s, st.gives numW, 0, 0, (st.takes numW).gives numW⟩, (st.takes numW).takes numW)
def readCm (st : St) : Cm × St :=
  let i := st.gives numW
  let st1 := st.takes numW
  let k := st1.gives kindW
  let st2 := st1.takes kindW
  let s := st2.gives numW
  let st3 := st2.takes numW
  if k = 0 then readPlace i s st3 else if k = 1 then readCancel i s st3 else readAmend i s st3
/-- The command whose text it is, and 0; or none, and 2. -/
def parseF (l : List UInt8) : Cm × Int :=
  let r := readCm (spl 6 l, false)
  if r.2.2 = true ∨ r.2.1 ≠ [] ∨ r.1.ok = false then (Cm.zero, 2) else (r.1, 0)

theorem numW_nil : numW [] = none := rfl
theorem kindW_nil : kindW [] = none := rfl
theorem sideW_nil : sideW [] = none := rfl
theorem numW_some {l : List UInt8} {v : Int} (h : numW l = some v) : itoa v = l := by
  unfold numW at h
  split at h
  · split at h
    · cases h; assumption
    · cases h
  · cases h
theorem numW_fig (n : Int) (h0 : 0 ≤ n) (h : n ≤ 1048576) : numW (fig n) = some n := by
  unfold numW; rw [atoi_fig n h0 h]; simp [itoa_fig n h0]

theorem name_bd {x : Int} (h : nameB' x = true) : 0 ≤ x ∧ x ≤ 1048576 := by unfold nameB' at h; simp at h; omega
theorem betw_bd {x g : Int} (h : betw x g = true) : 0 ≤ x ∧ x ≤ g := by unfold betw at h; simpa using h

/-- The words of a command that may be are read back. -/
theorem read_words (c : Cm) (h : c.ok = true) : readCm (c.words, false) = (c, ([], false)) := by
  obtain ⟨i, k, s, t, d, p, q⟩ := c
  unfold Cm.ok at h
  simp only [Bool.and_eq_true] at h
  obtain ⟨⟨hi, hs⟩, hr⟩ := h
  have ⟨i0, i1⟩ := name_bd hi
  have ⟨s0, s1⟩ := betw_bd hs
  have ni := numW_fig i i0 i1
  have ns := numW_fig s s0 (by omega)
  by_cases k0 : k = 0
  · subst k0
    simp only [if_true, Bool.and_eq_true, beq_iff_eq] at hr
    obtain ⟨⟨⟨rfl, hd⟩, hp⟩, hq⟩ := hr
    have ⟨d0, d1⟩ := betw_bd hd
    have ⟨p0, p1⟩ := betw_bd hp
    have ⟨q0, q1⟩ := betw_bd hq
    have np := numW_fig p p0 p1
    have nq := numW_fig q q0 q1
    have nd : sideW (sideWd d) = some d := by
      rcases (by omega : d = 0 ∨ d = 1) with rfl | rfl <;> decide
    simp [Cm.words, readCm, readPlace, St.takes, St.gives, ni, ns, np, nq, nd, val, kindW, hdW]
  by_cases k1 : k = 1
  · subst k1
    simp at hr
    obtain ⟨⟨⟨ht, hd⟩, hp⟩, hq⟩ := hr
    have ⟨t0, t1⟩ := name_bd ht
    have ⟨d0, d1⟩ := betw_bd hd
    have ⟨p0, p1⟩ := betw_bd hp
    have ⟨q0, q1⟩ := betw_bd hq
    have nt := numW_fig t t0 t1
    obtain rfl : d = 0 := by omega
    obtain rfl : p = 0 := by omega
    obtain rfl : q = 0 := by omega
    have nk : kindW wCancel = some 1 := by decide
    simp [Cm.words, readCm, readCancel, St.takes, St.gives, ni, ns, nt, nk, val, hdW]
  by_cases k2 : k = 2
  · subst k2
    simp at hr
    obtain ⟨⟨⟨ht, hd⟩, hp⟩, hq⟩ := hr
    have ⟨t0, t1⟩ := name_bd ht
    have ⟨d0, d1⟩ := betw_bd hd
    have ⟨p0, p1⟩ := betw_bd hp
    have ⟨q0, q1⟩ := betw_bd hq
    have nt := numW_fig t t0 t1
    have nq := numW_fig q q0 q1
    obtain rfl : d = 0 := by omega
    obtain rfl : p = 0 := by omega
    have nk : kindW wAmend = some 2 := by decide
    simp [Cm.words, readCm, readAmend, St.takes, St.gives, ni, ns, nt, nq, nk, val, hdW]
  · simp [k0, k1, k2] at hr

theorem words_blank (c : Cm) : ∀ w ∈ c.words, (32 : UInt8) ∉ w := by
  intro w hw
  have hp : (32 : UInt8) ∉ wPlace := by decide
  have hc : (32 : UInt8) ∉ wCancel := by decide
  have ha : (32 : UInt8) ∉ wAmend := by decide
  have hsd : (32 : UInt8) ∉ sideWd c.d := by unfold sideWd; split <;> decide
  unfold Cm.words at hw
  split at hw
  · simp at hw; rcases hw with rfl | rfl | rfl | rfl | rfl | rfl <;> first | exact fig_blank _ | assumption
  · split at hw
    · simp at hw; rcases hw with rfl | rfl | rfl | rfl <;> first | exact fig_blank _ | assumption
    · simp at hw; rcases hw with rfl | rfl | rfl | rfl | rfl <;> first | exact fig_blank _ | assumption

theorem spl_words : ∀ (ws : List (List UInt8)) (k : Nat), ws ≠ [] → ws.length ≤ k + 1 → (∀ w ∈ ws, (32 : UInt8) ∉ w) → spl k (join ws [32]) = ws
  | [], _, h, _, _ => absurd rfl h
  | [x], k, _, _, h => by rw [join_one, spl_last k x (h x (by simp))]
  | x :: y :: r, k, _, hl, h => by
    obtain ⟨k, rfl⟩ : ∃ j, k = j + 1 := ⟨k - 1, by simp at hl; omega⟩
    rw [join_cons2, spl_cons k x _ (h x (by simp)), spl_words (y :: r) k (by simp) (by simp at hl ⊢; omega) (fun w hw => h w (by simp [hw]))]

theorem spl_text (c : Cm) : spl 6 c.text = c.words := by
  unfold Cm.text
  refine spl_words _ 6 ?_ ?_ (words_blank c)
  · unfold Cm.words; split <;> (try split) <;> simp
  · unfold Cm.words; split <;> (try split) <;> simp

theorem parse_text (c : Cm) (h : c.ok = true) : parseF c.text = (c, 0) := by
  unfold parseF
  rw [spl_text, read_words c h]
  simp [h]

theorem takes_bad (f : List UInt8 → Option Int) (st : St) (h : (st.takes f).2 = false) : st.2 = false ∧ ∃ v, f (hdW st.1) = some v := by
  unfold St.takes at h
  simp at h
  refine ⟨h.1, ?_⟩
  cases hf : f (hdW st.1) with
  | none => simp [hf] at h
  | some v => exact ⟨v, rfl⟩
/-- A word that was taken, and is not wrong, was there. -/
theorem took {f : List UInt8 → Option Int} (hn : f [] = none) {ws : List (List UInt8)} {v : Int} (h : f (hdW ws) = some v) : ∃ x, ws = x :: ws.tail ∧ f x = some v := by
  cases ws with
  | nil => simp [hdW, hn] at h
  | cons x r => exact ⟨x, rfl, h⟩

theorem kindW_some {l : List UInt8} {v : Int} (h : kindW l = some v) : (v = 0 ∧ l = wPlace) ∨ (v = 1 ∧ l = wCancel) ∨ (v = 2 ∧ l = wAmend) := by
  unfold kindW at h
  split at h
  · simp at h; exact Or.inl ⟨h.symm, by assumption⟩
  · split at h
    · simp at h; exact Or.inr (Or.inl ⟨h.symm, by assumption⟩)
    · split at h
      · simp at h; exact Or.inr (Or.inr ⟨h.symm, by assumption⟩)
      · cases h
theorem sideW_some {l : List UInt8} {v : Int} (h : sideW l = some v) : l = sideWd v := by
  unfold sideW at h
  split at h
  · simp at h; subst h; assumption
  · split at h
    · simp at h; subst h; assumption
    · cases h

/-- One word that was taken right. -/
theorem step {f : List UInt8 → Option Int} (hn : f [] = none) {st : St} (h : (st.takes f).2 = false) : st.2 = false ∧ ∃ x v, st.1 = x :: (st.takes f).1 ∧ f x = some v ∧ st.gives f = v := by
  obtain ⟨h0, v, hv⟩ := takes_bad f st h
  obtain ⟨x, hx, hfx⟩ := took hn hv
  exact ⟨h0, x, v, hx, hfx, by unfold St.gives; rw [hv]; rfl⟩
theorem fig_of {x : List UInt8} {v : Int} (h : numW x = some v) (h0 : 0 ≤ v) : fig v = x := by rw [← itoa_fig v h0]; exact numW_some h
theorem ok_bd {c : Cm} (h : c.ok = true) : 0 ≤ c.i ∧ 0 ≤ c.s ∧ ((c.k = 0 ∧ 0 ≤ c.p ∧ 0 ≤ c.q) ∨ (c.k = 1 ∧ 0 ≤ c.t) ∨ (c.k = 2 ∧ 0 ≤ c.t ∧ 0 ≤ c.q)) := by
  obtain ⟨i, k, s, t, d, p, q⟩ := c
  unfold Cm.ok at h
  simp only [Bool.and_eq_true] at h
  obtain ⟨⟨hi, hs⟩, hr⟩ := h
  refine ⟨(name_bd hi).1, (betw_bd hs).1, ?_⟩
  by_cases k0 : k = 0
  · simp [k0] at hr; exact Or.inl ⟨k0, (betw_bd hr.1.2).1, (betw_bd hr.2).1⟩
  by_cases k1 : k = 1
  · simp [k1] at hr; exact Or.inr (Or.inl ⟨k1, (name_bd hr.1.1.1).1⟩)
  by_cases k2 : k = 2
  · simp [k2] at hr; exact Or.inr (Or.inr ⟨k2, (name_bd hr.1.1.1).1, (betw_bd hr.2).1⟩)
  · simp [k0, k1, k2] at hr
/-- What was read right, of words, to the last one, are the words of what was read. -/
theorem words_read (ws : List (List UInt8)) (h1 : (readCm (ws, false)).2.2 = false) (h2 : (readCm (ws, false)).2.1 = []) (h3 : (readCm (ws, false)).1.ok = true) : (readCm (ws, false)).1.words = ws := by
  have hb := ok_bd h3
  clear h3
  unfold readCm at h1 h2 hb ⊢
  simp only at h1 h2 hb ⊢
  generalize e0 : ((ws, false) : St) = st0 at h1 h2 hb ⊢
  generalize e1 : St.takes numW st0 = st1 at h1 h2 hb ⊢
  generalize e2 : St.takes kindW st1 = st2 at h1 h2 hb ⊢
  generalize e3 : St.takes numW st2 = st3 at h1 h2 hb ⊢
  have key : st3.2 = false → ∃ x0 v0 x1 v1 x2 v2, ws = x0 :: x1 :: x2 :: st3.1 ∧ numW x0 = some v0 ∧ St.gives numW st0 = v0 ∧ kindW x1 = some v1 ∧ St.gives kindW st1 = v1 ∧ numW x2 = some v2 ∧ St.gives numW st2 = v2 := by
    intro h
    rw [← e3] at h
    obtain ⟨a2, x2, v2, b2, c2, d2⟩ := step numW_nil h
    rw [← e2] at a2
    obtain ⟨a1, x1, v1, b1, c1, d1⟩ := step kindW_nil a2
    rw [← e1] at a1
    obtain ⟨a0, x0, v0, b0, c0, d0⟩ := step numW_nil a1
    rw [e3] at b2; rw [e2] at b1; rw [e1] at b0
    refine ⟨x0, v0, x1, v1, x2, v2, ?_, c0, d0, c1, d1, c2, d2⟩
    rw [← e0] at b0
    exact b0.trans (by rw [b1, b2])
  split at h1
  · rename_i hk
    rw [if_pos hk] at h2 hb ⊢
    unfold readPlace at h1 h2 hb ⊢
    simp only at h1 h2 hb ⊢
    obtain ⟨a5, x5, v5, b5, c5, d5⟩ := step numW_nil h1
    obtain ⟨a4, x4, v4, b4, c4, d4⟩ := step numW_nil a5
    obtain ⟨a3, x3, v3, b3, c3, d3⟩ := step sideW_nil a4
    obtain ⟨x0, v0, x1, v1, x2, v2, hw, n0, g0, n1, g1, n2, g2⟩ := key a3
    simp only [d3, d4, d5, g0, g2] at hb ⊢
    simp at hb
    obtain ⟨y0, y2, y4, y5⟩ := hb
    rw [g1] at hk; subst hk
    rcases kindW_some n1 with ⟨_, rfl⟩ | ⟨hh, _⟩ | ⟨hh, _⟩
    · rw [hw, b3, b4, b5, h2]
      simp [Cm.words, fig_of n0 y0, fig_of n2 y2, fig_of c4 y4, fig_of c5 y5, sideW_some c3]
    · cases hh
    · cases hh
  · rename_i hk
    rw [if_neg hk] at h2 hb ⊢
    split at h1
    · rename_i hk1
      rw [if_pos hk1] at h2 hb ⊢
      unfold readCancel at h1 h2 hb ⊢
      simp only at h1 h2 hb ⊢
      obtain ⟨a3, x3, v3, b3, c3, d3⟩ := step numW_nil h1
      obtain ⟨x0, v0, x1, v1, x2, v2, hw, n0, g0, n1, g1, n2, g2⟩ := key a3
      simp only [d3, g0, g2] at hb ⊢
      simp at hb
      obtain ⟨y0, y2, y3⟩ := hb
      rw [g1] at hk1; subst hk1
      rcases kindW_some n1 with ⟨hh, _⟩ | ⟨_, rfl⟩ | ⟨hh, _⟩
      · cases hh
      · rw [hw, b3, h2]
        simp [Cm.words, fig_of n0 y0, fig_of n2 y2, fig_of c3 y3]
      · cases hh
    · rename_i hk1
      rw [if_neg hk1] at h2 hb ⊢
      unfold readAmend at h1 h2 hb ⊢
      simp only at h1 h2 hb ⊢
      obtain ⟨a4, x4, v4, b4, c4, d4⟩ := step numW_nil h1
      obtain ⟨a3, x3, v3, b3, c3, d3⟩ := step numW_nil a4
      obtain ⟨x0, v0, x1, v1, x2, v2, hw, n0, g0, n1, g1, n2, g2⟩ := key a3
      simp only [d3, d4, g0, g2] at hb ⊢
      simp at hb
      obtain ⟨y0, y2, y3, y4⟩ := hb
      rw [g1] at hk hk1
      rcases kindW_some n1 with ⟨hh, _⟩ | ⟨hh, _⟩ | ⟨_, rfl⟩
      · exact absurd hh hk
      · exact absurd hh hk1
      · rw [hw, b3, b4, h2]
        simp [Cm.words, fig_of n0 y0, fig_of n2 y2, fig_of c3 y3, fig_of c4 y4]

theorem parse_ok (l : List UInt8) (h : (parseF l).2 = 0) : (parseF l).1.ok = true ∧ (parseF l).1.text = l := by
  unfold parseF at h ⊢
  simp only at h ⊢
  split at h
  · cases h
  · rename_i hc
    rw [if_neg hc]
    have a1 : (readCm (spl 6 l, false)).2.2 = false := by
      cases hx : (readCm (spl 6 l, false)).2.2 with
      | false => rfl
      | true => exact absurd (Or.inl hx) hc
    have a2 : (readCm (spl 6 l, false)).2.1 = [] := Classical.byContradiction fun e => hc (Or.inr (Or.inl e))
    have a3 : (readCm (spl 6 l, false)).1.ok = true := by
      cases hx : (readCm (spl 6 l, false)).1.ok with
      | true => rfl
      | false => exact absurd (Or.inr (Or.inr hx)) hc
    refine ⟨a3, ?_⟩
    unfold Cm.text
    rw [words_read _ a1 a2 a3, spl_join]
theorem parse_no (l : List UInt8) (h : (parseF l).2 ≠ 0) : parseF l = (Cm.zero, 2) := by
  unfold parseF at h ⊢
  simp only at h ⊢
  split at h
  · rename_i hc; rw [if_pos hc]
  · exact absurd rfl h
/-- A reader that tells only commands with this text, and each of them, tells what parseF tells. -/
theorem parse_unique (l : List UInt8) (c : Cm) (h : c.ok = true ∧ c.text = l) : parseF l = (c, 0) := by
  rw [← h.2]; exact parse_text c h.1
theorem parse_none (l : List UInt8) (h : ∀ c : Cm, ¬ (c.ok = true ∧ c.text = l)) : parseF l = (Cm.zero, 2) :=
  parse_no l fun e => h _ (parse_ok l e)
end Go.Proofs.YtobndmolnliejaaDoor

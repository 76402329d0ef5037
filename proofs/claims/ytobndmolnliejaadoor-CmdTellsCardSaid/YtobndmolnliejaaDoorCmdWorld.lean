/- What the library's functions ask of the world, carried over new blocks; strconv.Itoa, strconv.Atoi, strings.SplitN, strings.Join in the form that this layer's proofs use. -/
import Derived.Test.YtobndmolnliejaaDoorShelf
import Derived.Test.YtobndmolnliejaaDoorCmdMayBe
import Derived.Test.YtobndmolnliejaaDoorCmdParse
import Derived.Lib.AppendIntMem
namespace Go.Proofs.YtobndmolnliejaaDoor
set_option linter.unusedVariables false
open Go.RowKit Go.Lib

abbrev str (l : List UInt8) : Value := .string ⟨l.toArray⟩
/-- The library's variables read as the program's text lays them. -/
def Okw (w : World) : Prop :=
  Lib.TabIs Tryd.prog w "internal/strconv.uint64pow10" .u64 Lib.pow10Tab ∧ (∃ m, w.cell? ⟨1, 0, none⟩ = some (.int .i64 m)) ∧
  (∃ tp p, w.var? Tryd.prog "strconv.ErrSyntax" = some #[.iface tp p]) ∧ (∃ tp p, w.var? Tryd.prog "strconv.ErrRange" = some #[.iface tp p])

theorem lt_of_cell {w : World} {b o : Nat} {v : Value} (h : w.cell? ⟨b, o, none⟩ = some v) : b < w.heap.size := by
  rcases Nat.lt_or_ge b w.heap.size with h' | h'
  · exact h'
  · simp [World.cell?, Array.getElem?_eq_none h'] at h
theorem var_on {w w' : World} {B : Nat} (hb : Below B w w') (hB : w.heap.size ≤ B) {name : String} {v : Array Value} (h : w.var? Tryd.prog name = some v) : w'.var? Tryd.prog name = some v := by
  unfold World.var? at *
  cases hg : Tryd.prog.globalNamed name with
  | none => simp [hg] at h
  | some g =>
    simp only [hg, Option.bind_some] at h ⊢
    have hlt : g < w.heap.size := by
      rcases Nat.lt_or_ge g w.heap.size with h' | h'
      · exact h'
      · rw [Array.getElem?_eq_none h'] at h; simp at h
    rw [hb.block g (by omega)]
    exact h
theorem Okw.on {w w' : World} (h : Okw w) (hb : Below w.heap.size w w') : Okw w' := by
  obtain ⟨h1, ⟨m, h2⟩, ⟨t3, p3, h3⟩, t4, p4, h4⟩ := h
  exact ⟨var_on hb (Nat.le_refl _) h1, ⟨m, by rw [hb.cell (lt_of_cell h2)]; exact h2⟩, ⟨t3, p3, var_on hb (Nat.le_refl _) h3⟩, t4, p4, var_on hb (Nat.le_refl _) h4⟩

theorem cItoa (n : Int) (h0 : -9223372036854775808 ≤ n) (h1 : n ≤ 9223372036854775807) (w : World) (ok : Okw w) :
    Calls Tryd.prog 20 #[.int .i64 n] w fun e w' => e = .returned (str (itoa n)) ∧ Below w.heap.size w w' :=
  (Tryd.strconv_Itoa n h0 h1 w ok.1).mono fun e w' ⟨he, k, os, hw⟩ => ⟨he, hw ▸ below_grow _ w (Nat.le_refl _) k os⟩

/-- What strconv.Atoi hands back. -/
def AtoiEnd (s : ByteArray) (w : World) (e : Ending) (w' : World) : Prop :=
  Below w.heap.size w w' ∧ ((∃ v, atoiAll s.data.toList = .ok v ∧ e = .returned (.tuple #[.int .i64 v, .nilIface])) ∨
    ((∀ v, atoiAll s.data.toList ≠ .ok v) ∧ ∃ x t p, e = .returned (.tuple #[.int .i64 x, .iface t p])))
theorem cAtoi (s : ByteArray) (hs : s.size ≤ 1000) (w : World) (ok : Okw w) : Calls Tryd.prog 42 #[.string s] w (AtoiEnd s w) := by
  obtain ⟨_, _, ⟨t3, p3, h3⟩, t4, p4, h4⟩ := ok
  rcases hc : atoiAll s.data.toList with v | _ | _
  · exact (Tryd.strconv_Atoi_ok s (by omega) v hc w).mono fun e w' ⟨he, hw⟩ => ⟨by
      rcases hw with rfl | ⟨t, rfl⟩
      · exact Below.refl _ _
      · exact bytesWorld_below _ _ _, Or.inl ⟨v, hc, he⟩⟩
  · exact (Any.strconv_Atoi_syntax_var Tryd.laysC172 s (by omega) hc t3 p3 w h3).mono fun e w' ⟨N, he, _, _, hb⟩ => ⟨hb, Or.inr ⟨fun v => by rw [hc]; simp, _, _, _, he⟩⟩
  · exact (Any.strconv_Atoi_range_var Tryd.laysC172 s (by omega) hc t4 p4 w h4).mono fun e w' ⟨N, he, _, _, hb⟩ => ⟨hb, Or.inr ⟨fun v => by rw [hc]; simp, _, _, _, he⟩⟩

/-- The cells from an address on are strings. -/
def Strs (w : World) (b o : Nat) (ws : List (List UInt8)) : Prop := ∀ (j : Nat) x, ws[j]? = some x → w.cell? ⟨b, o + j, none⟩ = some (str x)

theorem cJoin (b o c : Nat) (xs : List (List UInt8)) (w : World) (hc : ∀ (j : Nat) x, xs[j]? = some x → w.cell? ⟨b, o + j, none⟩ = some (str x)) (hb : b < w.heap.size) (hN : xs.length ≤ 1000) (hcap : xs.length ≤ c) (hlen : (join xs [32]).length ≤ 100000) :
    Calls Tryd.prog 24 #[.slice (some ⟨b, o, none⟩) xs.length c, .string ⟨#[32]⟩] w fun e w' => e = .returned (str (join xs [32])) ∧ Below w.heap.size w w' := by
  have e1 : (xs.map fun x => (⟨x.toArray⟩ : ByteArray)).map (·.data.toList) = xs := by rw [List.map_map]; simp [Function.comp_def]
  have h := Tryd.strings_Join b o c (xs.map fun x => (⟨x.toArray⟩ : ByteArray)) ⟨#[32]⟩ w ?_ hb (by simp; omega) (by simpa using hcap) ?_
  · rw [e1, List.length_map] at h; exact h
  · intro j x hx
    simp only [List.getElem?_map, Option.map_eq_some_iff] at hx
    obtain ⟨y, hy, rfl⟩ := hx
    exact hc j y hy
  · rw [e1]; show (join xs [32]).length ≤ _; omega

theorem spl_more : ∀ (k j : Nat) (l : List UInt8), l.length ≤ k → spl (k + j) l = spl k l
  | 0, j, l, h => by
    obtain rfl : l = [] := List.length_eq_zero_iff.1 (by omega)
    rw [spl_last _ [] (by simp), spl_last _ [] (by simp)]
  | k + 1, j, l, h => by
    rw [show k + 1 + j = (k + j) + 1 from by omega, spl, spl]
    split
    · rfl
    · rename_i hi
      obtain ⟨i, _, hl, _⟩ := index_nat l hi
      rw [spl_more k j _ (by simp; omega)]
theorem spl_min (l : List UInt8) : spl (min 7 (l.length + 1) - 1) l = spl 6 l := by
  by_cases h : 6 ≤ l.length
  · rw [show min 7 (l.length + 1) - 1 = 6 from by omega]
  · rw [show min 7 (l.length + 1) - 1 = l.length from by omega]
    have := spl_more l.length (6 - l.length) l (Nat.le_refl _)
    rw [show l.length + (6 - l.length) = 6 from by omega] at this
    exact this.symm
theorem spl_len : ∀ (k : Nat) (l : List UInt8), (spl k l).length ≤ k + 1
  | 0, l => by simp [spl]
  | k + 1, l => by
    rw [spl]; split
    · simp
    · have := spl_len k (l.drop ((indexByte l 32).toNat + 1)); simp; omega
theorem spl_len2 : ∀ (k : Nat) (l : List UInt8), (spl k l).length ≤ l.length + 1
  | 0, l => by simp [spl]
  | k + 1, l => by
    rw [spl]; split
    · simp
    · rename_i hi
      obtain ⟨i, he, hl, _⟩ := index_nat l hi
      have := spl_len2 k (l.drop ((indexByte l 32).toNat + 1))
      rw [he] at this ⊢
      simp at this ⊢; omega

/-- The pieces that strings.SplitN hands back: in one new block. -/
theorem cSplit (s : ByteArray) (hs : s.size ≤ 1000) (w : World) (ok : Okw w) :
    Calls Tryd.prog 27 #[.string s, .string ⟨#[32]⟩, .int .i64 7] w fun e w' =>
      ∃ cs, e = .returned (.slice (some ⟨w.heap.size, 0, none⟩) (spl 6 s.data.toList).length cs.size) ∧ w' = w.alloc (.cells cs 9) ∧ (spl 6 s.data.toList).length ≤ cs.size ∧ cs.size ≤ 7 ∧ Strs w' w.heap.size 0 (spl 6 s.data.toList) := by
  obtain ⟨_, ⟨m, hm⟩, _⟩ := ok
  refine (Tryd.strings_SplitN s ⟨#[32]⟩ 7 m w (by omega) hm (by decide) (by omega) (by omega)).mono ?_
  rintro e w' ⟨rfl, rfl⟩
  have hsz : s.size = s.data.toList.length := rfl
  have hq := spl_eq (min 7 (s.size + 1) - 1) s
  rw [hsz, spl_min, ← hsz] at hq
  have hl : (splitB ⟨#[32]⟩ 0 (min 7 (s.size + 1) - 1) s).length = (spl 6 s.data.toList).length := by rw [← hq, List.length_map]
  have h7 := spl_len 6 s.data.toList
  have hn := spl_len2 6 s.data.toList
  have hcs : (Lib.cellsOf (splitB ⟨#[32]⟩ 0 (min 7 (s.size + 1) - 1) s) (min 7 (s.size + 1))).size = min 7 (s.size + 1) := cellsOf_size (by rw [hl]; omega)
  refine ⟨_, by rw [hcs, hl], rfl, by rw [hcs]; omega, by rw [hcs]; omega, ?_⟩
  intro j x hx
  rw [← hq] at hx
  simp only [List.getElem?_map, Option.map_eq_some_iff] at hx
  obtain ⟨y, hy, rfl⟩ := hx
  have hj : j < (splitB ⟨#[32]⟩ 0 (min 7 (s.size + 1) - 1) s).length := by rw [List.getElem?_eq_some_iff] at hy; exact hy.1
  rw [World.cell?_alloc_new]
  unfold Lib.cellsOf
  have hy2 := List.getElem?_eq_getElem hj
  rw [hy] at hy2
  have hy3 := Option.some.inj hy2
  simp [List.getElem?_append, hj, ← hy3]
end Go.Proofs.YtobndmolnliejaaDoor

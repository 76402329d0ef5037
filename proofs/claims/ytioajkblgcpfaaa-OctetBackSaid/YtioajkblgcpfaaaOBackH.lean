/- There and back: what errors leave, how short bytes are. -/
import Derived.Test.YtioajkblgcpfaaaOReads
import Derived.Test.YtioajkblgcpfaaaCPutVL
namespace Go.Proofs.Ytioajkblgcpfaaa
set_option linter.unusedVariables false
open Go.RowKit
open Go.Lib (hid)

/-- Once something went wrong nothing is left. -/
def Spent (s : St) : Prop := s.2 ≠ 0 → s.1 = []
theorem spent_num {s : St} (h : Spent s) : Spent (numS s).2 := by
  unfold numS
  by_cases hs : s.2 = 0
  · rw [if_pos hs]
    rcases hn : numOf s.1 with ⟨n, r⟩ | _ | _
    · exact fun hh => absurd rfl hh
    · exact fun _ => rfl
    · exact fun _ => rfl
  · rw [if_neg hs]; exact h
theorem spent_raw {s : St} (h : Spent s) : Spent (cmdRaw s).2 := by
  unfold cmdRaw
  exact spent_num (spent_num (spent_num (spent_num (spent_num (spent_num (spent_num h))))))
theorem spent_cmd {s : St} (h : Spent s) : Spent (cmdS s).2 := by
  unfold cmdS
  dsimp only
  split
  · split
    · exact spent_raw h
    · exact fun _ => rfl
  · exact spent_raw h
theorem spent_go : ∀ (k : Nat) (out : List C7) (s : St), Spent s → Spent (cmdsGo k out s).2
  | 0, out, s, h => h
  | k + 1, out, s, h => by
    rw [cmdsGo]
    split
    · exact spent_go k _ _ (spent_cmd h)
    · exact h
theorem spent_cmds {s : St} (h : Spent s) : Spent (cmdsS s).2 := by
  unfold cmdsS
  dsimp only
  split
  · exact fun _ => rfl
  · split
    · exact spent_go _ _ _ (spent_num h)
    · exact spent_go _ _ _ (spent_num h)
theorem spent_value {s : St} (h : Spent s) : Spent (valueS s).2 := by
  unfold valueS
  dsimp only
  split
  · split
    · exact spent_cmds (spent_num h)
    · exact fun _ => rfl
  · exact spent_cmds (spent_num h)
theorem oneN_pos (n : Nat) : 1 ≤ (oneN n).length := List.length_pos_iff.2 (oneN_ne n)
theorem bytes_seven (c : C7) : 7 ≤ c.bytes.length := by
  unfold C7.bytes
  simp only [List.length_append]
  have := oneN_pos c.i.toNat; have := oneN_pos c.k.toNat; have := oneN_pos c.s.toNat; have := oneN_pos c.t.toNat; have := oneN_pos c.d.toNat; have := oneN_pos c.p.toNat; have := oneN_pos c.q.toNat
  omega
theorem cmdsB_seven : ∀ l : List C7, 7 * l.length ≤ (cmdsB l).length
  | [] => by simp
  | c :: l => by
    have h := cmdsB_seven l
    have h7 := bytes_seven c
    unfold cmdsB at *
    rw [List.flatMap_cons, List.length_append, List.length_cons]; omega
theorem valueBytes_few {t : Int} {l : List C7} : 7 * l.length + 2 ≤ (valueBytes t l).length := by
  have h := cmdsB_seven l
  have h1 := oneN_pos t.toNat
  have h2 := oneN_pos l.length
  unfold valueBytes cmdsBytes
  simp only [List.length_append]
  omega
theorem putAll_drop {l : List Int} {k : Nat} {x : Int} (h : l[k]? = some x) : putAll (l.drop k) = oneN x.toNat ++ putAll (l.drop (k + 1)) := by
  obtain ⟨hlt, rfl⟩ := List.getElem?_eq_some_iff.1 h
  rw [List.drop_eq_getElem_cons hlt]
  unfold putAll
  rw [List.flatMap_cons]
theorem cat_bytes {a b c : List UInt8} (h : a ++ b = c) : (⟨a.toArray⟩ : ByteArray) ++ ⟨b.toArray⟩ = ⟨c.toArray⟩ := by
  subst h
  apply ByteArray.ext
  simp
theorem valueBytes_len {t : Int} {l : List C7} (ht : 0 ≤ t) (ht1 : t ≤ 1099511627776) (h : l.all C7.ok = true) (hl : l.length ≤ 1024) : (valueBytes t l).length ≤ 12 + 42 * l.length := by
  have h1 := cmdsBytes_len l h hl
  have h6 := oneN_six (n := t.toNat) (by omega)
  unfold valueBytes
  rw [List.length_append]; omega
theorem own_alloc {w : World} {B : Nat} {v : Value} {cs : List C7} (h : Own w B v cs) (o : Obj) : Own (w.alloc o) B v cs := World.ownsRow.alloc h o
theorem own_allocSl {w : World} {B : Nat} {v : Value} {cs : List C7} (h : Own w B v cs) (o : Obj) : Sl (w.alloc o) v cs := (own_alloc h o).sl
abbrev boxV (t : Int) (v : Value) : Obj := .cells #[.int .i64 t, v] 34
end Go.Proofs.Ytioajkblgcpfaaa

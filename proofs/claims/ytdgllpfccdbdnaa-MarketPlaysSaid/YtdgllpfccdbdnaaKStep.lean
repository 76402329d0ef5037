/- Rows of the document's orders: a copy, one turned; append as one step of a region that draws its order; the document's Meets. -/
import Derived.Test.YtdgllpfccdbdnaaKRow
import Derived.Maps.AppendAt
namespace Go.Proofs.Ytdgllpfccdbdnaa
set_option linter.unusedVariables false
set_option linter.unusedSimpArgs false
open Go.RowKit
open Go.Lib (hid)

theorem OwnR.nilOr {w : World} {B : Nat} {v : Value} {L : List Od} (h : OwnR w B v L) (h0 : L = []) : v = .slice none 0 0 ∨ ∃ ad c, v = .slice (some ad) 0 c := by
  subst h0
  rcases h.shape with ⟨rfl, _⟩ | ⟨g, cap, rfl, _⟩
  · exact .inl rfl
  · exact .inr ⟨_, _, rfl⟩
/-- append of a whole row into a new one. -/
theorem wpList_copy_or {w0 w : World} {ops : Array Oper} {rest : List Oper} {o : Oper} {a : Act} {Q : Exit → Act → World → Prop} (hgd : o.guard = none) (s x : Operand) (ho : o.op = .call { callee := .builtin .append, args := #[s, x], argTypes := #[27, 27] })
    {B : Nat} {v : Value} {L : List Od} (hw : w = w0.alloc (.cells #[] 71)) {N : Nat} (hs : a.eval s = .slice (some ⟨N, 0, none⟩) 0 0) (hN : N = w0.heap.size) (hx : a.eval x = v) (hv : OwnR w0 B v L) (hl : L.length ≤ 1000)
    (h : ∀ v' w', OwnR w' w0.heap.size v' L → Below w0.heap.size w0 w' → wpList Try.prog ops Q rest (a.put o.dst v') w') : wpList Try.prog ops Q (o :: rest) a w := by
  subst hw hN
  have hb : Below w0.heap.size w0 (w0.alloc (.cells #[] 71)) := (Below.refl _ w0).alloc (Nat.le_refl _) _
  have hv2 := hv.on hb
  have hm := OwnR.made w0 (B := w0.heap.size) (Nat.le_refl _)
  refine wpList_append_or hgd s x ho w0.heap.size _ [] hs hm v L hx (OwnG.slG kO hv2) (OwnR.nilOr hv2) (by simp; omega) (by simp) fun v' w' h1 h2 => h v' w' (by simpa using h1) ?_
  exact hb.grown h2 (by simp) fun k hk => (hm.lt k hk).1
theorem flat_set4 {l : List Od} {k : Nat} {o : Od} (q : Int) (ho : l[k]? = some o) : ((((flatG Od.cells l).set (k * 4) (.int .i64 o.i)).set (k * 4 + 1) (.int .i64 o.s)).set (k * 4 + 2) (.int .i64 o.p)).set (k * 4 + 3) (.int .i64 q) = flatG Od.cells (l.set k { o with n := q }) := by
  have hat := fun f u hu => flatG_at kO l k o ho f u hu
  have h0 := hat 0 _ rfl
  have h1 := hat 1 _ rfl
  have h2 := hat 2 _ rfl
  have e : ∀ {i : Nat} {u : Value}, (flatG Od.cells l)[i]? = some u → (flatG Od.cells l).set i u = flatG Od.cells l := fun {i u} hi => by
    obtain ⟨hlt, rfl⟩ := List.getElem?_eq_some_iff.1 hi
    exact List.set_getElem_self hlt
  rw [show k * 4 = k * 4 + 0 from rfl, e h0, e h1, e h2, flat_set l k o q ho]
theorem row_set4 {w : World} {B g n cap : Nat} {l : List Od} (h : OwnR w B (.slice (some ⟨g, 0, none⟩) n cap) l) {k : Nat} {o : Od} (ho : l[k]? = some o) (q : Int) :
    OwnR ((((w.setCell ⟨g, k * 4, none⟩ (.int .i64 o.i)).setCell ⟨g, k * 4 + 1, none⟩ (.int .i64 o.s)).setCell ⟨g, k * 4 + 2, none⟩ (.int .i64 o.p)).setCell ⟨g, k * 4 + 3, none⟩ (.int .i64 q)) B (.slice (some ⟨g, 0, none⟩) n cap) (l.set k { o with n := q }) := by
  have hn : n = l.length := by
    obtain ⟨_, _, _, e, hn⟩ := h.asSlice
    injection e with _ e2 _
    rw [e2, hn]
  subst hn
  have h1 := (World.ownsRow.stored h (k * 4) (.int .i64 o.i)).1
  have h2 := (World.ownsRow.stored h1 (k * 4 + 1) (.int .i64 o.s)).1
  have h3 := (World.ownsRow.stored h2 (k * 4 + 2) (.int .i64 o.p)).1
  have h4 := (World.ownsRow.stored h3 (k * 4 + 3) (.int .i64 q)).1
  rw [flat_set4 q ho] at h4
  show World.ownsRow _ _ _ _ _ _ _
  rw [List.length_set]
  exact h4
theorem row_set1 {w : World} {B g n cap : Nat} {l : List Od} (h : OwnR w B (.slice (some ⟨g, 0, none⟩) n cap) l) {k : Nat} {o : Od} (ho : l[k]? = some o) (q : Int) :
    OwnR (w.setCell ⟨g, k * 4 + 3, none⟩ (.int .i64 q)) B (.slice (some ⟨g, 0, none⟩) n cap) (l.set k { o with n := q }) := by
  have hn : n = l.length := by
    obtain ⟨_, _, _, e, hn⟩ := h.asSlice
    injection e with _ e2 _
    rw [e2, hn]
  subst hn
  have h1 := (World.ownsRow.stored h (k * 4 + 3) (.int .i64 q)).1
  rw [flat_set l k o q ho] at h1
  show World.ownsRow _ _ _ _ _ _ _
  rw [List.length_set]
  exact h1

/-- append of one, as one step of a region that draws its order. -/
theorem step_append_or {ops : Array Oper} {o : Oper} {a : Act} {w : World} {K : Act → World → Prop} {Q : Exit → Act → World → Prop} {E : Prop} (hgd : o.guard = none) (s x : Operand) (ho : o.op = .call { callee := .builtin .append, args := #[s, x], argTypes := #[27, 27] })
    (B : Nat) (v : Value) (ps : List Od) (hs : a.eval s = v) (hown : OwnG Od.cells 4 71 w B v ps) (ad : Addr) (m c : Nat) (y : Od) (hx : a.eval x = .slice (some ad) m c) (h2 : SlG Od.cells 4 w (.slice (some ad) m c) [y]) (hlen : ps.length ≤ 100000) (hbase : B ≤ w.heap.size)
    (h : ∀ v' w', OwnG Od.cells 4 71 w' B v' (ps ++ [y]) → w.grownBy w' v.ownBlock → Fr w.heap.size v v' → K (a.put o.dst v') w') : if Region.wanted o (yielded ops a.tmps) = true then Oper.wp Try.prog o a w K Q else E := by
  have hw : Region.wanted o (yielded ops a.tmps) = true := by simp [Region.wanted, hgd]
  rw [if_pos hw]
  obtain ⟨i0, hi, hz0, hz1, hz2⟩ := info_parts Try.infoR
  obtain ⟨b, off, cap, a2, e, ha, hc, hl⟩ := h2
  injection e with e1 e2 e3
  subst e1 e2 e3
  obtain ⟨v', w', hr, ho', hg, _, hat⟩ := run_append_own_at (P := Try.prog) w B 27 o.type 71 i0 _ 4 32 Try.underlying27 hi hz0 hz1 hz2 rfl (by decide) v ps.length (flatG Od.cells ps) hown ad [y].length c (flatG Od.cells [y]) (flatG_len kO [y]) (fun j u hu => by
    obtain rfl := Option.some.inj (ha (by simp))
    rw [addr_add']
    rw [flatG_one] at hu
    have := hc 0 y rfl j u hu
    rw [show off + 0 * 4 + j = off + j by omega] at this
    exact this) (flatG_all oneO [y]) (by unfold maxLen; simp; omega) (by simp; omega) hbase
  unfold Oper.wp execOp
  simp only [ho, resolve, invoke, builtin, Sem.run_bind, Sem.run_pure, Result.andThen_ok, List.map_toArray, List.map_cons, List.map_nil, hs, hx, hr]
  refine h v' w' ?_ hg fun k hk => ?_
  · show World.ownsRow _ _ _ _ _ _ _
    rw [List.length_append, flatG_append]; exact ho'
  · rcases hat with e | e
    · exact .inl (e ▸ hk)
    · rw [e] at hk; cases hk; exact .inr (Nat.le_refl _)

/-- append of one, as one step of a region that draws its order. -/
theorem step_append_of {ops : Array Oper} {o : Oper} {a : Act} {w : World} {K : Act → World → Prop} {Q : Exit → Act → World → Prop} {E : Prop} (hgd : o.guard = none) (s x : Operand) (ho : o.op = .call { callee := .builtin .append, args := #[s, x], argTypes := #[35, 35] })
    (B : Nat) (v : Value) (ps : List Fl) (hs : a.eval s = v) (hown : OwnG Fl.cells 3 55 w B v ps) (ad : Addr) (m c : Nat) (y : Fl) (hx : a.eval x = .slice (some ad) m c) (h2 : SlG Fl.cells 3 w (.slice (some ad) m c) [y]) (hlen : ps.length ≤ 100000) (hbase : B ≤ w.heap.size)
    (h : ∀ v' w', OwnG Fl.cells 3 55 w' B v' (ps ++ [y]) → w.grownBy w' v.ownBlock → Fr w.heap.size v v' → K (a.put o.dst v') w') : if Region.wanted o (yielded ops a.tmps) = true then Oper.wp Try.prog o a w K Q else E := by
  have hw : Region.wanted o (yielded ops a.tmps) = true := by simp [Region.wanted, hgd]
  rw [if_pos hw]
  obtain ⟨i0, hi, hz0, hz1, hz2⟩ := info_parts Try.infoF
  obtain ⟨b, off, cap, a2, e, ha, hc, hl⟩ := h2
  injection e with e1 e2 e3
  subst e1 e2 e3
  obtain ⟨v', w', hr, ho', hg, _, hat⟩ := run_append_own_at (P := Try.prog) w B 35 o.type 55 i0 _ 3 24 Try.underlying35 hi hz0 hz1 hz2 rfl (by decide) v ps.length (flatG Fl.cells ps) hown ad [y].length c (flatG Fl.cells [y]) (flatG_len kF [y]) (fun j u hu => by
    obtain rfl := Option.some.inj (ha (by simp))
    rw [addr_add']
    rw [flatG_one] at hu
    have := hc 0 y rfl j u hu
    rw [show off + 0 * 3 + j = off + j by omega] at this
    exact this) (flatG_all oneF [y]) (by unfold maxLen; simp; omega) (by simp; omega) hbase
  unfold Oper.wp execOp
  simp only [ho, resolve, invoke, builtin, Sem.run_bind, Sem.run_pure, Result.andThen_ok, List.map_toArray, List.map_cons, List.map_nil, hs, hx, hr]
  refine h v' w' ?_ hg fun k hk => ?_
  · show World.ownsRow _ _ _ _ _ _ _
    rw [List.length_append, flatG_append]; exact ho'
  · rcases hat with e | e
    · exact .inl (e ▸ hk)
    · rw [e] at hk; cases hk; exact .inr (Nat.le_refl _)

/-- append of one into a row of one's own: where the new one lies. -/
theorem wpList_append_or1 {w : World} {ops : Array Oper} {rest : List Oper} {o : Oper} {a : Act} {Q : Exit → Act → World → Prop} (hgd : o.guard = none) (s x : Operand) (ho : o.op = .call { callee := .builtin .append, args := #[s, x], argTypes := #[27, 27] })
    (B : Nat) (v : Value) (ps : List Od) (hs : a.eval s = v) (hown : OwnR w B v ps) (ad : Addr) (m c : Nat) (y : Od) (hx : a.eval x = .slice (some ad) m c) (h2 : SlG Od.cells 4 w (.slice (some ad) m c) [y]) (hlen : ps.length ≤ 100000) (hbase : B ≤ w.heap.size)
    (h : ∀ v' w', OwnR w' B v' (ps ++ [y]) → w.grownBy w' v.ownBlock → Fr w.heap.size v v' → wpList Try.prog ops Q rest (a.put o.dst v') w') : wpList Try.prog ops Q (o :: rest) a w := by
  obtain ⟨i0, hi, hz0, hz1, hz2⟩ := info_parts Try.infoR
  obtain ⟨b, off, cap, a2, e, ha, hc, hl⟩ := h2
  injection e with e1 e2 e3
  subst e1 e2 e3
  refine wpList_append_own_at _ hgd s x 27 ho B 71 i0 _ 4 32 Try.underlying27 hi hz0 hz1 hz2 rfl (by decide) v ps.length (flatG Od.cells ps) hs hown ad [y].length c (flatG Od.cells [y]) hx (flatG_len kO [y]) (fun j u hu => ?_) (flatG_all oneO [y]) (by unfold maxLen; simp; omega) (by simp; omega) hbase ?_
  · obtain rfl := Option.some.inj (ha (by simp))
    rw [addr_add']
    rw [flatG_one] at hu
    have := hc 0 y rfl j u hu
    rw [show off + 0 * 4 + j = off + j by omega] at this
    exact this
  · intro v' w' ho' hg _ hat
    refine h v' w' ?_ hg fun k hk => ?_
    · show World.ownsRow _ _ _ _ _ _ _
      rw [List.length_append, flatG_append]; exact ho'
    · rcases hat with e | e
      · exact .inl (e ▸ hk)
      · rw [e] at hk; cases hk; exact .inr (Nat.le_refl _)

set_option maxHeartbeats 1600000 in
set_option maxRecDepth 100000 in
theorem rMeets0 (i p n i' p' n' : Int) (w : World) : Calls Try.prog 40 #[.agg #[.int .i64 i, .int .i64 0, .int .i64 p, .int .i64 n], .agg #[.int .i64 i', .int .i64 1, .int .i64 p', .int .i64 n']] w fun e w' => e = .returned (.bool (meetsB 0 p p')) ∧ Below w.heap.size w w' := by
  have hB : Below w.heap.size w ((w.alloc (.cells #[.int .i64 i, .int .i64 0, .int .i64 p, .int .i64 n] 71)).alloc (.cells #[.int .i64 i', .int .i64 1, .int .i64 p', .int .i64 n'] 71)) := ((Below.refl _ w).alloc (Nat.le_refl _) _).alloc (by simp) _
  have HB := hid hB
  clear hB
  by_cases hc : p' ≤ p
  · have hd : meetsB 0 p p' = true := by unfold meetsB; simp [hc]
    rw [hd]
    go_enter Try.func40, Try.ntmps40
    go_wp2_with fail
    go_ret
    exact ⟨ret_bool (by first | rfl | simp [hc]), HB.out⟩
  · have hd : meetsB 0 p p' = false := by unfold meetsB; simp [hc]
    rw [hd]
    go_enter Try.func40, Try.ntmps40
    go_wp2_with fail
    go_ret
    exact ⟨ret_bool (by first | rfl | simp [hc]), HB.out⟩

set_option maxHeartbeats 1600000 in
set_option maxRecDepth 100000 in
theorem rMeets1 (i p n i' p' n' : Int) (w : World) : Calls Try.prog 40 #[.agg #[.int .i64 i, .int .i64 1, .int .i64 p, .int .i64 n], .agg #[.int .i64 i', .int .i64 0, .int .i64 p', .int .i64 n']] w fun e w' => e = .returned (.bool (meetsB 1 p p')) ∧ Below w.heap.size w w' := by
  have hB : Below w.heap.size w ((w.alloc (.cells #[.int .i64 i, .int .i64 1, .int .i64 p, .int .i64 n] 71)).alloc (.cells #[.int .i64 i', .int .i64 0, .int .i64 p', .int .i64 n'] 71)) := ((Below.refl _ w).alloc (Nat.le_refl _) _).alloc (by simp) _
  have HB := hid hB
  clear hB
  by_cases hc : p ≤ p'
  · have hd : meetsB 1 p p' = true := by unfold meetsB; simp [hc]
    rw [hd]
    go_enter Try.func40, Try.ntmps40
    go_wp2_with fail
    go_ret
    exact ⟨ret_bool (by first | rfl | simp [hc]), HB.out⟩
  · have hd : meetsB 1 p p' = false := by unfold meetsB; simp [hc]
    rw [hd]
    go_enter Try.func40, Try.ntmps40
    go_wp2_with fail
    go_ret
    exact ⟨ret_bool (by first | rfl | simp [hc]), HB.out⟩
end Go.Proofs.Ytdgllpfccdbdnaa

/- The reader of words: number, kind, side: each takes a word, and tells what it is, or that it is wrong. -/
import Derived.Test.YtobndmolnliejaaDoorCmdNext
import Derived.Test.YtobndmolnliejaaDoorCmdKinds
namespace Go.Proofs.YtobndmolnliejaaDoor
open Go.RowKit Go.Lib Go.Maps

theorem var_grown {w w' : World} {bw : Nat} {xs : Array Value} {T : TypeId} {f : Nat × Nat} (hh : w.heap[bw]? = some (.cells xs T f)) (hg : w.grownBy w' (some bw)) {name : String} {v : Array Value} (h : w.var? Tryd.prog name = some v) (hne : v ≠ xs) : w'.var? Tryd.prog name = some v := by
  unfold World.var? at *
  cases hn : Tryd.prog.globalNamed name with
  | none => simp [hn] at h
  | some k =>
    simp only [hn, Option.bind_some] at h ⊢
    have hlt : k < w.heap.size := by
      rcases Nat.lt_or_ge k w.heap.size with h' | h'
      · exact h'
      · rw [Array.getElem?_eq_none h'] at h; simp at h
    by_cases e : k = bw
    · subst e
      rw [hh] at h
      exact absurd (Option.some.inj h).symm hne
    · rw [hg.block k hlt (by simpa using e)]
      exact h
theorem Okw.grown {w w' : World} {bw : Nat} {ws : List (List UInt8)} {g : Bool} (h : Okw w) (hw : WordsAt w bw ws g) (hg : w.grownBy w' (some bw)) : Okw w' := by
  obtain ⟨h1, ⟨m, h2⟩, ⟨t3, p3, h3⟩, t4, p4, h4⟩ := h
  obtain ⟨b, o, cap, hh, _⟩ := hw
  refine ⟨var_grown hh hg h1 (fun e => ?_), ⟨m, ?_⟩, ⟨t3, p3, var_grown hh hg h3 (fun e => ?_)⟩, t4, p4, var_grown hh hg h4 (fun e => ?_)⟩
  · have := congrArg Array.size e; simp [Lib.pow10Tab] at this
  · have hne : 1 ≠ bw := by
      rintro rfl
      rw [(cells_at hh).1] at h2
      simp at h2
    have e := World.cell?_of_block (a := ⟨1, 0, none⟩) (w := w) (hg.block _ (lt_of_cell h2) (by simpa using hne))
    rw [e]; exact h2
  · have := congrArg Array.size e; simp at this
  · have := congrArg Array.size e; simp at this

theorem grown_trans {a b c : World} {k : Nat} (h : a.grownBy b (some k)) (h' : b.grownBy c (some k)) : a.grownBy c (some k) :=
  ⟨h'.os.trans h.os, h'.tape.trans h.tape, h'.output.trans h.output, Nat.le_trans h.size h'.size, fun i hi hn => (h'.block i (Nat.lt_of_lt_of_le hi h.size) hn).trans (h.block i hi hn)⟩
theorem grown_below {a b : World} (k : Nat) (h : Below a.heap.size a b) : a.grownBy b (some k) := ⟨h.os, h.tape, h.output, h.size, fun i hi _ => h.block i hi⟩
theorem WordsAt.flag {w : World} {bw : Nat} {ws : List (List UInt8)} {g : Bool} (h : WordsAt w bw ws g) : w.cell? ⟨bw, 1, none⟩ = some (.bool g) ∧ w.frozen? ⟨bw, 1, none⟩ = false := by
  obtain ⟨b, o, cap, hh, _⟩ := h
  exact ⟨by rw [(cells_at hh).1]; rfl, (cells_at hh).2 1 rfl⟩
theorem WordsAt.lt {w : World} {bw : Nat} {ws : List (List UInt8)} {g : Bool} (h : WordsAt w bw ws g) : bw < w.heap.size := by
  obtain ⟨b, o, cap, hh, _⟩ := h
  exact (Array.getElem?_eq_some_iff.1 hh).1
theorem WordsAt.wrong {w : World} {bw : Nat} {ws : List (List UInt8)} {g : Bool} (h : WordsAt w bw ws g) : WordsAt (w.setCell ⟨bw, 1, none⟩ (.bool true)) bw ws true := by
  obtain ⟨b, o, cap, hh, hl, hc, hne, hs⟩ := h
  exact ⟨b, o, cap, by rw [heap_setCell_same hh]; rfl, hl, hc, hne, hs.kept (grown_setCell w bw 1 _) (by simpa using hne)⟩

/-- What a reader's call leaves. -/
def Took (f : List UInt8 → Option Int) (w : World) (bw : Nat) (ws : List (List UInt8)) (g : Bool) (e : Ending) (w' : World) : Prop :=
  e = .returned (.int .i64 (St.gives f (ws, g))) ∧ WordsAt w' bw (St.takes f (ws, g)).1 (St.takes f (ws, g)).2 ∧ w.grownBy w' (some bw)
theorem took_some {f : List UInt8 → Option Int} {w : World} {bw : Nat} {ws : List (List UInt8)} {g : Bool} {w' : World} {v : Int} (hv : f (hdW ws) = some v) (h1 : WordsAt w' bw ws.tail g) (h2 : w.grownBy w' (some bw)) : Took f w bw ws g (.returned (.int .i64 v)) w' := by
  refine ⟨?_, ?_, h2⟩
  · simp [St.gives, hv, val]
  · simpa [St.takes, hv] using h1
theorem took_none {f : List UInt8 → Option Int} {w : World} {bw : Nat} {ws : List (List UInt8)} {g : Bool} {w' : World} (hv : f (hdW ws) = none) (h1 : WordsAt w' bw ws.tail true) (h2 : w.grownBy w' (some bw)) : Took f w bw ws g (.returned (.int .i64 0)) w' := by
  refine ⟨?_, ?_, h2⟩
  · simp [St.gives, hv, val]
  · simpa [St.takes, hv] using h1

set_option maxRecDepth 100000 in
theorem cSide (bw : Nat) (ws : List (List UInt8)) (g : Bool) (w : World) (h : WordsAt w bw ws g) : Calls Tryd.prog 30 #[.pointer (some ⟨bw, 0, none⟩)] w (Took sideW w bw ws g) := by
  by_cases e0 : hdW ws = wBuy
  · have t0 : (hdW ws == [98, 117, 121]) = true := by simpa [wBuy] using e0
    have hv : Hid (sideW (hdW ws) = some 0) := by show sideW (hdW ws) = some 0; rw [e0]; rfl
    clear e0
    go_enter Tryd.func30, Tryd.ntmps30
    go_wp2_with (go_at_call 41; refine (cNext _ _ _ _ h).mono ?_; rintro e w1 ⟨rfl, h1, g1⟩)
    go_ret
    exact took_some hv.out h1 g1
  · have t0 : (hdW ws == [98, 117, 121]) = false := by simpa [wBuy] using e0
    by_cases e1 : hdW ws = wSell
    · have t1 : (hdW ws == [115, 101, 108, 108]) = true := by simpa [wSell] using e1
      have hv : Hid (sideW (hdW ws) = some 1) := by show sideW (hdW ws) = some 1; rw [e1]; rfl
      clear e0 e1
      go_enter Tryd.func30, Tryd.ntmps30
      go_wp2_with (go_at_call 41; refine (cNext _ _ _ _ h).mono ?_; rintro e w1 ⟨rfl, h1, g1⟩)
      go_ret
      exact took_some hv.out h1 g1
    · have t1 : (hdW ws == [115, 101, 108, 108]) = false := by simpa [wSell] using e1
      have hv : Hid (sideW (hdW ws) = none) := by show sideW (hdW ws) = none; unfold sideW; rw [if_neg e0, if_neg e1]
      clear e0 e1
      go_enter Tryd.func30, Tryd.ntmps30
      go_wp2_with (go_at_call 41; refine (cNext _ _ _ _ h).mono ?_; rintro e w1 ⟨rfl, h1, g1⟩; obtain ⟨c1, f1⟩ := h1.flag)
      go_ret
      exact took_none hv.out h1.wrong (grown_trans g1 (grown_setCell _ _ _ _))

theorem kinds_val {l : List UInt8} {c v : Int} (h : kindW l = some v) (hat : kindsD.atKey (Lit.string l) (DataW.lit (Lit.int .i64 0)) = DataW.lit (Lit.int .i64 c)) : c = v := by
  have := kinds_at l (ki 0)
  rw [h] at this
  rw [show kindsD.atKey (Lit.string l) (DataW.lit (Lit.int .i64 0)) = ki v from this] at hat
  injection hat with hat
  injection hat with _ hat
  exact hat.symm
theorem kinds_zero {l : List UInt8} {c : Int} (h : kindW l = none) (hat : kindsD.atKey (Lit.string l) (DataW.lit (Lit.int .i64 0)) = DataW.lit (Lit.int .i64 c)) : c = 0 := by
  have := kinds_at l (ki 0)
  rw [h] at this
  rw [show kindsD.atKey (Lit.string l) (DataW.lit (Lit.int .i64 0)) = ki 0 from this] at hat
  injection hat with hat
  injection hat with _ hat
  exact hat.symm

set_option maxRecDepth 100000 in
theorem cKind (bw : Nat) (ws : List (List UInt8)) (g : Bool) (w : World) (h : WordsAt w bw ws g) (hl : (hdW ws).length ≤ 1000) : Calls Tryd.prog 29 #[.pointer (some ⟨bw, 0, none⟩)] w (Took kindW w bw ws g) := by
  have hL := hid hl
  clear hl
  have HH := kinds_has (hdW ws)
  have hlt := h.lt
  have hne : ¬ w.heap.size = bw := by omega
  clear hlt
  cases hk : kindW (hdW ws) with
  | some v =>
    rw [hk] at HH
    have hh : Maps.has kindsD (Lit.string (hdW ws)) = true := HH
    have hK := hid hk
    clear HH hk
    go_enter Tryd.func29, Tryd.ntmps29
    go_wp2_with (first
      | (go_at_call 36; refine (cKinds _).mono ?_; rintro e w1 ⟨rfl, o1, b1, s1⟩; have h0 := h.kept b1; have g1 := hid (grown_below bw b1); clear b1 s1)
      | (go_at_call 41; refine (cNext _ _ _ _ h0).mono ?_; rintro e w2 ⟨rfl, h2, g2⟩; have o2 := o1.kept g2 (by simpa using hne); have g3 := hid (grown_trans g1.out g2); clear g2 g1; obtain ⟨c2, f2⟩ := h2.flag)
      | (at_lookup; refine wpList_lookup_own_ok_int _ rfl _ _ 63 rfl 9 29 .i64 lawS Tryd.underlying63 Tryd.underlying29 (zeroK _) w.heap.size 3 _ rfl o2 _ _ rfl (Go.WideMaps.keyOf_string_mk Tryd.underlying9 ?_) ?_))
    · have := hL.out
      show (hdW ws).toArray.size ≤ maxLen
      unfold maxLen; simp; omega
    · intro c hat hwc
      obtain rfl := kinds_val hK.out hat
      clear hat hwc
      go_wp2
      go_ret
      exact took_some hK.out h2 g3.out
  | none =>
    rw [hk] at HH
    have hh : Maps.has kindsD (Lit.string (hdW ws)) = false := HH
    have hK := hid hk
    clear HH hk
    go_enter Tryd.func29, Tryd.ntmps29
    go_wp2_with (first
      | (go_at_call 36; refine (cKinds _).mono ?_; rintro e w1 ⟨rfl, o1, b1, s1⟩; have h0 := h.kept b1; have g1 := hid (grown_below bw b1); clear b1 s1)
      | (go_at_call 41; refine (cNext _ _ _ _ h0).mono ?_; rintro e w2 ⟨rfl, h2, g2⟩; have o2 := o1.kept g2 (by simpa using hne); have g3 := hid (grown_trans g1.out g2); clear g2 g1; obtain ⟨c2, f2⟩ := h2.flag)
      | (at_lookup; refine wpList_lookup_own_ok_int _ rfl _ _ 63 rfl 9 29 .i64 lawS Tryd.underlying63 Tryd.underlying29 (zeroK _) w.heap.size 3 _ rfl o2 _ _ rfl (Go.WideMaps.keyOf_string_mk Tryd.underlying9 ?_) ?_))
    · have := hL.out
      show (hdW ws).toArray.size ≤ maxLen
      unfold maxLen; simp; omega
    · intro c hat hwc
      obtain rfl := kinds_zero hK.out hat
      clear hat hwc
      go_wp2
      go_ret
      exact took_none hK.out h2.wrong (grown_trans g3.out (grown_setCell _ _ _ _))

/-! number -/
theorem numW_ok {l : List UInt8} {v : Int} (h : atoiAll l = .ok v) : numW l = if itoa v = l then some v else none := by
  unfold numW; rw [h]
theorem numW_bad {l : List UInt8} (h : ∀ v, atoiAll l ≠ .ok v) : numW l = none := by
  unfold numW
  rcases hc : atoiAll l with v | _ | _
  · exact absurd hc (h v)
  · rfl
  · rfl

set_option maxRecDepth 100000 in
/-- What number's two calls of the library come to. -/
theorem cNumber_bad (bw : Nat) (ws : List (List UInt8)) (g : Bool) (w : World) (ok : Okw w) (h : WordsAt w bw ws g) (hl : (hdW ws).length ≤ 1000) (hb : ∀ v, atoiAll (hdW ws) ≠ .ok v) : Calls Tryd.prog 28 #[.pointer (some ⟨bw, 0, none⟩)] w (Took numW w bw ws g) := by
  have hK := hid (numW_bad hb)
  have hB := hid hb
  have hL := hid hl
  clear hb hl
  go_enter Tryd.func28, Tryd.ntmps28
  go_wp2_with (first
    | (go_at_call 41; refine (cNext _ _ _ _ h).mono ?_; rintro e w1 ⟨rfl, h1, g1⟩; have ok1 := ok.grown h g1)
    | (go_at_call 42; refine (cAtoi _ (by have := hL.out; show (hdW ws).toArray.size ≤ 1000; simp; omega) _ ok1).mono ?_; rintro e w2 ⟨b2, he⟩; obtain ⟨x, t, p, rfl⟩ : ∃ x t p, e = .returned (.tuple #[.int .i64 x, .iface t p]) := (by
        rcases he with ⟨v, hv, _⟩ | ⟨_, hx⟩
        · exact absurd hv (hB.out v)
        · exact hx); have h2 := h1.kept b2; have g2 := hid (grown_trans g1 (grown_below bw b2)); clear he b2 g1; obtain ⟨c2, f2⟩ := h2.flag))
  go_ret
  exact took_none hK.out h2.wrong (grown_trans g2.out (grown_setCell _ _ _ _))

set_option maxRecDepth 100000 in
theorem cNumber_ok (bw : Nat) (ws : List (List UInt8)) (g : Bool) (w : World) (ok : Okw w) (h : WordsAt w bw ws g) (hl : (hdW ws).length ≤ 1000) (v : Int) (hb : atoiAll (hdW ws) = .ok v) : Calls Tryd.prog 28 #[.pointer (some ⟨bw, 0, none⟩)] w (Took numW w bw ws g) := by
  have hK := numW_ok hb
  obtain ⟨v0, v1⟩ := atoiAll_bounds hb
  have hB := hid hb
  have hL := hid hl
  have v0' := hid v0
  have v1' := hid v1
  clear hb hl v0 v1
  by_cases hi : itoa v = hdW ws
  · rw [if_pos hi] at hK
    have hI : (itoa v == hdW ws) = true := by simpa using hi
    have hI' : (itoa v != hdW ws) = false := by simpa using hi
    have hK' := hid hK
    clear hi hK
    go_enter Tryd.func28, Tryd.ntmps28
    go_wp2_with (first
      | (go_at_call 41; refine (cNext _ _ _ _ h).mono ?_; rintro e w1 ⟨rfl, h1, g1⟩; have ok1 := ok.grown h g1)
      | (go_at_call 42; refine (cAtoi _ (by have := hL.out; show (hdW ws).toArray.size ≤ 1000; simp; omega) _ ok1).mono ?_; rintro e w2 ⟨b2, he⟩; obtain rfl : e = .returned (.tuple #[.int .i64 v, .nilIface]) := (by
          rcases he with ⟨v', hv, hx⟩ | ⟨hx, _⟩
          · have := hB.out.symm.trans hv
            injection this with this
            rw [hx, this]
          · exact absurd hB.out (hx v)); have ok2 := ok1.on b2; have h2 := h1.kept b2; have g2 := hid (grown_trans g1 (grown_below bw b2)); clear he b2 g1)
      | (go_at_call 20; refine (cItoa _ v0'.out v1'.out _ ok2).mono ?_; rintro e w3 ⟨rfl, b3⟩; have h3 := h2.kept b3; have g3 := hid (grown_trans g2.out (grown_below bw b3)); clear b3; obtain ⟨c3, f3⟩ := h3.flag))
    go_ret
    exact took_some hK'.out h3 g3.out
  · rw [if_neg hi] at hK
    have hI : (itoa v == hdW ws) = false := by simpa using hi
    have hI' : (itoa v != hdW ws) = true := by simpa using hi
    have hK' := hid hK
    clear hi hK
    go_enter Tryd.func28, Tryd.ntmps28
    go_wp2_with (first
      | (go_at_call 41; refine (cNext _ _ _ _ h).mono ?_; rintro e w1 ⟨rfl, h1, g1⟩; have ok1 := ok.grown h g1)
      | (go_at_call 42; refine (cAtoi _ (by have := hL.out; show (hdW ws).toArray.size ≤ 1000; simp; omega) _ ok1).mono ?_; rintro e w2 ⟨b2, he⟩; obtain rfl : e = .returned (.tuple #[.int .i64 v, .nilIface]) := (by
          rcases he with ⟨v', hv, hx⟩ | ⟨hx, _⟩
          · have := hB.out.symm.trans hv
            injection this with this
            rw [hx, this]
          · exact absurd hB.out (hx v)); have ok2 := ok1.on b2; have h2 := h1.kept b2; have g2 := hid (grown_trans g1 (grown_below bw b2)); clear he b2 g1)
      | (go_at_call 20; refine (cItoa _ v0'.out v1'.out _ ok2).mono ?_; rintro e w3 ⟨rfl, b3⟩; have h3 := h2.kept b3; have g3 := hid (grown_trans g2.out (grown_below bw b3)); clear b3; obtain ⟨c3, f3⟩ := h3.flag))
    go_ret
    exact took_none hK'.out h3.wrong (grown_trans g3.out (grown_setCell _ _ _ _))

theorem cNumber (bw : Nat) (ws : List (List UInt8)) (g : Bool) (w : World) (ok : Okw w) (h : WordsAt w bw ws g) (hl : (hdW ws).length ≤ 1000) : Calls Tryd.prog 28 #[.pointer (some ⟨bw, 0, none⟩)] w (Took numW w bw ws g) := by
  rcases hc : atoiAll (hdW ws) with v | _ | _
  · exact cNumber_ok bw ws g w ok h hl v hc
  · exact cNumber_bad bw ws g w ok h hl (fun v => by rw [hc]; simp)
  · exact cNumber_bad bw ws g w ok h hl (fun v => by rw [hc]; simp)
end Go.Proofs.YtobndmolnliejaaDoor

/- The words of a new object are taken: flags, collecting, ErrMemory. -/
import Derived.Test.YtfoncalkgmeklaaGreatYwM31
import Derived.BigQuiet
namespace Go.Proofs.YtfoncalkgmeklaaGreat
open Go.RowKit
variable {fx : Fx}

/-- The heap's own list of flags. -/
def FlagsOwn (w : World) (fx : Fx) : Prop := w.ownsRow 0 4 1 (.slice fx.fa fx.fl.length fx.fc) fx.fl.length (fx.fl.map Value.bool)
def Fx.to (fx : Fx) (n : Nat) : Fx := { fx with nx := n }
/-- The number of the flag behind the next one. -/
def Fx.after (fx : Fx) : Nat := if fx.fl.length = 0 then fx.nx else if fx.nx + 1 = fx.fl.length then 0 else fx.nx + 1

section
variable {w : World} {bh : Nat} {sl : List Slot} {op lim : Int} {ws : List Int} {a : Option Addr} {c : Nat}
theorem MB.flagCells (h : MB w bh [.bool false] lim ws (holdCells fx sl op) 67 a c) (hl : sl.length = 32) : w.cell? ⟨bh, 132, none⟩ = some (.slice fx.fa fx.fl.length fx.fc) ∧ w.cell? ⟨bh, 133, none⟩ = some (.int .i64 (fx.nx : Int)) ∧ w.frozen? ⟨bh, 133, none⟩ = false := by
  have := slotCells_len sl
  refine ⟨h.list.cell_of ?_, h.list.cell_of ?_, h.blk.frozen _⟩
  · rw [List.getElem?_append_right (by simp), List.getElem?_append_right (by simp; omega)]
    simp [this, hl, Fx.cells]
  · rw [List.getElem?_append_right (by simp), List.getElem?_append_right (by simp; omega)]
    simp [this, hl, Fx.cells]
theorem MB.setNext (h : MB w bh [.bool false] lim ws (holdCells fx sl op) 67 a c) (hl : sl.length = 32) (v : Nat) : MB (w.setCell ⟨bh, 133, none⟩ (.int .i64 (v : Int))) bh [.bool false] lim ws (holdCells (fx.to v) sl op) 67 a c := by
  have hb := h.list.setCell 133 (.int .i64 (v : Int))
  have := slotCells_len sl
  rw [List.set_append_right _ _ (by simp), List.set_append_right _ _ (by simp; omega), show 133 - [Value.bool false, .int .i64 lim, .slice a ws.length c].length - (slotCells sl).length = 2 by simp [this, hl]] at hb
  refine ⟨by simpa [holdCells, Fx.cells, Fx.to] using hb, ?_, h.ty⟩
  refine ownsRow_setCell_other' h.own (fun g hg e => ?_) _
  simp at e
  subst e
  exact h.nin (ownBlock_ab hg)
set_option maxHeartbeats 1000000 in
theorem nextFlag_none (h : MB w bh [.bool false] lim ws (holdCells fx sl op) 67 a c) (hl : sl.length = 32) (hn : fx.fl.length = 0) :
    Calls Tryz.prog 140 #[.pointer (some ⟨bh, 0, none⟩)] w fun e w' => e = .returned (.bool false) ∧ Chg [] w w' := by
  obtain ⟨c2, c3, _⟩ := h.flagCells hl
  rw [hn] at c2
  clear h
  have hd : ¬ ((fx.nx : Int) < 0) := by omega
  have hd2 : (fx.nx : Int) ≥ 0 := by omega
  generalize (fx.nx : Int) = x at *
  go_enter Tryz.func140, Tryz.ntmps140
  go_wp2_with fail
  go_quiet (fail)
  go_wp2
  go_ret
  exact ⟨rfl, (Chg.refl [] w).drewN _⟩
set_option maxHeartbeats 1000000 in
theorem nextFlag_some (h : MB w bh [.bool false] lim ws (holdCells fx sl op) 67 a c) (hl : sl.length = 32) (ho : FlagsOwn w fx) (hn : fx.nx < fx.fl.length) (hb : fx.fl.length ≤ 64) :
    Calls Tryz.prog 140 #[.pointer (some ⟨bh, 0, none⟩)] w fun e w' => e = .returned (.bool (fx.fl.getD fx.nx false)) ∧ MB w' bh [.bool false] lim ws (holdCells (fx.to fx.after) sl op) 67 a c ∧ Chg [bh] w w' := by
  obtain ⟨c2, c3, f3⟩ := h.flagCells hl
  obtain ⟨g, hg, hgl, hc⟩ := owns_at ho (by omega)
  have cg : w.cell? ⟨g, fx.nx, none⟩ = some (.bool (fx.fl.getD fx.nx false)) := hc _ _ (by simp [List.getD, hn])
  rw [hg] at c2
  have hgb : g ≠ bh := fun e => (owns_ty ho g (by rw [hg]; simp [ab])).ne (T' := 67) (by decide) (by rw [e]; exact h.blk.ty)
  have hd : ¬ ((fx.nx : Int) < 0) := by omega
  have hd2 : ¬ ((fx.nx : Int) ≥ (fx.fl.length : Int)) := by omega
  have hz : (fx.nx : Int) < (fx.fl.length : Int) := by omega
  have hz2 : (fx.nx : Int) ≤ 64 := by omega
  have ec : ((fx.nx + 1 : Nat) : Int) = (fx.nx : Int) + 1 := by omega
  have hm1 : Hid (∀ q1 q2 : Nat, MB (((w.drewN q1).setCell ⟨bh, 133, none⟩ (.int .i64 ((fx.nx : Int) + 1))).drewN q2) bh [.bool false] lim ws (holdCells (fx.to (fx.nx + 1)) sl op) 67 a c) := fun q1 q2 => by
    have := ((h.chg ((Chg.refl [] w).drewN q1) (by simp) (by simp)).setNext hl (fx.nx + 1)).chg ((Chg.refl [] _).drewN q2) (by simp) (by simp)
    rw [ec] at this
    exact this
  have hm0 : Hid (∀ q1 q2 : Nat, MB ((((w.drewN q1).setCell ⟨bh, 133, none⟩ (.int .i64 ((fx.nx : Int) + 1))).drewN q2).setCell ⟨bh, 133, none⟩ (.int .i64 0)) bh [.bool false] lim ws (holdCells (fx.to 0) sl op) 67 a c) := fun q1 q2 => (unhide hm1 q1 q2).setNext hl 0
  by_cases he : fx.nx + 1 = fx.fl.length
  · have ha : fx.after = 0 := by unfold Fx.after; rw [if_neg (by omega), if_pos he]
    have hde : ((fx.nx : Int) + 1 == (fx.fl.length : Int)) = true := by simp; omega
    rw [ha]
    clear hm1 h ho hc ha he hl ec
    generalize fx.fl.getD fx.nx false = b at *
    go_enter Tryz.func140, Tryz.ntmps140
    go_wp2_with fail
    go_quiet (fail)
    go_wp2_with fail
    go_quiet (fail)
    go_wp2_with fail
    go_quiet (fail)
    go_wp2
    go_ret
    exact ⟨rfl, unhide hm0 _ _, ((((Chg.refl _ w).drewN _).setCell (.inl (by simp)) _).drewN _).setCell (.inl (by simp)) _⟩
  · have ha : fx.after = fx.nx + 1 := by unfold Fx.after; rw [if_neg (by omega), if_neg he]
    have hde : ((fx.nx : Int) + 1 == (fx.fl.length : Int)) = false := by simp; omega
    rw [ha]
    clear hm0 h ho hc ha he hl ec
    generalize fx.fl.getD fx.nx false = b at *
    go_enter Tryz.func140, Tryz.ntmps140
    go_wp2_with fail
    go_quiet (fail)
    go_wp2_with fail
    go_quiet (fail)
    go_wp2_with fail
    go_quiet (fail)
    go_wp2
    go_ret
    exact ⟨rfl, unhide hm1 _ _, (((Chg.refl _ w).drewN _).setCell (.inl (by simp)) _).drewN _⟩
end

/-! Words for an object -/
set_option maxHeartbeats 1000000 in
theorem memAdd_none {w : World} {b : Nat} {pre : List Value} {lim : Int} {ws : List Int} {post : List Value} {T : TypeId} {a : Option Addr} {c : Nat} (k n : Int) (h : MB w b pre lim ws post T a c) (hl : ws.length ≤ 1000000) (hlim : 0 ≤ lim ∧ lim ≤ 1000000) (hk : 1 ≤ k ∧ k ≤ 3) (h0 : 0 ≤ n) (h1 : n ≤ 64) (hfit : lim - ws.length < wordsOf k n) :
    Calls Tryz.prog 141 #[.pointer (some ⟨b, pre.length, none⟩), .int .i64 k, .int .i64 n] w fun e w' => e = .returned (.tuple #[.int .i64 0, .bool false]) ∧ w' = w := by
  obtain ⟨hl0, hl1⟩ := hlim
  have hsp := memSpan_any k n w hk h0 h1
  obtain ⟨c0, c1, _⟩ := h.cells
  have hsub : IntKind.i64.wrap (lim - (ws.length : Int)) = lim - (ws.length : Int) := by rw [IntKind.wrap_i64]; omega
  have hgt : wordsOf k n > lim - (ws.length : Int) := by omega
  generalize wordsOf k n = m at *
  have HSP := hide hsp; clear hsp h hfit
  go_enter Tryz.func141, Tryz.ntmps141
  go_wp2_with fail
  refine (unhide HSP).mono ?_
  rintro e w1 ⟨rfl, rfl⟩
  go_wp2
  go_ret2
  exact ⟨rfl, rfl⟩
theorem memAdd_both {w : World} {bh : Nat} {pre0 : Value} {post : List Value} {T : TypeId} {a : Option Addr} {c : Nat} (u : R) (hu : RAll u) (h : MB w bh [pre0] u.limit u.words post T a c) (k n : Int) (hk : 1 ≤ k ∧ k ≤ 3) (h0 : 0 ≤ n) (h1 : n ≤ 64) :
    Calls Tryz.prog 141 #[.pointer (some ⟨bh, 1, none⟩), .int .i64 k, .int .i64 n] w fun e w' => (usedOf u.objs u.row + wordsOf k n > u.limit ∧ e = .returned (.tuple #[.int .i64 0, .bool false]) ∧ w' = w) ∨
      (usedOf u.objs u.row + wordsOf k n ≤ u.limit ∧ e = .returned (.tuple #[.int .i64 (u.words.length : Int), .bool true]) ∧ ∃ a' c', MB w' bh [pre0] u.limit (u.words ++ (k * 65536 + n) :: List.replicate ((wordsOf k n).toNat - 1) 0) post T a' c' ∧ Stp (bh :: ab a) w (bh :: ab a') w') := by
  have hsz := words_size hu.ok
  have hlim := hu.ok.inv.limit
  have hfit := words_fit hu
  by_cases hx : usedOf u.objs u.row + wordsOf k n > u.limit
  · refine (memAdd_none k n h (by omega) (by omega) hk h0 h1 (by omega)).mono ?_
    rintro e w' ⟨rfl, rfl⟩
    exact .inl ⟨hx, rfl, rfl⟩
  · refine (memAdd_any k n h (by omega) (by omega) hk h0 h1 (by omega)).mono ?_
    rintro e w' ⟨rfl, a', c', hm, st⟩
    exact .inr ⟨Int.not_lt.1 hx, rfl, a', c', hm, st⟩
/-- The number of the next flag. -/
def R.nxOf (s : R) : Nat := if s.flags.length = 0 then 0 else s.made % s.flags.length
/-- The heap's flags are the document's. -/
structure FxOk (fx : Fx) (s : R) : Prop where
  fl : fx.fl = s.flags
  nx : fx.nx = s.nxOf
theorem FxOk.flag {s : R} (h : FxOk fx s) : fx.fl.getD fx.nx false = s.flagNow := by
  rw [h.fl, h.nx]
  unfold R.nxOf R.flagNow
  by_cases h0 : s.flags.length = 0
  · have : s.flags = [] := List.eq_nil_of_length_eq_zero h0
    rw [this]; rfl
  · rw [if_neg h0]
theorem FxOk.next {s : R} (h : FxOk fx s) : FxOk (fx.to fx.after) s.made1 := by
  refine ⟨h.fl, ?_⟩
  show fx.after = _
  unfold Fx.after
  rw [h.fl, h.nx]
  unfold R.nxOf
  show _ = if s.flags.length = 0 then 0 else (s.made + 1) % s.flags.length
  by_cases h0 : s.flags.length = 0
  · rw [if_pos h0, if_pos h0, if_pos h0]
  · rw [if_neg h0, if_neg h0, if_neg h0, ← Nat.mod_add_mod s.made s.flags.length 1]
    have hlt := Nat.mod_lt s.made (Nat.pos_of_ne_zero h0)
    by_cases h1 : s.made % s.flags.length + 1 = s.flags.length
    · rw [if_pos h1, h1, Nat.mod_self]
    · rw [if_neg h1, Nat.mod_eq_of_lt (show s.made % s.flags.length + 1 < s.flags.length by omega)]
theorem FxOk.lt {s : R} (h : FxOk fx s) (h0 : fx.fl.length ≠ 0) : fx.nx < fx.fl.length := by
  rw [h.fl] at h0 ⊢
  rw [h.nx]
  unfold R.nxOf
  rw [if_neg h0]
  exact Nat.mod_lt _ (Nat.pos_of_ne_zero h0)
/-- What take leaves where there is no room, and where there is. -/
def TakeNo (fx : Fx) (s : R) (a : Option Addr) (w : World) (bh : Nat) (k n : Int) (w' : World) : Prop :=
  usedOf s.objs (s.made3 (wordsOf k n)).row + wordsOf k n > s.limit ∧ ∃ sl' a' c', sl'.length = 32 ∧ (∀ k' x, sl'[k']? = some x → SlotOk (s.made3 (wordsOf k n)) k' x) ∧ Stp (bh :: ab a) w (bh :: ab a') w' ∧ MB w' bh [.bool false] s.limit (s.made3 (wordsOf k n)).words (holdCells (fx.to fx.after) sl' s.scopes) 67 a' c'
def TakeOk (fx : Fx) (s : R) (a : Option Addr) (w : World) (bh : Nat) (k n : Int) (w' : World) : Prop :=
  usedOf s.objs (s.made3 (wordsOf k n)).row + wordsOf k n ≤ s.limit ∧ ∃ sl' a' c', sl'.length = 32 ∧ (∀ k' x, sl'[k']? = some x → SlotOk (s.made3 (wordsOf k n)) k' x) ∧ Stp (bh :: ab a) w (bh :: ab a') w' ∧ MB w' bh [.bool false] s.limit ((s.made3 (wordsOf k n)).words ++ (k * 65536 + n) :: List.replicate ((wordsOf k n).toNat - 1) 0) (holdCells (fx.to fx.after) sl' s.scopes) 67 a' c'

section
variable {w : World} {bh : Nat} {sl : List Slot} {a : Option Addr} {c : Nat} {s : R}
set_option maxHeartbeats 1000000 in
/-- The next flag, by the document. -/
theorem nextFlag_any (h : MB w bh [.bool false] s.limit s.words (holdCells fx sl s.scopes) 67 a c) (hl : sl.length = 32) (ha : RAll s) (ho : FlagsOwn w fx) (hf : FxOk fx s) :
    Calls Tryz.prog 140 #[.pointer (some ⟨bh, 0, none⟩)] w fun e w' => e = .returned (.bool s.flagNow) ∧ MB w' bh [.bool false] s.limit s.words (holdCells (fx.to fx.after) sl s.scopes) 67 a c ∧ Chg [bh] w w' := by
  rw [← hf.flag]
  by_cases h0 : fx.fl.length = 0
  · have e1 : fx.fl.getD fx.nx false = false := by have : fx.fl = [] := List.eq_nil_of_length_eq_zero h0; rw [this]; rfl
    have e2 : fx.to fx.after = fx := by unfold Fx.after; rw [if_pos h0]; rfl
    rw [e1, e2]
    refine (nextFlag_none h hl h0).mono ?_
    rintro e w' ⟨rfl, k⟩
    exact ⟨rfl, h.chg k (by simp) (by simp), k.mono (by simp)⟩
  · refine nextFlag_some h hl ho (hf.lt h0) ?_
    rw [hf.fl]
    exact ha.ok.inv.nflags
set_option maxRecDepth 100000 in
set_option maxHeartbeats 4000000 in
theorem take_any (k n : Int) (h : MB w bh [.bool false] s.limit s.words (holdCells fx sl s.scopes) 67 a c) (hl : sl.length = 32) (hs : ∀ k x, sl[k]? = some x → SlotOk s k x) (ha : RAll s) (ho : FlagsOwn w fx) (hf : FxOk fx s) (hk : 1 ≤ k ∧ k ≤ 3) (h0 : 0 ≤ n) (h1 : n ≤ 64) :
    Calls Tryz.prog 116 #[.pointer (some ⟨bh, 0, none⟩), .int .i64 k, .int .i64 n] w fun e w' => (e = .returned (.tuple #[.int .i64 0, .bool false]) ∧ TakeNo fx s a w bh k n w') ∨ (e = .returned (.tuple #[.int .i64 ((s.made3 (wordsOf k n)).words.length : Int), .bool true]) ∧ TakeOk fx s a w bh k n w') := by
  have hnf := nextFlag_any h hl ha ho hf
  have hall2 := ha.made2
  have hall3 := ha.made3 (wordsOf k n)
  have hall1 := ha.made1
  have HNF := hide hnf; have HS := hide hs; clear hnf hs h ho hf
  cases hb : s.flagNow with
  | false =>
    rw [hb] at HNF
    have e2 : s.made2 = s.made1 := by unfold R.made2; rw [hb]; rfl
    have E2 := hide e2; clear e2 hb
    go_enter Tryz.func116, Tryz.ntmps116
    go_wp2_with fail
    refine (unhide HNF).mono ?_
    rintro e w1 ⟨rfl, hm1, hc1⟩
    have hm2 : MB w1 bh [.bool false] s.made1.limit s.made1.words (holdCells (fx.to fx.after) sl s.scopes) 67 a c := hm1
    have hs2 : ∀ k x, sl[k]? = some x → SlotOk s.made1 k x := unhide HS
    have st2 : Stp (bh :: ab a) w (bh :: ab a) w1 := ⟨hc1.mono (by simp), fun _ h => .inl h⟩
    obtain ⟨sl2, hsl2⟩ : ∃ sl2, sl2 = sl := ⟨_, rfl⟩
    rw [← hsl2] at hm2 hs2
    have hl2 : sl2.length = 32 := by rw [hsl2]; exact hl
    clear hm1 hc1
    have hadd := memAdd_both s.made1 (by rw [unhide E2] at hall2; exact hall2) hm2 k n hk h0 h1
    have HADD := hide hadd; have HM2 := hide hm2; have HS2 := hide hs2; have ST2 := hide st2; clear hadd hm2 hs2 st2
    go_wp2_with fail
    refine (unhide HADD).mono ?_
    rintro e w3 (⟨hx, rfl, rfl⟩ | ⟨hx, rfl, a3, c3, hm3, st3⟩)
    · have hcol := collect_mb (s := s.made1) (by rw [unhide E2] at hall2; exact hall2) (unhide HM2) hl2 (unhide HS2)
      have HCOL := hide hcol; clear hcol
      have hg3 : s.made3 (wordsOf k n) = (s.made1).gone := by
        have hx' : usedOf s.objs (s.made1).row + wordsOf k n > s.limit := hx
        unfold R.made3; rw [unhide E2, if_pos hx']; rfl
      have HG3 := hide hg3; clear hg3 hx
      go_wp2_with fail
      refine (unhide HCOL).mono ?_
      rintro e w4 ⟨rfl, sl4, a4, c4, hl4, hs4, hm4, st4⟩
      have hadd4 := memAdd_both (s.made1).gone (by have := hall3; rw [unhide HG3] at this; exact this) hm4 k n hk h0 h1
      have HADD4 := hide hadd4; have HM4 := hide hm4; have HS4 := hide hs4; have ST4 := hide st4; clear hadd4 hm4 hs4 st4
      go_wp2_with fail
      refine (unhide HADD4).mono ?_
      rintro e w5 (⟨hx5, rfl, rfl⟩ | ⟨hx5, rfl, a5, c5, hm5, st5⟩)
      · have hfin : TakeNo fx s a w bh k n w5 := ⟨by rw [unhide HG3]; exact hx5, sl4, a4, c4, hl4, by rw [unhide HG3]; exact unhide HS4, (unhide ST2).trans (unhide ST4), by rw [unhide HG3]; exact unhide HM4⟩
        have HFIN := hide hfin; clear hfin hx5
        go_wp2
        go_ret2
        exact .inl ⟨rfl, unhide HFIN⟩
      · have hfin : TakeOk fx s a w bh k n w5 := ⟨by rw [unhide HG3]; exact hx5, sl4, a5, c5, hl4, by rw [unhide HG3]; exact unhide HS4, ((unhide ST2).trans (unhide ST4)).trans st5, by rw [unhide HG3]; exact hm5⟩
        have hlen : ((s.made3 (wordsOf k n)).words.length : Int) = ((s.made1).gone.words.length : Int) := by rw [unhide HG3]
        have HFIN := hide hfin; have HLEN := hide hlen; clear hfin hm5 st5 hx5 hlen
        generalize ((s.made1).gone.words.length : Int) = q at *
        go_wp2
        go_ret2
        exact .inr ⟨by rw [unhide HLEN]; first | done | rfl, unhide HFIN⟩
    · have hg3 : s.made3 (wordsOf k n) = s.made1 := by
        have hx' : ¬ usedOf s.objs (s.made1).row + wordsOf k n > s.limit := Int.not_lt.2 hx
        unfold R.made3; rw [unhide E2, if_neg hx']
      have hfin : TakeOk fx s a w bh k n w3 := ⟨by rw [hg3]; exact hx, sl2, a3, c3, hl2, by rw [hg3]; exact unhide HS2, (unhide ST2).trans st3, by rw [hg3]; exact hm3⟩
      have hlen : ((s.made3 (wordsOf k n)).words.length : Int) = ((s.made1).words.length : Int) := by rw [hg3]
      have HFIN := hide hfin; have HLEN := hide hlen; clear hfin hm3 st3 hx hg3 hlen
      generalize ((s.made1).words.length : Int) = q at *
      go_wp2
      go_ret2
      exact .inr ⟨by rw [unhide HLEN]; first | done | rfl, unhide HFIN⟩
  | true =>
    rw [hb] at HNF
    have e2 : s.made2 = s.made1.gone := by unfold R.made2; rw [hb]; rfl
    have E2 := hide e2; clear e2 hb
    go_enter Tryz.func116, Tryz.ntmps116
    go_wp2_with fail
    refine (unhide HNF).mono ?_
    rintro e w1 ⟨rfl, hm1, hc1⟩
    have hcol1 := collect_mb (s := s.made1) hall1 hm1 hl (unhide HS)
    have HCOL1 := hide hcol1; have HC1 := hide hc1; clear hcol1 hm1 hc1
    go_wp2_with fail
    refine (unhide HCOL1).mono ?_
    rintro e w2 ⟨rfl, sl2, a2, c2, hl2, hs2, hm2, st2'⟩
    have st2 : Stp (bh :: ab a) w (bh :: ab a2) w2 := Stp.trans ⟨(unhide HC1).mono (by simp), fun _ h => .inl h⟩ st2'
    clear st2'
    have hadd := memAdd_both s.made1.gone (by rw [unhide E2] at hall2; exact hall2) hm2 k n hk h0 h1
    have HADD := hide hadd; have HM2 := hide hm2; have HS2 := hide hs2; have ST2 := hide st2; clear hadd hm2 hs2 st2
    go_wp2_with fail
    refine (unhide HADD).mono ?_
    rintro e w3 (⟨hx, rfl, rfl⟩ | ⟨hx, rfl, a3, c3, hm3, st3⟩)
    · have hcol := collect_mb (s := s.made1.gone) (by rw [unhide E2] at hall2; exact hall2) (unhide HM2) hl2 (unhide HS2)
      have HCOL := hide hcol; clear hcol
      have hg3 : s.made3 (wordsOf k n) = (s.made1.gone).gone := by
        have hx' : usedOf s.objs (s.made1.gone).row + wordsOf k n > s.limit := hx
        unfold R.made3; rw [unhide E2, if_pos hx']; rfl
      have HG3 := hide hg3; clear hg3 hx
      go_wp2_with fail
      refine (unhide HCOL).mono ?_
      rintro e w4 ⟨rfl, sl4, a4, c4, hl4, hs4, hm4, st4⟩
      have hadd4 := memAdd_both (s.made1.gone).gone (by have := hall3; rw [unhide HG3] at this; exact this) hm4 k n hk h0 h1
      have HADD4 := hide hadd4; have HM4 := hide hm4; have HS4 := hide hs4; have ST4 := hide st4; clear hadd4 hm4 hs4 st4
      go_wp2_with fail
      refine (unhide HADD4).mono ?_
      rintro e w5 (⟨hx5, rfl, rfl⟩ | ⟨hx5, rfl, a5, c5, hm5, st5⟩)
      · have hfin : TakeNo fx s a w bh k n w5 := ⟨by rw [unhide HG3]; exact hx5, sl4, a4, c4, hl4, by rw [unhide HG3]; exact unhide HS4, (unhide ST2).trans (unhide ST4), by rw [unhide HG3]; exact unhide HM4⟩
        have HFIN := hide hfin; clear hfin hx5
        go_wp2
        go_ret2
        exact .inl ⟨rfl, unhide HFIN⟩
      · have hfin : TakeOk fx s a w bh k n w5 := ⟨by rw [unhide HG3]; exact hx5, sl4, a5, c5, hl4, by rw [unhide HG3]; exact unhide HS4, ((unhide ST2).trans (unhide ST4)).trans st5, by rw [unhide HG3]; exact hm5⟩
        have hlen : ((s.made3 (wordsOf k n)).words.length : Int) = ((s.made1.gone).gone.words.length : Int) := by rw [unhide HG3]
        have HFIN := hide hfin; have HLEN := hide hlen; clear hfin hm5 st5 hx5 hlen
        generalize ((s.made1.gone).gone.words.length : Int) = q at *
        go_wp2
        go_ret2
        exact .inr ⟨by rw [unhide HLEN]; first | done | rfl, unhide HFIN⟩
    · have hg3 : s.made3 (wordsOf k n) = s.made1.gone := by
        have hx' : ¬ usedOf s.objs (s.made1.gone).row + wordsOf k n > s.limit := Int.not_lt.2 hx
        unfold R.made3; rw [unhide E2, if_neg hx']
      have hfin : TakeOk fx s a w bh k n w3 := ⟨by rw [hg3]; exact hx, sl2, a3, c3, hl2, by rw [hg3]; exact unhide HS2, (unhide ST2).trans st3, by rw [hg3]; exact hm3⟩
      have hlen : ((s.made3 (wordsOf k n)).words.length : Int) = ((s.made1.gone).words.length : Int) := by rw [hg3]
      have HFIN := hide hfin; have HLEN := hide hlen; clear hfin hm3 st3 hx hg3 hlen
      generalize ((s.made1.gone).words.length : Int) = q at *
      go_wp2
      go_ret2
      exact .inr ⟨by rw [unhide HLEN]; first | done | rfl, unhide HFIN⟩
end
end Go.Proofs.YtfoncalkgmeklaaGreat

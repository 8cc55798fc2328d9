import Derived.Test.YtfoncalkgmeklaaGreatYwM18
import Derived.Test.YtfoncalkgmeklaaGreatYwM23

/- The slots when handles end: Close and Release (pure). -/
namespace Go.Proofs.YtfoncalkgmeklaaGreat

theorem at_iff {s : R} (hn : RNum s) {j : Int} {a : Nat} : s.at? j = some a ↔ ∃ g, s.handles[a]? = some g ∧ g.live = true ∧ g.num % 32 = j :=
  ⟨at_some, fun ⟨_, e, l, h⟩ => h ▸ at_of_live hn e l⟩
/-- A handle that ends where f says so. -/
def endIf (f : RHan → Bool) (g : RHan) : RHan := if f g = true then g.off else g
theorem endIf_num (f : RHan → Bool) (g : RHan) : (endIf f g).num = g.num := by unfold endIf; split <;> rfl
theorem endIf_scope (f : RHan → Bool) (g : RHan) : (endIf f g).scope = g.scope := by unfold endIf; split <;> rfl
theorem endIf_obj (f : RHan → Bool) (g : RHan) : (endIf f g).obj = g.obj := by unfold endIf; split <;> rfl
theorem endIf_live (f : RHan → Bool) (g : RHan) : (endIf f g).live = (g.live && !f g) := by
  unfold endIf
  cases h : f g <;> simp [RHan.off]
/-- The slots behind the end of the handles of f. -/
theorem slots_end {s s' : R} {sl sl' : List Slot} (hn : RNum s) (hn' : RNum s') (ho : s'.objs = s.objs) (hr : s'.row = s.row) (f : RHan → Bool)
    (hh : s'.handles = s.handles.map (endIf f))
    (hx : ∀ (k : Nat) (x' : Slot), sl'[k]? = some x' → ∃ x : Slot, sl[k]? = some x ∧ x'.given = x.given ∧ x'.place = x.place ∧ x'.scope = x.scope ∧ (x.live = false → x'.live = false) ∧ (∀ a, s.at? (k : Int) = some a → x'.live = !f (s.handles.getD a rhan0)))
    (hs : ∀ k x, sl[k]? = some x → SlotOk s k x) : ∀ k x, sl'[k]? = some x → SlotOk s' k x := by
  intro k x' hk
  obtain ⟨x, hxk, e1, e2, e3, h0, h1⟩ := hx k x' hk
  obtain ⟨s1, s2, s3⟩ := hs k x hxk
  have hg : ∀ a : Nat, s'.handles[a]? = (s.handles[a]?).map (endIf f) := fun a => by rw [hh, List.getElem?_map]
  have hpast : s'.past (k : Int) = s.past (k : Int) := by
    rw [past_eq, past_eq, hh, List.countP_map]
    congr 1
    funext g
    simp [sameSlot, endIf_num]
  have hat : ∀ a, s'.at? (k : Int) = some a ↔ (s.at? (k : Int) = some a ∧ f (s.handles.getD a rhan0) = false) := by
    intro a
    rw [at_iff hn', at_iff hn, hg a]
    constructor
    · rintro ⟨g', e, l, n⟩
      cases hga : s.handles[a]? with
      | none => rw [hga] at e; cases e
      | some g =>
        rw [hga] at e
        simp only [Option.map_some, Option.some.injEq] at e
        subst e
        rw [endIf_live] at l
        rw [endIf_num] at n
        simp only [Bool.and_eq_true, Bool.not_eq_true'] at l
        refine ⟨⟨g, rfl, l.1, n⟩, ?_⟩
        simp only [List.getD, hga, Option.getD_some]
        exact l.2
    · rintro ⟨⟨g, e, l, n⟩, hf⟩
      simp only [List.getD, e, Option.getD_some] at hf
      refine ⟨endIf f g, by rw [e]; rfl, by rw [endIf_live, l, hf]; rfl, by rw [endIf_num]; exact n⟩
  refine ⟨?_, by rw [e1, s2, hpast], ?_⟩
  · cases ha : s.at? (k : Int) with
    | none =>
      have : s'.at? (k : Int) = none := by
        cases h' : s'.at? (k : Int) with
        | none => rfl
        | some a => have := ((hat a).1 h').1; rw [ha] at this; cases this
      rw [this]
      rw [ha] at s1
      exact h0 s1
    | some a =>
      rw [h1 a ha]
      cases hf : f (s.handles.getD a rhan0) with
      | false => rw [(hat a).2 ⟨ha, hf⟩]; rfl
      | true =>
        have : s'.at? (k : Int) = none := by
          cases h' : s'.at? (k : Int) with
          | none => rfl
          | some b =>
            have := (hat b).1 h'
            rw [ha] at this
            obtain ⟨h1, h2⟩ := this
            cases h1
            rw [hf] at h2
            cases h2
        rw [this]; rfl
  · intro a ha
    obtain ⟨ha0, _⟩ := (hat a).1 ha
    obtain ⟨g, e, _, _⟩ := (at_iff hn).1 ha0
    obtain ⟨p1, p2⟩ := s3 a ha0
    have g1 : s'.handles.getD a rhan0 = endIf f g := by simp only [List.getD, hg a, e, Option.map_some, Option.getD_some]
    have g2 : s.handles.getD a rhan0 = g := by simp only [List.getD, e, Option.getD_some]
    rw [g2] at p1 p2
    rw [g1, endIf_obj, endIf_scope, ho, hr, e2, e3]
    exact ⟨p1, p2⟩
/-- A slot behind Close. -/
def Slot.shut (n : Int) (x : Slot) : Slot := if x.scope = n then x.off else x
theorem shut_endIf (n : Int) : RHan.shut n = endIf (fun g => g.scope == n) := by
  funext g
  unfold RHan.shut endIf
  by_cases h : g.scope = n <;> simp [h]
theorem slots_close {s : R} {sl sl' : List Slot} {n : Int} (ha : RAll s) (hl : sl.length = 32) (hl' : sl'.length = 32) (hd : s.dead = false) (hn : n ≠ 0 ∧ n = s.scopes)
    (hx : ∀ (j : Nat) (x : Slot), sl[j]? = some x → sl'[j]? = some (x.shut n)) (hs : ∀ k x, sl[k]? = some x → SlotOk s k x) : ∀ k x, sl'[k]? = some x → SlotOk (s.closeQ n).2 k x := by
  have hq : s.closeQ n = (0, { s with handles := s.handles.map (RHan.shut n), scopes := s.scopes - 1 }) := by
    unfold R.closeQ; rw [hd, if_neg (by simp), if_neg (by intro h; rcases h with h | h; exact hn.1 h; exact h hn.2)]
  have hn' := (ha.close n).num
  rw [hq] at hn' ⊢
  refine slots_end (sl := sl) ha.num hn' rfl rfl (fun g => g.scope == n) (by simp only; rw [shut_endIf]) ?_ hs
  intro k x' hk
  have hk32 : k < 32 := by have := (List.getElem?_eq_some_iff.1 hk).1; omega
  have hg := slots_get hl hk32
  have h2 := hx k _ hg
  rw [hk] at h2
  cases h2
  obtain ⟨s1, _, s3⟩ := hs k _ hg
  generalize sl.getD k slot0 = x at *
  refine ⟨x, hg, ?_, ?_, ?_, ?_, ?_⟩
  · unfold Slot.shut; split <;> rfl
  · unfold Slot.shut; split <;> rfl
  · unfold Slot.shut; split <;> rfl
  · intro h; unfold Slot.shut; split
    · rfl
    · exact h
  · intro a hat
    rw [hat] at s1
    obtain ⟨_, p2⟩ := s3 a hat
    unfold Slot.shut
    by_cases h : x.scope = n
    · rw [if_pos h]
      rw [p2] at h
      rw [h]
      simp [Slot.off]
    · rw [if_neg h]
      rw [p2] at h
      rw [s1, show ((s.handles.getD a rhan0).scope == n) = false from by simpa using h]
      rfl
theorem slots_release {s : R} {sl : List Slot} {a : Nat} {x : Int} {y : Slot} (ha : RAll s) (hl : sl.length = 32) (hf : s.find? x = some a) (hy : sl[(x % 32).toNat]? = some y) {s' : R} (hn' : RNum s')
    (e : s' = { s with handles := s.handles.set a (s.handles.getD a rhan0).off }) (hs : ∀ k x, sl[k]? = some x → SlotOk s k x) : ∀ k z, (sl.set (x % 32).toNat y.off)[k]? = some z → SlotOk s' k z := by
  obtain ⟨g, hg, hlv, rfl⟩ := find_some hf
  have hat := at_of_live ha.num hg hlv
  have hgd : s.handles.getD a rhan0 = g := by simp only [List.getD, hg, Option.getD_some]
  have h32 : (g.num % 32).toNat < 32 := by omega
  refine slots_end (s' := s') (sl := sl) ha.num hn' (by rw [e]) (by rw [e]) (fun h => h.live && h.num == g.num) ?_ ?_ hs
  · rw [e]
    simp only
    rw [hgd]
    refine List.ext_getElem? fun b => ?_
    rw [List.getElem?_set, List.getElem?_map]
    have halt : a < s.handles.length := (List.getElem?_eq_some_iff.1 hg).1
    by_cases hb : a = b
    · subst hb
      rw [if_pos rfl, if_pos halt, hg]
      simp [endIf, hlv]
    · rw [if_neg hb]
      cases hgb : s.handles[b]? with
      | none => rfl
      | some h =>
        have : (h.live && h.num == g.num) = false := by
          cases hl2 : h.live with
          | false => rfl
          | true =>
            simp only [Bool.true_and, beq_eq_false_iff_ne]
            intro e2
            exact hb (ha.num.one hg hgb hlv hl2 (by rw [e2]))
        simp [endIf, this]
  · intro k z hz
    have hk32 : k < 32 := by have := (List.getElem?_eq_some_iff.1 hz).1; simp at this; omega
    rcases getD_slot_set (by omega) hz with ⟨rfl, rfl⟩ | ⟨hk, hz⟩
    · refine ⟨y, hy, rfl, rfl, rfl, fun _ => rfl, fun b hb => ?_⟩
      have hc : (((g.num % 32).toNat : Nat) : Int) = g.num % 32 := by omega
      rw [hc, hat] at hb
      cases hb
      rw [hgd]
      simp [Slot.off, hlv]
    · obtain ⟨s1, _, _⟩ := hs k z hz
      refine ⟨z, hz, rfl, rfl, rfl, fun h => h, fun b hb => ?_⟩
      rw [hb] at s1
      rw [s1]
      obtain ⟨h, hh, hl2, hk2⟩ := at_some hb
      have : s.handles.getD b rhan0 = h := by simp only [List.getD, hh, Option.getD_some]
      rw [this]
      have hne : h.num ≠ g.num := by intro e2; rw [e2] at hk2; omega
      simp [hl2, hne]
end Go.Proofs.YtfoncalkgmeklaaGreat

/- Scopes of the program: Open, Close, Escape, Keep, Release. -/
namespace Go.Proofs.YtfoncalkgmeklaaGreat
open Go.RowKit
variable {fx : Fx}

section
variable {w : World} {bh : Nat} {sl : List Slot} {op : Int} {lim : Int} {ws : List Int} {a : Option Addr} {c : Nat}
/-- The cells of the program's heap, as one list. -/
theorem MB.list (h : MB w bh [.bool false] lim ws (holdCells fx sl op) 67 a c) : Blk w bh ([.bool false, .int .i64 lim, .slice a ws.length c] ++ (slotCells sl ++ (.int .i64 op :: fx.cells))) 67 := by simpa [holdCells] using h.blk
theorem MB.openCell (h : MB w bh [.bool false] lim ws (holdCells fx sl op) 67 a c) (hl : sl.length = 32) : w.cell? ⟨bh, 131, none⟩ = some (.int .i64 op) := by
  refine h.list.cell_of ?_
  have := slotCells_len sl
  rw [List.getElem?_append_right (by simp), List.getElem?_append_right (by simp; omega)]
  simp [this, hl]
theorem MB.setOpen (h : MB w bh [.bool false] lim ws (holdCells fx sl op) 67 a c) (hl : sl.length = 32) (v : Int) : MB (w.setCell ⟨bh, 131, none⟩ (.int .i64 v)) bh [.bool false] lim ws (holdCells fx sl v) 67 a c := by
  have hb := h.list.setCell 131 (.int .i64 v)
  have := slotCells_len sl
  rw [List.set_append_right _ _ (by simp), List.set_append_right _ _ (by simp; omega), show 131 - [Value.bool false, .int .i64 lim, .slice a ws.length c].length - (slotCells sl).length = 0 by simp [this, hl]] at hb
  refine ⟨by simpa [holdCells] using hb, ?_, h.ty⟩
  refine ownsRow_setCell_other' h.own (fun g hg e => ?_) _
  simp at e
  subst e
  exact h.nin (ownBlock_ab hg)
theorem MB.endSlot (h : MB w bh [.bool false] lim ws (holdCells fx sl op) 67 a c) {k : Nat} {x : Slot} (hk : sl[k]? = some x) : MB (w.setCell ⟨bh, 3 + k * 4, none⟩ (.bool false)) bh [.bool false] lim ws (holdCells fx (sl.set k x.off) op) 67 a c := by
  have hb := h.list.setCell (3 + k * 4) (.bool false)
  have h1 := slotCells_len sl
  have h2 : k < sl.length := (List.getElem?_eq_some_iff.1 hk).1
  rw [List.set_append_right _ _ (by simp), List.set_append_left _ _ (by simp; omega), show 3 + k * 4 - [Value.bool false, .int .i64 lim, .slice a ws.length c].length = k * 4 by simp, slotCells_off sl k x hk] at hb
  refine ⟨by simpa [holdCells] using hb, ?_, h.ty⟩
  refine ownsRow_setCell_other' h.own (fun g hg e => ?_) _
  simp at e
  subst e
  exact h.nin (ownBlock_ab hg)
theorem MB.slots3 (h : MB w bh [.bool false] lim ws (holdCells fx sl op) 67 a c) (hl : sl.length = 32) : SlotsAt w bh 3 sl := h.slots hl
theorem chg_one (w : World) (bh i : Nat) (v : Value) : Chg [bh] w (w.setCell ⟨bh, i, none⟩ v) := (Chg.refl _ w).setCell (.inl (by simp)) _

set_option maxHeartbeats 1000000 in
theorem slotsOpen_full (h : MB w bh [.bool false] lim ws (holdCells fx sl op) 67 a c) (hl : sl.length = 32) (ho : op = 16) :
    Calls Tryz.prog 104 #[.pointer (some ⟨bh, 3, none⟩)] w fun e w' => e = .returned (.tuple #[.int .i64 0, .bool false]) ∧ w' = w := by
  have c0 := h.openCell hl
  clear h
  subst ho
  go_enter Tryz.func104, Tryz.ntmps104
  go_wp2
  go_ret2
  exact ⟨rfl, rfl⟩
set_option maxHeartbeats 1000000 in
theorem slotsOpen_ok (h : MB w bh [.bool false] lim ws (holdCells fx sl op) 67 a c) (hl : sl.length = 32) (h0 : 0 ≤ op) (h1 : op < 16) :
    Calls Tryz.prog 104 #[.pointer (some ⟨bh, 3, none⟩)] w fun e w' => e = .returned (.tuple #[.int .i64 (op + 1), .bool true]) ∧ MB w' bh [.bool false] lim ws (holdCells fx sl (op + 1)) 67 a c ∧ Chg [bh] w w' := by
  have c0 := h.openCell hl
  have f0 := h.blk.frozen 131
  have hm := h.setOpen hl (op + 1)
  have c1 := hm.openCell hl
  have hne : ¬ op ≥ 16 := by omega
  have hw : IntKind.i64.wrap (op + 1) = op + 1 := by rw [IntKind.wrap_i64]; omega
  have HM := hide hm; clear h hm
  go_enter Tryz.func104, Tryz.ntmps104
  go_wp2
  go_ret2
  exact ⟨rfl, unhide HM, chg_one _ _ _ _⟩

set_option maxHeartbeats 1000000 in
theorem slotsClose_bad (n : Int) (h : MB w bh [.bool false] lim ws (holdCells fx sl op) 67 a c) (hl : sl.length = 32) (hn : n = 0 ∨ n ≠ op) :
    Calls Tryz.prog 105 #[.pointer (some ⟨bh, 3, none⟩), .int .i64 n] w fun e w' => e = .returned (.bool false) ∧ w' = w := by
  have c0 := h.openCell hl
  clear h
  by_cases h0 : n = 0
  · subst h0
    clear hn
    go_enter Tryz.func105, Tryz.ntmps105
    go_wp2
    all_goals go_ret
    all_goals exact ⟨rfl, rfl⟩
  · have hz : (n == 0) = false := by simp [h0]
    have hne : (n != op) = true := by rcases hn with h | h; exact absurd h h0; simp [h]
    clear hn h0
    go_enter Tryz.func105, Tryz.ntmps105
    go_wp2
    all_goals go_ret
    all_goals exact ⟨rfl, rfl⟩
set_option maxRecDepth 100000 in
set_option maxHeartbeats 2000000 in
theorem slotsClose_ok (h : MB w bh [.bool false] lim ws (holdCells fx sl op) 67 a c) (hl : sl.length = 32) (h0 : 0 < op) (h1 : op ≤ 16) :
    Calls Tryz.prog 105 #[.pointer (some ⟨bh, 3, none⟩), .int .i64 op] w fun e w' => e = .returned (.bool true) ∧ ∃ sl', sl'.length = 32 ∧ (∀ (j : Nat) (x : Slot), sl[j]? = some x → sl'[j]? = some (x.shut op)) ∧ MB w' bh [.bool false] lim ws (holdCells fx sl' (op - 1)) 67 a c ∧ Chg [bh] w w' := by
  have c0 := h.openCell hl
  have hz : (op == 0) = false := by simp; omega
  have hne : (op != op) = false := by simp
  have hw : IntKind.i64.wrap (op - 1) = op - 1 := by rw [IntKind.wrap_i64]; omega
  have H := hide h; clear h
  go_enter Tryz.func105, Tryz.ntmps105
  go_wp2_with fail
  clear c0
  go_loopw [5] (fun i wr => ∃ (k : Nat) (cur : List Slot), k ≤ 32 ∧ i = .int .i64 k ∧ cur.length = 32 ∧ (∀ (j : Nat) (x : Slot), sl[j]? = some x → cur[j]? = some (if j < k then x.shut op else x)) ∧ MB wr bh [.bool false] lim ws (holdCells fx cur op) 67 a c ∧ Chg [bh] w wr) (fun i _ => 32 - (intOf i).toNat)
  case atStart => exact ⟨0, sl, by omega, rfl, hl, fun j x hj => by rw [if_neg (by omega)]; exact hj, unhide H, Chg.refl _ _⟩
  case round =>
    obtain ⟨k, cur, hk, rfl, hcl, hcur, hmb, hch⟩ := hrel
    by_cases hlt : k < 32
    · have zk : (k : Int) < 32 := by omega
      obtain ⟨_, _, _, d3⟩ := (hmb.slots3 hcl).at (slots_get hcl hlt)
      have f3 := hmb.blk.frozen (3 + k * 4)
      have hg := slots_get hl hlt
      have hck := hcur k _ hg
      rw [if_neg (by omega)] at hck
      have hgc : cur.getD k slot0 = sl.getD k slot0 := by rw [slots_get hcl hlt] at hck; exact Option.some.inj hck
      rw [hgc] at d3
      clear hgc
      generalize sl.getD k slot0 = y at *
      by_cases hsc : y.scope = op
      · have hm2 := hmb.endSlot hck
        have hcur2 : ∀ (j : Nat) (x : Slot), sl[j]? = some x → (cur.set k y.off)[j]? = some (if j < k + 1 then x.shut op else x) := by
          intro j x hj
          rw [List.getElem?_set]
          by_cases hjk : k = j
          · subst hjk
            rw [hg] at hj
            cases hj
            rw [if_pos rfl, if_pos (by omega), if_pos (by omega)]
            unfold Slot.shut
            rw [if_pos hsc]
          · rw [if_neg hjk, hcur j x hj]
            by_cases hj2 : j < k
            · rw [if_pos hj2, if_pos (by omega)]
            · rw [if_neg hj2, if_neg (by omega)]
        have hbe : (y.scope == op) = true := by simp [hsc]
        have HM2 := hide hm2; have HC2 := hide hcur2; have HCH := hide hch; clear hm2 hcur2 hch hmb hcur hck hg hsc
        go_wp2
        go_roundw
        case rel =>
          have hr : ∃ (k' : Nat) (cur' : List Slot), k' ≤ 32 ∧ Value.int .i64 ((k : Int) + 1) = .int .i64 k' ∧ cur'.length = 32 ∧ (∀ (j : Nat) (x : Slot), sl[j]? = some x → cur'[j]? = some (if j < k' then x.shut op else x)) ∧ MB (wr.setCell ⟨bh, 3 + k * 4, none⟩ (.bool false)) bh [.bool false] lim ws (holdCells fx cur' op) 67 a c ∧ Chg [bh] w (wr.setCell ⟨bh, 3 + k * 4, none⟩ (.bool false)) :=
            ⟨k + 1, cur.set k y.off, by omega, by go_num, by simpa using hcl, unhide HC2, unhide HM2, (unhide HCH).trans (chg_one _ _ _ _)⟩
          first | exact hr | ((repeat apply Exists.intro); exact ⟨hr, rfl⟩)
        case measure => simp [intOf]; omega
      · have hcur2 : ∀ (j : Nat) (x : Slot), sl[j]? = some x → cur[j]? = some (if j < k + 1 then x.shut op else x) := by
          intro j x hj
          by_cases hjk : k = j
          · subst hjk
            rw [hg] at hj
            cases hj
            rw [hck, if_pos (by omega)]
            unfold Slot.shut
            rw [if_neg hsc]
          · rw [hcur j x hj]
            by_cases hj2 : j < k
            · rw [if_pos hj2, if_pos (by omega)]
            · rw [if_neg hj2, if_neg (by omega)]
        have hbe : (y.scope == op) = false := by simp [hsc]
        have HM2 := hide hmb; have HC2 := hide hcur2; have HCH := hide hch; clear hcur2 hch hmb hcur hck hg hsc
        go_wp2
        go_roundw
        case rel =>
          have hr : ∃ (k' : Nat) (cur' : List Slot), k' ≤ 32 ∧ Value.int .i64 ((k : Int) + 1) = .int .i64 k' ∧ cur'.length = 32 ∧ (∀ (j : Nat) (x : Slot), sl[j]? = some x → cur'[j]? = some (if j < k' then x.shut op else x)) ∧ MB wr bh [.bool false] lim ws (holdCells fx cur' op) 67 a c ∧ Chg [bh] w wr :=
            ⟨k + 1, cur, by omega, by go_num, hcl, unhide HC2, unhide HM2, unhide HCH⟩
          first | exact hr | ((repeat apply Exists.intro); exact ⟨hr, rfl⟩)
        case measure => simp [intOf]; omega
    · have hk32 : k = 32 := by omega
      subst hk32
      have d0 := hmb.openCell hcl
      have f0 := hmb.blk.frozen 131
      have hm2 := hmb.setOpen hcl (op - 1)
      have hcur2 : ∀ (j : Nat) (x : Slot), sl[j]? = some x → cur[j]? = some (x.shut op) := by
        intro j x hj
        rw [hcur j x hj, if_pos (by have := (List.getElem?_eq_some_iff.1 hj).1; omega)]
      have HM2 := hide hm2; have HC2 := hide hcur2; have HCH := hide hch; clear hcur2 hch hmb hcur hm2
      go_wp2
      go_ret
      exact ⟨rfl, cur, hcl, unhide HC2, unhide HM2, (unhide HCH).trans (chg_one _ _ _ _)⟩

set_option maxHeartbeats 1000000 in
theorem slotsRelease_bad (x : Int) (h : MB w bh [.bool false] lim ws (holdCells fx sl op) 67 a c) (hl : sl.length = 32) (hx : x ≤ 9223372036854775807) (hs : slotIs sl x) (hk : (sl.getD (x % 32).toNat slot0).scope ≠ -1) :
    Calls Tryz.prog 109 #[.pointer (some ⟨bh, 3, none⟩), .int .i64 x] w fun e w' => e = .returned (.bool false) ∧ w' = w := by
  have hf := slotsFind_any x (h.slots3 hl) hx
  unfold slotFind at hf
  rw [if_pos hs] at hf
  obtain ⟨k, hk0⟩ : ∃ k : Nat, x % 32 = (k : Int) := ⟨(x % 32).toNat, by omega⟩
  have hk32 : k < 32 := by omega
  have hk32' : (k : Int) < 32 := by omega
  obtain ⟨_, _, _, c3⟩ := (h.slots3 hl).at (slots_get hl hk32)
  rw [hk0, Int.toNat_natCast] at hk
  rw [hk0] at hf
  generalize sl.getD k slot0 = y at *
  obtain ⟨lv, gv, pl, sc⟩ := y
  simp only at c3 hk
  have hne : (sc != -1) = true := by simp [hk]
  have HF := hide hf; clear hf h hs hk0 hk
  go_enter Tryz.func109, Tryz.ntmps109
  go_wp2_with fail
  refine (unhide HF).mono ?_
  rintro e w1 ⟨rfl, rfl⟩
  go_wp2
  go_ret
  exact ⟨rfl, rfl⟩
set_option maxHeartbeats 1000000 in
theorem slotsRelease_ok (x : Int) (h : MB w bh [.bool false] lim ws (holdCells fx sl op) 67 a c) (hl : sl.length = 32) (hx : x ≤ 9223372036854775807) (hs : slotIs sl x) (hk : (sl.getD (x % 32).toNat slot0).scope = -1) :
    Calls Tryz.prog 109 #[.pointer (some ⟨bh, 3, none⟩), .int .i64 x] w fun e w' => e = .returned (.bool true) ∧ MB w' bh [.bool false] lim ws (holdCells fx (sl.set (x % 32).toNat (sl.getD (x % 32).toNat slot0).off) op) 67 a c ∧ Chg [bh] w w' := by
  have hf := slotsFind_any x (h.slots3 hl) hx
  unfold slotFind at hf
  rw [if_pos hs] at hf
  obtain ⟨k, hk0⟩ : ∃ k : Nat, x % 32 = (k : Int) := ⟨(x % 32).toNat, by omega⟩
  have hk32 : k < 32 := by omega
  have hk32' : (k : Int) < 32 := by omega
  have hg := slots_get hl hk32
  obtain ⟨c0, _, _, c3⟩ := (h.slots3 hl).at hg
  have f0 := h.blk.frozen (3 + k * 4)
  have hm := h.endSlot hg
  rw [hk0, Int.toNat_natCast] at hk ⊢
  rw [hk0] at hf
  rw [hk] at c3
  generalize holdCells fx (sl.set k (sl.getD k slot0).off) op = D at *
  generalize sl.getD k slot0 = y at *
  obtain ⟨lv, gv, pl, sc⟩ := y
  simp only at c0
  have HF := hide hf; have HM := hide hm; clear hf h hs hk0 hk hm hg
  go_enter Tryz.func109, Tryz.ntmps109
  go_wp2_with fail
  refine (unhide HF).mono ?_
  rintro e w1 ⟨rfl, h1⟩
  subst h1
  go_wp2
  go_ret
  exact ⟨rfl, unhide HM, chg_one _ _ _ _⟩
end

/-! The calls -/
set_option maxHeartbeats 1000000 in
theorem p_open {bh : Nat} {s : R} (hd : s.dead = false) (ha : RAll s) : PCall (G fx) 60 bh [] s (.int .i64 (s.openQ).1) (s.openQ).2.1 (s.openQ).2.2 := by
  intro w F hg
  obtain ⟨sl, a, c, hmb, rfl, hl, hs⟩ := G_live hg hd
  show Calls Tryz.prog 60 #[.pointer (some ⟨bh, 0, none⟩)] w _
  have c0 := hmb.blk.cell_of (i := 0) rfl
  have hsc := ha.ok.inv.scopes
  by_cases h16 : s.scopes = 16
  · have hq : s.openQ = (0, 10, s) := by unfold R.openQ; rw [hd, if_neg (by simp), if_pos h16]
    rw [hq]
    have hc := slotsOpen_full hmb hl h16
    have HC := hide hc; have HG := hide hg; clear hc hmb hs hg hq h16
    go_enter Tryz.func60, Tryz.ntmps60
    go_wp2_with fail
    refine (unhide HC).mono ?_
    rintro e w1 ⟨rfl, rfl⟩
    go_wp2
    go_ret2
    exact ⟨_, rfl, unhide HG, G_lt (unhide HG), Stp.refl _ _⟩
  · have hq : s.openQ = (s.scopes + 1, 0, { s with scopes := s.scopes + 1 }) := by unfold R.openQ; rw [hd, if_neg (by simp), if_neg h16]
    rw [hq]
    have hc := slotsOpen_ok hmb hl hsc.1 (by omega)
    have hG : ∀ w', MB w' bh [.bool false] s.limit s.words (holdCells fx sl (s.scopes + 1)) 67 a c → (G fx) w' bh { s with scopes := s.scopes + 1 } (bh :: ab a) := by
      intro w' hm
      refine ⟨sl, a, c, s.words, s.limit, s.scopes + 1, ?_, rfl, hl, fun _ => ⟨rfl, rfl, rfl, hs⟩⟩
      show MB w' bh [.bool s.dead] _ _ _ _ _ _
      rw [hd]
      exact hm
    generalize ({ s with scopes := s.scopes + 1 } : R) = s' at *
    have HC := hide hc; have HG := hide hG; clear hc hmb hs hg hq h16 hG
    go_enter Tryz.func60, Tryz.ntmps60
    go_wp2_with fail
    refine (unhide HC).mono ?_
    rintro e w1 ⟨rfl, hm1, hc1⟩
    have HG1 := hide (unhide HG _ hm1); have HC1 := hide hc1; clear hm1 hc1
    go_wp2
    go_ret2
    exact ⟨_, rfl, unhide HG1, G_lt (unhide HG1), ⟨(unhide HC1).mono (by simp), fun _ h => .inl h⟩⟩
set_option maxHeartbeats 1000000 in
theorem p_close {bh : Nat} {s : R} (n : Int) (hd : s.dead = false) (ha : RAll s) : PCall1 (G fx) 62 bh [.int .i64 n] s (s.closeQ n).1 (s.closeQ n).2 := by
  intro w F hg
  obtain ⟨sl, a, c, hmb, rfl, hl, hs⟩ := G_live hg hd
  show Calls Tryz.prog 62 #[.pointer (some ⟨bh, 0, none⟩), .int .i64 n] w _
  have c0 := hmb.blk.cell_of (i := 0) rfl
  have hsc := ha.ok.inv.scopes
  by_cases hn : n = 0 ∨ n ≠ s.scopes
  · have hq : s.closeQ n = (10, s) := by unfold R.closeQ; rw [hd, if_neg (by simp), if_pos hn]
    rw [hq]
    have hc := slotsClose_bad n hmb hl hn
    have HC := hide hc; have HG := hide hg; clear hc hmb hs hg hq hn
    go_enter Tryz.func62, Tryz.ntmps62
    go_wp2_with fail
    refine (unhide HC).mono ?_
    rintro e w1 ⟨rfl, rfl⟩
    go_wp2
    go_ret
    exact ⟨_, rfl, unhide HG, G_lt (unhide HG), Stp.refl _ _⟩
  · have hn0 : n ≠ 0 ∧ n = s.scopes := ⟨fun h => hn (.inl h), by by_cases h : n = s.scopes; exact h; exact absurd (.inr h) hn⟩
    have hq : s.closeQ n = (0, { s with handles := s.handles.map (RHan.shut n), scopes := s.scopes - 1 }) := by unfold R.closeQ; rw [hd, if_neg (by simp), if_neg hn]
    have hslots := fun sl' hl' hx => slots_close (sl := sl) (sl' := sl') ha hl hl' hd hn0 hx hs
    rw [hq] at hslots ⊢
    obtain ⟨hn1, rfl⟩ := hn0
    have hc := slotsClose_ok hmb hl (by omega) hsc.2
    have hG : ∀ w' sl', sl'.length = 32 → (∀ (j : Nat) (x : Slot), sl[j]? = some x → sl'[j]? = some (x.shut s.scopes)) → MB w' bh [.bool false] s.limit s.words (holdCells fx sl' (s.scopes - 1)) 67 a c → (G fx) w' bh { s with handles := s.handles.map (RHan.shut s.scopes), scopes := s.scopes - 1 } (bh :: ab a) := by
      intro w' sl' hl' hx hm
      refine ⟨sl', a, c, s.words, s.limit, s.scopes - 1, ?_, rfl, hl', fun _ => ⟨rfl, rfl, rfl, hslots sl' hl' hx⟩⟩
      show MB w' bh [.bool s.dead] _ _ _ _ _ _
      rw [hd]
      exact hm
    simp only
    generalize ({ s with handles := s.handles.map (RHan.shut s.scopes), scopes := s.scopes - 1 } : R) = s' at *
    have HC := hide hc; have HG := hide hG; clear hc hmb hs hg hq hn hn1 hG hslots
    go_enter Tryz.func62, Tryz.ntmps62
    go_wp2_with fail
    refine (unhide HC).mono ?_
    rintro e w1 ⟨rfl, sl', hl', hx', hm1, hc1⟩
    have HG1 := hide (unhide HG _ sl' hl' hx' hm1); have HC1 := hide hc1; clear hm1 hc1 hx'
    go_wp2
    go_ret
    exact ⟨_, rfl, unhide HG1, G_lt (unhide HG1), ⟨(unhide HC1).mono (by simp), fun _ h => .inl h⟩⟩
/-- A new handle of an object that the heap has, in whatever scope. -/
theorem newHandle_any {w : World} {bh : Nat} {s : R} {F : List Nat} (o : Nat) (sc : Int) (h : (G fx) w bh s F) (hd : s.dead = false) {m : Nat} (hu : RUp m s) (hm : m ≤ 3298534883328) :
    Calls Tryz.prog 107 #[.pointer (some ⟨bh, 0, none⟩), .int .i64 (placeOf s.objs o s.row), .int .i64 sc] w fun e w' => ∃ F', e = .returned (.tuple #[.int .i64 (s.handle o sc).1, .int .i64 (s.handle o sc).2.1]) ∧ (G fx) w' bh (s.handle o sc).2.2 F' ∧ Stp F w F' w' := by
  have hg0 := h
  obtain ⟨sl, a, c, hmb, rfl, hl, hs⟩ := G_live h hd
  cases hf : s.free? with
  | none =>
    rw [handle_none hf]
    refine (newHandle_full hmb hl (by rw [slotFree_ok hl hs, hf]; rfl)).mono ?_
    rintro e w' ⟨rfl, rfl⟩
    exact ⟨_, rfl, hg0, Stp.refl _ _⟩
  | some j =>
    have hj := free_lt hf
    have hfree : slotFree sl = j := by rw [slotFree_ok hl hs, hf]; rfl
    have hgk := (hs j _ (slots_get hl hj)).2.1
    have hpast := past_le s (j : Int)
    have hhl := hu.handles
    refine (newHandle_ok (p := placeOf s.objs o s.row) (sc := sc) hmb hl hfree hj hgk (by omega) (by omega)).mono ?_
    rintro e w' ⟨rfl, hm', hc'⟩
    have hq := handle_eq hf o sc
    refine ⟨_, ?_, G_handle hl hs hd hf hm', ⟨hc'.mono (by simp), fun _ h => .inl h⟩⟩
    rw [hq]
theorem inner_any {w : World} {bh : Nat} {s : R} {F : List Nat} (h : (G fx) w bh s F) (hd : s.dead = false) :
    Calls Tryz.prog 106 #[.pointer (some ⟨bh, 3, none⟩)] w fun e w' => e = .returned (.int .i64 s.scopes) ∧ w' = w := by
  obtain ⟨sl, a, c, hmb, rfl, hl, hs⟩ := G_live h hd
  exact slotsInner_mb hmb hl
set_option maxHeartbeats 1000000 in
theorem p_keep {bh : Nat} {s : R} (x : Int) (hd : s.dead = false) (ha : RAll s) {m : Nat} (hu : RUp m s) (hm : m ≤ 3298534883328) (hx : x ≤ 9223372036854775807) : PCall (G fx) 66 bh [.int .i64 x] s (.int .i64 (s.keepQ x).1) (s.keepQ x).2.1 (s.keepQ x).2.2 := by
  intro w F hg
  show Calls Tryz.prog 66 #[.pointer (some ⟨bh, 0, none⟩), .int .i64 x] w _
  have hf := gripFind_any x hg hd ha hx
  by_cases h0 : (s.look1 x).2 = 0
  · have hq : s.keepQ x = s.handle (s.look1 x).1 (-1) := by unfold R.keepQ; rw [if_pos h0]
    have hn := newHandle_any (s.look1 x).1 (-1) hg hd hu hm
    rw [hq]
    rw [(look_place ha h0).1, h0] at hf
    generalize placeOf s.objs (s.look1 x).1 s.row = p at *
    generalize s.handle (s.look1 x).1 (-1) = q at *
    have HF := hide hf; have HN := hide hn; clear hf hn hg hq h0
    go_enter Tryz.func66, Tryz.ntmps66
    go_wp2_with fail
    refine (unhide HF).mono ?_
    rintro e w1 ⟨rfl, h1⟩
    subst h1
    go_wp2_with fail
    refine (unhide HN).mono ?_
    rintro e w2 ⟨F2, rfl, hg2, st2⟩
    have HG2 := hide hg2; have ST2 := hide st2; clear hg2 st2
    go_wp2
    go_ret2
    exact ⟨F2, rfl, unhide HG2, G_lt (unhide HG2), unhide ST2⟩
  · have hq : s.keepQ x = (0, (s.look1 x).2, s) := by unfold R.keepQ; rw [if_neg h0]
    rw [hq]
    generalize (s.look1 x).2 = er at *
    have hne : (er != 0) = true := by simp [h0]
    generalize s.placeE x = p at *
    have HF := hide hf; have HG := hide hg; clear hf hg hq h0
    go_enter Tryz.func66, Tryz.ntmps66
    go_wp2_with fail
    refine (unhide HF).mono ?_
    rintro e w1 ⟨rfl, rfl⟩
    go_wp2
    go_ret2
    exact ⟨F, rfl, unhide HG, G_lt (unhide HG), Stp.refl _ _⟩
set_option maxHeartbeats 1000000 in
theorem p_escape {bh : Nat} {s : R} (x : Int) (hd : s.dead = false) (ha : RAll s) {m : Nat} (hu : RUp m s) (hm : m ≤ 3298534883328) (hx : x ≤ 9223372036854775807) : PCall (G fx) 64 bh [.int .i64 x] s (.int .i64 (s.escapeQ x).1) (s.escapeQ x).2.1 (s.escapeQ x).2.2 := by
  intro w F hg
  show Calls Tryz.prog 64 #[.pointer (some ⟨bh, 0, none⟩), .int .i64 x] w _
  have hf := gripFind_any x hg hd ha hx
  have hin := inner_any hg hd
  have hsc := ha.ok.inv.scopes
  by_cases h0 : (s.look1 x).2 = 0
  · by_cases hs0 : s.scopes = 0
    · have hq : s.escapeQ x = (0, 10, s) := by unfold R.escapeQ; rw [if_pos h0, if_pos hs0]
      rw [hq]
      rw [h0] at hf
      rw [hs0] at hin
      generalize s.placeE x = p at *
      have HF := hide hf; have HI := hide hin; have HG := hide hg; clear hf hin hg hq h0 hs0
      go_enter Tryz.func64, Tryz.ntmps64
      go_wp2_with fail
      refine (unhide HF).mono ?_
      rintro e w1 ⟨rfl, h1⟩
      subst h1
      go_wp2_with fail
      refine (unhide HI).mono ?_
      rintro e w1 ⟨rfl, h1⟩
      subst h1
      go_wp2
      go_ret2
      exact ⟨F, rfl, unhide HG, G_lt (unhide HG), Stp.refl _ _⟩
    · have hq : s.escapeQ x = s.handle (s.look1 x).1 (s.scopes - 1) := by unfold R.escapeQ; rw [if_pos h0, if_neg hs0]
      have hn := newHandle_any (s.look1 x).1 (s.scopes - 1) hg hd hu hm
      rw [hq]
      rw [(look_place ha h0).1, h0] at hf
      obtain ⟨g0, g1⟩ := hsc
      have hne : (s.scopes == 0) = false := by simp [hs0]
      have hw : IntKind.i64.wrap (s.scopes - 1) = s.scopes - 1 := by rw [IntKind.wrap_i64]; omega
      generalize placeOf s.objs (s.look1 x).1 s.row = p at *
      generalize s.handle (s.look1 x).1 (s.scopes - 1) = q at *
      generalize s.scopes = sc at *
      have HF := hide hf; have HI := hide hin; have HN := hide hn; clear hf hn hin hg hq h0 hs0
      go_enter Tryz.func64, Tryz.ntmps64
      go_wp2_with fail
      refine (unhide HF).mono ?_
      rintro e w1 ⟨rfl, h1⟩
      subst h1
      go_wp2_with fail
      refine (unhide HI).mono ?_
      rintro e w1 ⟨rfl, h1⟩
      subst h1
      go_wp2_with fail
      refine (unhide HN).mono ?_
      rintro e w2 ⟨F2, rfl, hg2, st2⟩
      have HG2 := hide hg2; have ST2 := hide st2; clear hg2 st2
      go_wp2
      go_ret2
      exact ⟨F2, rfl, unhide HG2, G_lt (unhide HG2), unhide ST2⟩
  · have hq : s.escapeQ x = (0, (s.look1 x).2, s) := by unfold R.escapeQ; rw [if_neg h0]
    rw [hq]
    generalize (s.look1 x).2 = er at *
    have hne : (er != 0) = true := by simp [h0]
    generalize s.placeE x = p at *
    have HF := hide hf; have HG := hide hg; clear hf hg hq h0 hin
    go_enter Tryz.func64, Tryz.ntmps64
    go_wp2_with fail
    refine (unhide HF).mono ?_
    rintro e w1 ⟨rfl, rfl⟩
    go_wp2
    go_ret2
    exact ⟨F, rfl, unhide HG, G_lt (unhide HG), Stp.refl _ _⟩
set_option maxHeartbeats 1000000 in
theorem p_release {bh : Nat} {s : R} (x : Int) (hd : s.dead = false) (ha : RAll s) (hx : x ≤ 9223372036854775807) : PCall1 (G fx) 68 bh [.int .i64 x] s (s.releaseQ x).1 (s.releaseQ x).2 := by
  intro w F hg
  show Calls Tryz.prog 68 #[.pointer (some ⟨bh, 0, none⟩), .int .i64 x] w _
  have hf := gripFind_any x hg hd ha hx
  by_cases h0 : (s.look1 x).2 = 0
  · have hg0 := hg
    obtain ⟨sl, a, c, hmb, rfl, hl, hs⟩ := G_live hg hd
    obtain ⟨q, hq⟩ : ∃ q, s.find? x = some q := by
      have h1 := look1_eq s x
      rw [hd] at h1
      cases hfi : s.find? x with
      | some q => exact ⟨q, rfl⟩
      | none => rw [hfi] at h1; rw [h1] at h0; simp at h0
    obtain ⟨g, hga, hlv, hnum⟩ := find_some hq
    have hat := at_of_live ha.num hga hlv
    rw [hnum] at hat
    have hgd : s.handles.getD q rhan0 = g := by simp only [List.getD, hga, Option.getD_some]
    have hk32 : (x % 32).toNat < 32 := by omega
    have hsg := slots_get hl hk32
    obtain ⟨s1, s2, s3⟩ := hs _ _ hsg
    have hck : (((x % 32).toNat : Nat) : Int) = x % 32 := by omega
    rw [hck] at s1 s2 s3
    obtain ⟨_, p2⟩ := s3 q hat
    rw [hgd] at p2
    have hx0 : 0 ≤ x := by have := (ha.ok.inv.nums g (List.mem_of_getElem? hga)).1; omega
    have his : slotIs sl x := by
      refine ⟨hx0, by rw [s1, hat]; rfl, ?_⟩
      rw [s2]
      have := ha.num.live hga hlv
      rw [hnum] at this
      exact this
    by_cases hsc : g.scope = -1
    · have hrq : s.releaseQ x = (0, { s with handles := s.handles.set q (s.handles.getD q rhan0).off }) := by
        unfold R.releaseQ; rw [if_pos h0, hq]; simp only [posOf, Int.toNat_natCast, hgd]; rw [if_pos hsc]
      have hn' := (ha.release x).num
      rw [hrq] at hn' ⊢
      have hsl := slots_release ha hl hq hsg hn' rfl hs
      have hc := slotsRelease_ok x hmb hl hx his (by rw [p2]; exact hsc)
      rw [h0] at hf
      have hG : ∀ w', MB w' bh [.bool false] s.limit s.words (holdCells fx (sl.set (x % 32).toNat (sl.getD (x % 32).toNat slot0).off) s.scopes) 67 a c → (G fx) w' bh { s with handles := s.handles.set q (s.handles.getD q rhan0).off } (bh :: ab a) := by
        intro w' hm
        refine ⟨_, a, c, s.words, s.limit, s.scopes, ?_, rfl, by simpa using hl, fun _ => ⟨rfl, rfl, rfl, hsl⟩⟩
        show MB w' bh [.bool s.dead] _ _ _ _ _ _
        rw [hd]
        exact hm
      simp only
      generalize ({ s with handles := s.handles.set q (s.handles.getD q rhan0).off } : R) = s' at *
      generalize holdCells fx (sl.set (x % 32).toNat (sl.getD (x % 32).toNat slot0).off) s.scopes = D at *
      generalize s.placeE x = p at *
      have HF := hide hf; have HC := hide hc; have HG := hide hG
      clear hf hc hG hmb hs hg hrq hn' hsl his hsc p2 s1 s2 s3 hsg hat hga hgd hq h0 hg0 hnum hlv hck hk32 hx0
      go_enter Tryz.func68, Tryz.ntmps68
      go_wp2_with fail
      refine (unhide HF).mono ?_
      rintro e w1 ⟨rfl, h1⟩
      subst h1
      go_wp2_with fail
      refine (unhide HC).mono ?_
      rintro e w1 ⟨rfl, hm1, hc1⟩
      have HG1 := hide (unhide HG _ hm1); have HC1 := hide hc1; clear hm1 hc1
      go_wp2
      go_ret
      exact ⟨_, rfl, unhide HG1, G_lt (unhide HG1), ⟨(unhide HC1).mono (by simp), fun _ h => .inl h⟩⟩
    · have hrq : s.releaseQ x = (10, s) := by
        unfold R.releaseQ; rw [if_pos h0, hq]; simp only [posOf, Int.toNat_natCast, hgd]; rw [if_neg hsc]
      rw [hrq]
      have hc := slotsRelease_bad x hmb hl hx his (by rw [p2]; exact hsc)
      rw [h0] at hf
      generalize s.placeE x = p at *
      have HF := hide hf; have HC := hide hc; have HG := hide hg0
      clear hf hc hmb hs hg hrq his hsc p2 s1 s2 s3 hsg hat hga hgd hq h0 hg0 hnum hlv hck hk32 hx0
      go_enter Tryz.func68, Tryz.ntmps68
      go_wp2_with fail
      refine (unhide HF).mono ?_
      rintro e w1 ⟨rfl, h1⟩
      subst h1
      go_wp2_with fail
      refine (unhide HC).mono ?_
      rintro e w1 ⟨rfl, h1⟩
      subst h1
      go_wp2
      go_ret
      exact ⟨_, rfl, unhide HG, G_lt (unhide HG), Stp.refl _ _⟩
  · have hrq : s.releaseQ x = ((s.look1 x).2, s) := by unfold R.releaseQ; rw [if_neg h0]
    rw [hrq]
    generalize (s.look1 x).2 = er at *
    have hne : (er != 0) = true := by simp [h0]
    generalize s.placeE x = p at *
    have HF := hide hf; have HG := hide hg; clear hf hg hrq h0
    go_enter Tryz.func68, Tryz.ntmps68
    go_wp2_with fail
    refine (unhide HF).mono ?_
    rintro e w1 ⟨rfl, rfl⟩
    go_wp2
    go_ret
    exact ⟨F, rfl, unhide HG, G_lt (unhide HG), Stp.refl _ _⟩
end Go.Proofs.YtfoncalkgmeklaaGreat

import Derived.Test.YtfoncalkgmeklaaGreatYwM14

/- memory of the program: reading words. -/
namespace Go.Proofs.YtfoncalkgmeklaaGreat
open Go.RowKit

/-- The words that the memory at (b, off) has. -/
def MemAt (w : World) (b off : Nat) (ws : List Int) : Prop := ∃ a c, w.cell? ⟨b, off + 1, none⟩ = some (.slice a ws.length c) ∧ w.ownsRow 0 3 1 (.slice a ws.length c) ws.length (ints ws)
def wordAt (ws : List Int) (p : Int) : Int := if 0 ≤ p then ws.getD p.toNat 0 else 0
theorem ints_at {ws : List Int} {i : Nat} (h : i < ws.length) : (ints ws)[i]? = some (.int .i64 (ws.getD i 0)) := by
  simp [ints, List.getD, h]

set_option maxHeartbeats 1000000 in
theorem memWord_any {w : World} {b off : Nat} {ws : List Int} (p : Int) (hm : MemAt w b off ws) (hl : ws.length ≤ 1000000) :
    Calls Tryz.prog 121 #[.pointer (some ⟨b, off, none⟩), .int .i64 p] w fun e w' => e = .returned (.int .i64 (wordAt ws p)) ∧ w' = w := by
  obtain ⟨a, c, hc, ho⟩ := hm
  by_cases h0 : p < 0
  · have hr : wordAt ws p = 0 := by simp [wordAt]; omega
    rw [hr]
    clear hr ho
    go_enter Tryz.func121, Tryz.ntmps121
    go_wp2
    all_goals go_ret
    all_goals exact ⟨rfl, rfl⟩
  · obtain ⟨i, rfl⟩ := Int.eq_ofNat_of_zero_le (Int.not_lt.1 h0)
    by_cases h1 : ws.length ≤ i
    · have hr : wordAt ws (i : Int) = 0 := by simp [wordAt, List.getD, List.getElem?_eq_none h1]
      rw [hr]
      have h1' : (ws.length : Int) ≤ (i : Int) := by omega
      clear hr ho h0 h1
      go_enter Tryz.func121, Tryz.ntmps121
      go_wp2
      all_goals go_ret
      all_goals exact ⟨rfl, rfl⟩
    · have hi : i < ws.length := by omega
      have hr : wordAt ws (i : Int) = ws.getD i 0 := by simp [wordAt]
      rw [hr]
      obtain ⟨g, rfl, hgl, hcc⟩ := owns_at ho (by omega)
      have cg := hcc i _ (ints_at hi)
      generalize ws.getD i 0 = x at *
      have h1' : (i : Int) < (ws.length : Int) := by omega
      clear hr ho hcc h0 h1
      go_enter Tryz.func121, Tryz.ntmps121
      go_wp2
      all_goals go_ret
      all_goals exact ⟨rfl, rfl⟩

set_option maxHeartbeats 400000 in
theorem memKind_any {w : World} {b off : Nat} {ws : List Int} (p : Int) {x : Int} (hm : MemAt w b off ws) (hl : ws.length ≤ 1000000) (hx : wordAt ws p = x) (h0 : 0 ≤ x) (h1 : x ≤ 1000000000) :
    Calls Tryz.prog 80 #[.pointer (some ⟨b, off, none⟩), .int .i64 p] w fun e w' => e = .returned (.int .i64 (x / 65536)) ∧ w' = w := by
  have ha := memWord_any p hm hl
  rw [hx] at ha
  have HA := hide ha; clear ha hm hx
  have hd : Int.tdiv x 65536 = x / 65536 := Int.tdiv_eq_ediv_of_nonneg h0
  have hw : IntKind.i64.wrap (x / 65536) = x / 65536 := by rw [IntKind.wrap_i64]; omega
  go_enter Tryz.func80, Tryz.ntmps80
  go_wp2_with fail
  refine (unhide HA).mono ?_
  rintro e w1 ⟨rfl, rfl⟩
  go_wp2
  go_ret
  simp_all
set_option maxHeartbeats 400000 in
theorem memSize_any {w : World} {b off : Nat} {ws : List Int} (p : Int) {x : Int} (hm : MemAt w b off ws) (hl : ws.length ≤ 1000000) (hx : wordAt ws p = x) (h0 : 0 ≤ x) :
    Calls Tryz.prog 81 #[.pointer (some ⟨b, off, none⟩), .int .i64 p] w fun e w' => e = .returned (.int .i64 (x % 65536)) ∧ w' = w := by
  have ha := memWord_any p hm hl
  rw [hx] at ha
  have HA := hide ha; clear ha hm hx
  have hd : Int.tmod x 65536 = x % 65536 := Int.tmod_eq_emod_of_nonneg h0
  have hw : IntKind.i64.wrap (x % 65536) = x % 65536 := by rw [IntKind.wrap_i64]; omega
  go_enter Tryz.func81, Tryz.ntmps81
  go_wp2_with fail
  refine (unhide HA).mono ?_
  rintro e w1 ⟨rfl, rfl⟩
  go_wp2
  go_ret
  simp_all
set_option maxHeartbeats 400000 in
theorem memLen_any {w : World} {b off : Nat} {ws : List Int} (p : Int) {x y : Int} (hm : MemAt w b off ws) (hl : ws.length ≤ 1000000) (hx : wordAt ws p = x) (h0 : 0 ≤ x) (h1 : x ≤ 1000000000) (hp : -1000000 ≤ p ∧ p ≤ 1000000) (hy : wordAt ws (p + 1) = y) :
    Calls Tryz.prog 85 #[.pointer (some ⟨b, off, none⟩), .int .i64 p] w fun e w' => e = .returned (.int .i64 (if x / 65536 = 3 then y else x % 65536)) ∧ w' = w := by
  obtain ⟨hp1, hp2⟩ := hp
  have hs := memSize_any p hm hl hx h0
  have hk := memKind_any p hm hl hx h0 h1
  have ha := memWord_any (p + 1) hm hl
  rw [hy] at ha
  have HS := hide hs; have HK := hide hk; have HA := hide ha; clear hs hk ha hm hx hy
  have hpw : IntKind.i64.wrap (p + 1) = p + 1 := by rw [IntKind.wrap_i64]; omega
  by_cases h3 : x / 65536 = 3
  · rw [if_pos h3]
    rw [h3] at HK
    clear h3
    go_enter Tryz.func85, Tryz.ntmps85
    go_wp2_with fail
    refine (unhide HK).mono ?_
    rintro e w1 ⟨rfl, rfl⟩
    go_wp2_with fail
    refine (unhide HA).mono ?_
    rintro e w2 ⟨rfl, rfl⟩
    go_wp2
    go_ret
    exact ⟨rfl, rfl⟩
  · rw [if_neg h3]
    have hne : (x / 65536 == 3) = false := by simpa using h3
    generalize x / 65536 = k at *
    clear h3
    go_enter Tryz.func85, Tryz.ntmps85
    go_wp2_with fail
    refine (unhide HK).mono ?_
    rintro e w1 ⟨rfl, rfl⟩
    go_wp2_with fail
    refine (unhide HS).mono ?_
    rintro e w2 ⟨rfl, rfl⟩
    go_wp2
    go_ret
    exact ⟨rfl, rfl⟩
theorem memSpan_any (k : Int) (n : Int) (w : World) (hk : 1 ≤ k ∧ k ≤ 3) (h0 : 0 ≤ n) (h1 : n ≤ 64) :
    Calls Tryz.prog 142 #[.int .i64 k, .int .i64 n] w fun e w' => e = .returned (.int .i64 (wordsOf k n)) ∧ w' = w := by
  have hc : k = 1 ∨ k = 2 ∨ k = 3 := by omega
  have hw : IntKind.i64.wrap (n + 8) = n + 8 := by rw [IntKind.wrap_i64]; omega
  have hw2 : IntKind.i64.wrap (n + 8 - 1) = n + 7 := by rw [IntKind.wrap_i64]; omega
  have hd : Int.tdiv (n + 7) 8 = (n + 7) / 8 := Int.tdiv_eq_ediv_of_nonneg (by omega)
  rcases hc with rfl | rfl | rfl
  · go_enter Tryz.func142, Tryz.ntmps142
    go_wp2
    go_ret
    simp [wordsOf]
  · go_enter Tryz.func142, Tryz.ntmps142
    go_wp2
    go_ret
    simp [wordsOf]
    split <;> omega
  · go_enter Tryz.func142, Tryz.ntmps142
    go_wp2
    go_ret
    simp [wordsOf]
end Go.Proofs.YtfoncalkgmeklaaGreat

/- slots of the program: find, Place, free, Full, Add, Innermost. -/
namespace Go.Proofs.YtfoncalkgmeklaaGreat
open Go.RowKit

theorem slotCells_len : ∀ l : List Slot, (slotCells l).length = l.length * 4
  | [] => rfl
  | x :: r => by have := slotCells_len r; simp [slotCells]; omega
theorem slotCells_at : ∀ (l : List Slot) (k : Nat) (x : Slot), l[k]? = some x → (slotCells l)[k * 4]? = some (.bool x.live) ∧ (slotCells l)[k * 4 + 1]? = some (.int .i64 x.given) ∧ (slotCells l)[k * 4 + 2]? = some (.int .i64 x.place) ∧ (slotCells l)[k * 4 + 3]? = some (.int .i64 x.scope)
  | [], k, x, e => by simp at e
  | y :: r, 0, x, e => by simp at e; subst e; simp [slotCells]
  | y :: r, k + 1, x, e => by
    have ih := slotCells_at r k x (by simpa using e)
    have e0 : (k + 1) * 4 = k * 4 + 4 := by omega
    rw [e0]
    simp only [slotCells]
    exact ⟨ih.1, ih.2.1, ih.2.2.1, ih.2.2.2⟩
theorem slotCells_set : ∀ (l : List Slot) (k : Nat) (x : Slot), k < l.length → ((((slotCells l).set (k * 4) (.bool x.live)).set (k * 4 + 1) (.int .i64 x.given)).set (k * 4 + 2) (.int .i64 x.place)).set (k * 4 + 3) (.int .i64 x.scope) = slotCells (l.set k x)
  | [], k, x, e => by simp at e
  | y :: r, 0, x, e => by simp [slotCells]
  | y :: r, k + 1, x, e => by
    have ih := slotCells_set r k x (by simpa using e)
    have e0 : (k + 1) * 4 = k * 4 + 4 := by omega
    rw [e0]
    simp only [slotCells, List.set_cons_succ]
    rw [ih]
/-- A slot that ends. -/
def Slot.off (x : Slot) : Slot := { x with live := false }
theorem slotCells_off : ∀ (l : List Slot) (k : Nat) (x : Slot), l[k]? = some x → (slotCells l).set (k * 4) (.bool false) = slotCells (l.set k x.off)
  | [], k, x, e => by simp at e
  | y :: r, 0, x, e => by simp at e; subst e; simp [slotCells, Slot.off]
  | y :: r, k + 1, x, e => by
    have ih := slotCells_off r k x (by simpa using e)
    have e0 : (k + 1) * 4 = k * 4 + 4 := by omega
    rw [e0]
    simp only [slotCells, List.set_cons_succ]
    rw [ih]
/-- The slots lie in block b from off on. -/
def SlotsAt (w : World) (b off : Nat) (sl : List Slot) : Prop :=
  ∃ pre post T, Blk w b (pre ++ (slotCells sl ++ post)) T ∧ pre.length = off ∧ sl.length = 32
theorem SlotsAt.at {w : World} {b off : Nat} {sl : List Slot} (h : SlotsAt w b off sl) {k : Nat} {x : Slot} (hk : sl[k]? = some x) :
    w.cell? ⟨b, off + k * 4, none⟩ = some (.bool x.live) ∧ w.cell? ⟨b, off + k * 4 + 1, none⟩ = some (.int .i64 x.given) ∧ w.cell? ⟨b, off + k * 4 + 2, none⟩ = some (.int .i64 x.place) ∧ w.cell? ⟨b, off + k * 4 + 3, none⟩ = some (.int .i64 x.scope) := by
  obtain ⟨pre, post, T, hb, rfl, hl⟩ := h
  have hk32 : k < sl.length := (List.getElem?_eq_some_iff.1 hk).1
  have hc := slotCells_at sl k x hk
  have hlen := slotCells_len sl
  have key : ∀ f v, f < 4 → (slotCells sl)[k * 4 + f]? = some v → w.cell? ⟨b, pre.length + k * 4 + f, none⟩ = some v := by
    intro f v hf hv
    refine hb.cell_of ?_
    rw [List.getElem?_append_right (by omega), show pre.length + k * 4 + f - pre.length = k * 4 + f by omega, List.getElem?_append_left (by omega)]
    exact hv
  exact ⟨key 0 _ (by omega) hc.1, key 1 _ (by omega) hc.2.1, key 2 _ (by omega) hc.2.2.1, key 3 _ (by omega) hc.2.2.2⟩
theorem slots_get {sl : List Slot} (h : sl.length = 32) {k : Nat} (hk : k < 32) : sl[k]? = some (sl.getD k slot0) := by
  simp [List.getD, show k < sl.length by omega]

/-- Whether a number is a live handle's. -/
abbrev slotIs (sl : List Slot) (x : Int) : Prop := 0 ≤ x ∧ (sl.getD (x % 32).toNat slot0).live = true ∧ (sl.getD (x % 32).toNat slot0).given = x / 32 + 1
/-- What find answers. -/
def slotFind (sl : List Slot) (x : Int) : Int × Bool := if slotIs sl x then (x % 32, true) else (0, false)
/-- What Place answers. -/
def slotPlace (sl : List Slot) (x : Int) : Int × Bool := if slotIs sl x then ((sl.getD (x % 32).toNat slot0).place, true) else (0, false)
set_option maxHeartbeats 1000000 in
theorem slotsFind_any {w : World} {b off : Nat} {sl : List Slot} (x : Int) (h : SlotsAt w b off sl) (hx : x ≤ 9223372036854775807) :
    Calls Tryz.prog 133 #[.pointer (some ⟨b, off, none⟩), .int .i64 x] w fun e w' => e = .returned (.tuple #[.int .i64 (slotFind sl x).1, .bool (slotFind sl x).2]) ∧ w' = w := by
  have hl : sl.length = 32 := by obtain ⟨_, _, _, _, _, hl⟩ := h; exact hl
  by_cases h0 : x < 0
  · have hr : slotFind sl x = (0, false) := by unfold slotFind slotIs; rw [if_neg (by omega)]
    rw [hr]
    clear h hr
    go_enter Tryz.func133, Tryz.ntmps133
    go_wp2
    all_goals go_ret2
    all_goals exact ⟨rfl, rfl⟩
  · have hd : Int.tdiv x 32 = x / 32 := Int.tdiv_eq_ediv_of_nonneg (by omega)
    have hm : Int.tmod x 32 = x % 32 := Int.tmod_eq_emod_of_nonneg (by omega)
    obtain ⟨k, hk⟩ : ∃ k : Nat, x % 32 = (k : Int) := ⟨(x % 32).toNat, by omega⟩
    have hk32 : k < 32 := by omega
    have hk32' : (k : Int) < 32 := by omega
    have hg := slots_get hl hk32
    obtain ⟨c0, c1, _, _⟩ := h.at hg
    have hw : IntKind.i64.wrap (x / 32 + 1) = x / 32 + 1 := by rw [IntKind.wrap_i64]; omega
    unfold slotFind slotIs
    rw [hk, Int.toNat_natCast]
    generalize sl.getD k slot0 = y at *
    obtain ⟨lv, gv, pl, sc⟩ := y
    simp only at c0 c1
    have h0' : ¬ x < 0 := h0
    clear h hg hl
    cases lv with
    | false =>
      rw [if_neg (by simp)]
      rw [hk] at hm
      go_enter Tryz.func133, Tryz.ntmps133
      go_wp2
      all_goals go_ret2
      all_goals exact ⟨rfl, rfl⟩
    | true =>
      rw [hk] at hm
      by_cases hgv : gv = x / 32 + 1
      · rw [if_pos ⟨by omega, rfl, hgv⟩]
        have hne : (gv != x / 32 + 1) = false := by simp [hgv]
        clear hgv
        have hz0 : 0 ≤ x / 32 := by omega
        have hz1 : x / 32 ≤ 288230376151711743 := by omega
        generalize x / 32 = z at *
        clear hk hw
        go_enter Tryz.func133, Tryz.ntmps133
        go_wp2
        all_goals go_ret2
        all_goals exact ⟨rfl, rfl⟩
      · rw [if_neg (by intro hh; exact hgv hh.2.2)]
        have hne : (gv != x / 32 + 1) = true := by simp [hgv]
        clear hgv
        have hz0 : 0 ≤ x / 32 := by omega
        have hz1 : x / 32 ≤ 288230376151711743 := by omega
        generalize x / 32 = z at *
        clear hk hw
        go_enter Tryz.func133, Tryz.ntmps133
        go_wp2
        all_goals go_ret2
        all_goals exact ⟨rfl, rfl⟩
set_option maxHeartbeats 1000000 in
theorem slotsPlace_any {w : World} {b off : Nat} {sl : List Slot} (x : Int) (h : SlotsAt w b off sl) (hx : x ≤ 9223372036854775807) :
    Calls Tryz.prog 118 #[.pointer (some ⟨b, off, none⟩), .int .i64 x] w fun e w' => e = .returned (.tuple #[.int .i64 (slotPlace sl x).1, .bool (slotPlace sl x).2]) ∧ w' = w := by
  have hl : sl.length = 32 := by obtain ⟨_, _, _, _, _, hl⟩ := h; exact hl
  have hf := slotsFind_any x h hx
  unfold slotFind at hf
  unfold slotPlace
  by_cases hs : slotIs sl x
  · rw [if_pos hs] at hf ⊢
    obtain ⟨k, hk⟩ : ∃ k : Nat, x % 32 = (k : Int) := ⟨(x % 32).toNat, by omega⟩
    have hk32 : k < 32 := by omega
    have hk32' : (k : Int) < 32 := by omega
    obtain ⟨_, _, c2, _⟩ := h.at (slots_get hl hk32)
    rw [hk] at hf ⊢
    rw [Int.toNat_natCast]
    generalize sl.getD k slot0 = y at *
    obtain ⟨lv, gv, pl, sc⟩ := y
    simp only at c2
    have HF := hide hf; clear hf h hs hk
    go_enter Tryz.func118, Tryz.ntmps118
    go_wp2_with fail
    refine (unhide HF).mono ?_
    rintro e w1 ⟨rfl, rfl⟩
    go_wp2
    go_ret2
    exact ⟨rfl, rfl⟩
  · rw [if_neg hs] at hf ⊢
    have HF := hide hf; clear hf h hs
    go_enter Tryz.func118, Tryz.ntmps118
    go_wp2_with fail
    refine (unhide HF).mono ?_
    rintro e w1 ⟨rfl, rfl⟩
    go_wp2
    go_ret2
    exact ⟨rfl, rfl⟩

/-- The lowest slot that is not taken. -/
def slotFree (sl : List Slot) : Nat := sl.findIdx fun x => !x.live
theorem slotFree_eq {sl : List Slot} {k : Nat} (hk : k < sl.length) (h0 : (sl.getD k slot0).live = false) (hpre : ∀ j, j < k → (sl.getD j slot0).live = true) : slotFree sl = k := by
  unfold slotFree
  rw [List.findIdx_eq hk]
  refine ⟨?_, ?_⟩
  · rw [show sl.getD k slot0 = sl[k] from by simp [List.getD, hk]] at h0
    rw [h0]; rfl
  · intro j hj
    have h1 := hpre j hj
    have hj' : j < sl.length := by omega
    rw [show sl.getD j slot0 = sl[j] from by simp [List.getD, hj']] at h1
    rw [h1]; rfl
set_option maxHeartbeats 1000000 in
theorem slotsFree_any {w : World} {b off : Nat} {sl : List Slot} (h : SlotsAt w b off sl) :
    Calls Tryz.prog 139 #[.pointer (some ⟨b, off, none⟩)] w fun e w' => e = .returned (.int .i64 (slotFree sl)) ∧ w' = w := by
  have hl : sl.length = 32 := by obtain ⟨_, _, _, _, _, hl⟩ := h; exact hl
  have H := hide h; clear h
  go_enter Tryz.func139, Tryz.ntmps139
  go_wp2_with fail
  go_loopw [3] (fun i wr => ∃ k : Nat, k ≤ 32 ∧ i = .int .i64 k ∧ wr = w ∧ ∀ j, j < k → (sl.getD j slot0).live = true) (fun i _ => 32 - (intOf i).toNat)
  case atStart => exact ⟨0, by omega, rfl, rfl, by omega⟩
  case round =>
    obtain ⟨k, hk, rfl, rfl, hpre⟩ := hrel
    by_cases hlt : k < 32
    · have hg := slots_get hl hlt
      obtain ⟨c0, _, _, _⟩ := (unhide H).at hg
      have zk : (k : Int) < 32 := by omega
      cases hlv : (sl.getD k slot0).live with
      | true =>
        rw [hlv] at c0
        have HP := hide hpre; have HLV := hide hlv; clear hpre hlv hg
        go_wp2
        go_roundw
        case rel =>
          refine ⟨k + 1, by omega, by go_num, by first | rfl | trivial, fun j hj => ?_⟩
          rcases Nat.lt_or_eq_of_le (Nat.le_of_lt_succ hj) with h1 | h1
          · exact unhide HP j h1
          · rw [h1]; exact unhide HLV
        case measure => simp [intOf]; omega
      | false =>
        rw [hlv] at c0
        have hf : slotFree sl = k := slotFree_eq (by omega) hlv hpre
        have HF := hide hf; clear hf hpre hlv hg
        go_wp2
        go_ret
        exact ⟨by rw [unhide HF]; rfl, rfl⟩
    · have hk32 : k = 32 := by omega
      subst hk32
      have hf : slotFree sl = 32 := by
        unfold slotFree
        rw [← hl]
        rw [List.findIdx_eq_length]
        intro x hx
        obtain ⟨j, hj, rfl⟩ := List.getElem_of_mem hx
        have := hpre j (by omega)
        simp [List.getD, hj] at this
        simp [this]
      have HF := hide hf; clear hf hpre
      go_wp2
      go_ret
      exact ⟨by rw [unhide HF]; rfl, rfl⟩
theorem slotsFull_any {w : World} {b off : Nat} {sl : List Slot} (h : SlotsAt w b off sl) :
    Calls Tryz.prog 115 #[.pointer (some ⟨b, off, none⟩)] w fun e w' => e = .returned (.bool (slotFree sl == 32)) ∧ w' = w := by
  have hc := slotsFree_any h
  have HC := hide hc; clear hc h
  generalize slotFree sl = n at *
  go_enter Tryz.func115, Tryz.ntmps115
  go_wp2_with fail
  refine (unhide HC).mono ?_
  rintro e w1 ⟨rfl, rfl⟩
  go_wp2
  go_ret
  refine ⟨?_, rfl⟩
  congr 2
  cases h : (n == 32) <;> simp at h ⊢ <;> omega
/-- A slot is taken. -/
def slotAdd (sl : List Slot) (p sc : Int) : List Slot := sl.set (slotFree sl) ⟨true, (sl.getD (slotFree sl) slot0).given + 1, p, sc⟩
set_option maxHeartbeats 1000000 in
theorem slotsAdd_any {w : World} {b : Nat} {sl : List Slot} {pre post : List Value} {T : TypeId} (p sc : Int) (h : Blk w b (pre ++ (slotCells sl ++ post)) T) (hl : sl.length = 32) (hf : slotFree sl < 32) (hg : 0 ≤ (sl.getD (slotFree sl) slot0).given ∧ (sl.getD (slotFree sl) slot0).given ≤ 4503599627370496) :
    Calls Tryz.prog 132 #[.pointer (some ⟨b, pre.length, none⟩), .int .i64 p, .int .i64 sc] w fun e w' => e = .returned (.tuple #[.int .i64 (32 * (sl.getD (slotFree sl) slot0).given + slotFree sl), .bool true]) ∧ Blk w' b (pre ++ (slotCells (slotAdd sl p sc) ++ post)) T ∧ Chg [b] w w' := by
  have hS : SlotsAt w b pre.length sl := ⟨pre, post, T, h, rfl, hl⟩
  have hc := slotsFree_any hS
  have hget := slots_get hl hf
  obtain ⟨c0, c1, c2, c3⟩ := hS.at hget
  have hend : ∀ gv, (sl.getD (slotFree sl) slot0).given = gv → Blk ((((w.setCell ⟨b, pre.length + slotFree sl * 4, none⟩ (.bool true)).setCell ⟨b, pre.length + slotFree sl * 4 + 1, none⟩ (.int .i64 (gv + 1))).setCell ⟨b, pre.length + slotFree sl * 4 + 2, none⟩ (.int .i64 p)).setCell ⟨b, pre.length + slotFree sl * 4 + 3, none⟩ (.int .i64 sc)) b (pre ++ (slotCells (slotAdd sl p sc) ++ post)) T := by
    intro gv hgv
    have hb := (((h.setCell (pre.length + slotFree sl * 4) (.bool true)).setCell (pre.length + slotFree sl * 4 + 1) (.int .i64 (gv + 1))).setCell (pre.length + slotFree sl * 4 + 2) (.int .i64 p)).setCell (pre.length + slotFree sl * 4 + 3) (.int .i64 sc)
    have hlen := slotCells_len sl
    have e : ((pre ++ (slotCells sl ++ post)).set (pre.length + slotFree sl * 4) (.bool true) |>.set (pre.length + slotFree sl * 4 + 1) (.int .i64 (gv + 1)) |>.set (pre.length + slotFree sl * 4 + 2) (.int .i64 p) |>.set (pre.length + slotFree sl * 4 + 3) (.int .i64 sc)) = pre ++ (slotCells (slotAdd sl p sc) ++ post) := by
      have st : ∀ (l : List Value) (i : Nat) (v : Value), i < l.length → (pre ++ (l ++ post)).set (pre.length + i) v = pre ++ (l.set i v ++ post) := by
        intro l i v hi
        rw [List.set_append_right _ _ (by omega), show pre.length + i - pre.length = i by omega, List.set_append_left _ _ hi]
      rw [st _ _ _ (by omega), show pre.length + slotFree sl * 4 + 1 = pre.length + (slotFree sl * 4 + 1) by omega, st _ _ _ (by simp; omega), show pre.length + slotFree sl * 4 + 2 = pre.length + (slotFree sl * 4 + 2) by omega, st _ _ _ (by simp; omega), show pre.length + slotFree sl * 4 + 3 = pre.length + (slotFree sl * 4 + 3) by omega, st _ _ _ (by simp; omega)]
      unfold slotAdd
      rw [hgv]
      have := slotCells_set sl (slotFree sl) ⟨true, gv + 1, p, sc⟩ (by omega)
      simp only at this
      rw [this]
    rw [e] at hb
    exact hb
  have f0 := h.frozen (pre.length + slotFree sl * 4)
  have f1 := h.frozen (pre.length + slotFree sl * 4 + 1)
  have f2 := h.frozen (pre.length + slotFree sl * 4 + 2)
  have f3 := h.frozen (pre.length + slotFree sl * 4 + 3)
  obtain ⟨hg0, hg1⟩ := hg
  generalize hgy : sl.getD (slotFree sl) slot0 = y at *
  obtain ⟨lv, gv, pl, sc0⟩ := y
  simp only at c0 c1 c2 c3 hg0 hg1
  have hend' := hend gv rfl
  have hw1 : IntKind.i64.wrap (gv + 1) = gv + 1 := by rw [IntKind.wrap_i64]; omega
  have hw2 : IntKind.i64.wrap (32 * gv) = 32 * gv := by rw [IntKind.wrap_i64]; omega
  have hw3 : IntKind.i64.wrap (32 * gv + (slotFree sl : Int)) = 32 * gv + (slotFree sl : Int) := by rw [IntKind.wrap_i64]; omega
  have HC := hide hc; have HE := hide hend'
  clear hc hend hend' h hS hget hgy
  generalize hD : (slotCells (slotAdd sl p sc)) = D at *
  clear hD
  generalize slotFree sl = n at *
  have hn' : (n : Int) < 32 := by omega
  go_enter Tryz.func132, Tryz.ntmps132
  go_wp2_with fail
  refine (unhide HC).mono ?_
  rintro e w1 ⟨rfl, rfl⟩
  go_wp2
  go_ret2
  exact ⟨rfl, unhide HE, ((((Chg.refl _ w1).setCell (.inl (by simp)) _).setCell (.inl (by simp)) _).setCell (.inl (by simp)) _).setCell (.inl (by simp)) _⟩
set_option maxHeartbeats 1000000 in
theorem slotsAdd_full {w : World} {b off : Nat} {sl : List Slot} (p sc : Int) (h : SlotsAt w b off sl) (hf : slotFree sl = 32) :
    Calls Tryz.prog 132 #[.pointer (some ⟨b, off, none⟩), .int .i64 p, .int .i64 sc] w fun e w' => e = .returned (.tuple #[.int .i64 0, .bool false]) ∧ w' = w := by
  have hc := slotsFree_any h
  rw [hf] at hc
  have HC := hide hc; clear hc h hf
  go_enter Tryz.func132, Tryz.ntmps132
  go_wp2_with fail
  refine (unhide HC).mono ?_
  rintro e w1 ⟨rfl, rfl⟩
  go_wp2
  go_ret2
  exact ⟨rfl, rfl⟩
theorem slotsInner_any {w : World} {b off : Nat} {n : Int} (h : w.cell? ⟨b, off + 128, none⟩ = some (.int .i64 n)) :
    Calls Tryz.prog 106 #[.pointer (some ⟨b, off, none⟩)] w fun e w' => e = .returned (.int .i64 n) ∧ w' = w := by
  go_enter Tryz.func106, Tryz.ntmps106
  go_wp2
  go_ret
  exact ⟨rfl, rfl⟩
end Go.Proofs.YtfoncalkgmeklaaGreat

/- memory of the program: an object's words are taken. -/
namespace Go.Proofs.YtfoncalkgmeklaaGreat
open Go.RowKit

/-- A memory within block b, behind the cells pre. -/
structure MB (w : World) (b : Nat) (pre : List Value) (lim : Int) (ws : List Int) (post : List Value) (T : TypeId) (a : Option Addr) (c : Nat) : Prop where
  blk : Blk w b (pre ++ (.int .i64 lim :: .slice a ws.length c :: post)) T
  own : w.ownsRow 0 3 1 (.slice a ws.length c) ws.length (ints ws)
  ty : T ≠ 3
theorem MB.cells {w : World} {b : Nat} {pre : List Value} {lim : Int} {ws : List Int} {post : List Value} {T : TypeId} {a : Option Addr} {c : Nat} (h : MB w b pre lim ws post T a c) :
    w.cell? ⟨b, pre.length, none⟩ = some (.int .i64 lim) ∧ w.cell? ⟨b, pre.length + 1, none⟩ = some (.slice a ws.length c) ∧ w.frozen? ⟨b, pre.length + 1, none⟩ = false := by
  refine ⟨h.blk.cell_of ?_, h.blk.cell_of ?_, h.blk.frozen _⟩
  · rw [List.getElem?_append_right (Nat.le_refl _), Nat.sub_self]; rfl
  · rw [List.getElem?_append_right (by omega), show pre.length + 1 - pre.length = 1 by omega]; rfl
theorem MB.mem {w : World} {b : Nat} {pre : List Value} {lim : Int} {ws : List Int} {post : List Value} {T : TypeId} {a : Option Addr} {c : Nat} (h : MB w b pre lim ws post T a c) : MemAt w b pre.length ws := ⟨a, c, h.cells.2.1, h.own⟩
theorem MB.chg {w w' : World} {b : Nat} {pre : List Value} {lim : Int} {ws : List Int} {post : List Value} {T : TypeId} {a : Option Addr} {c : Nat} {S : List Nat} (h : MB w b pre lim ws post T a c) (k : Chg S w w') (hb : b ∉ S) (ha : ∀ x ∈ ab a, x ∉ S) : MB w' b pre lim ws post T a c :=
  ⟨h.blk.chg k hb, owns_chg h.own k (fun g hg => ha g (ownBlock_ab hg)), h.ty⟩
theorem MB.nin {w : World} {b : Nat} {pre : List Value} {lim : Int} {ws : List Int} {post : List Value} {T : TypeId} {a : Option Addr} {c : Nat} (h : MB w b pre lim ws post T a c) : b ∉ ab a := fun hm => (owns_ty h.own b hm).ne (fun e => h.ty e.symm) h.blk.ty
/-- A word more. -/
theorem MB.push {w w1 : World} {b : Nat} {pre : List Value} {lim : Int} {ws : List Int} {post : List Value} {T : TypeId} {a : Option Addr} {c : Nat} (h : MB w b pre lim ws post T a c) {x : Int} (o : Obj) {va : Option Addr} {cap H : Nat}
    (ho : w1.ownsRow 0 3 1 (.slice va (ws.length + 1) cap) (ws.length + 1) (ints ws ++ ints [x])) (hg : (w.alloc o).grownBy w1 (Value.slice a ws.length c).ownBlock) (hH : w.heap.size ≤ H)
    (hat : (Value.slice va (ws.length + 1) cap).ownBlock = (Value.slice a ws.length c).ownBlock ∨ (Value.slice va (ws.length + 1) cap).ownBlock = some H) :
    MB (w1.setCell ⟨b, pre.length + 1, none⟩ (.slice va (ws.length + 1) cap)) b pre lim (ws ++ [x]) post T va cap ∧ Stp (b :: ab a) w (b :: ab va) (w1.setCell ⟨b, pre.length + 1, none⟩ (.slice va (ws.length + 1) cap)) := by
  have k1 : Chg (ab a) w w1 := grown_ab (S := []) ((Chg.refl [] w).alloc o) hg
  have hb1 : Blk w1 b _ T := h.blk.chg k1 h.nin
  have hb2 := hb1.setCell (pre.length + 1) (.slice va (ws.length + 1) cap)
  rw [List.set_append_right _ _ (by omega), show pre.length + 1 - pre.length = 1 by omega] at hb2
  have hl : (ws ++ [x]).length = ws.length + 1 := by simp
  have hv : ∀ y ∈ ab va, y ∈ ab a ∨ w.heap.size ≤ y := at_ab hH hat
  refine ⟨⟨by rw [hl]; exact hb2, ?_, h.ty⟩, ⟨(k1.mono (fun y hy => List.mem_cons_of_mem _ hy)).setCell (.inl (by simp)) _, ?_⟩⟩
  · rw [hl, ints_append]
    refine ownsRow_setCell_other' ho (fun g hgv e => ?_) _
    simp at e
    subst e
    exact (owns_ty ho g (ownBlock_ab hgv)).ne (fun e => h.ty e.symm) hb1.ty
  · intro y hy
    rcases List.mem_cons.1 hy with rfl | hy
    · exact .inl List.mem_cons_self
    · rcases hv y hy with h1 | h1
      · exact .inl (List.mem_cons_of_mem _ h1)
      · exact .inr h1

set_option maxRecDepth 100000 in
set_option maxHeartbeats 2000000 in
theorem memAdd_any {w : World} {b : Nat} {pre : List Value} {lim : Int} {ws : List Int} {post : List Value} {T : TypeId} {a : Option Addr} {c : Nat} (k n : Int) (h : MB w b pre lim ws post T a c) (hl : ws.length ≤ 1000000) (hlim : 0 ≤ lim ∧ lim ≤ 1000000) (hk : 1 ≤ k ∧ k ≤ 3) (h0 : 0 ≤ n) (h1 : n ≤ 64) (hfit : wordsOf k n ≤ lim - ws.length) :
    Calls Tryz.prog 141 #[.pointer (some ⟨b, pre.length, none⟩), .int .i64 k, .int .i64 n] w fun e w' => e = .returned (.tuple #[.int .i64 (ws.length : Int), .bool true]) ∧ ∃ a' c', MB w' b pre lim (ws ++ (k * 65536 + n) :: List.replicate ((wordsOf k n).toNat - 1) 0) post T a' c' ∧ Stp (b :: ab a) w (b :: ab a') w' := by
  obtain ⟨i0, hi0, hz0, hz1, hz2⟩ := info_parts info3
  obtain ⟨hl0, hl1⟩ := hlim
  have hsp := memSpan_any k n w hk h0 h1
  have hcnt : 1 ≤ wordsOf k n ∧ wordsOf k n ≤ 258 := by
    unfold wordsOf
    split
    · omega
    · split
      · split <;> omega
      · omega
  obtain ⟨hk0, hk1⟩ := hk
  obtain ⟨c0, c1, f1⟩ := h.cells
  obtain ⟨m, hm⟩ : ∃ m : Nat, wordsOf k n = (m : Int) := ⟨(wordsOf k n).toNat, by omega⟩
  rw [hm] at hsp hfit hcnt ⊢
  rw [Int.toNat_natCast]
  have hhead : IntKind.i64.wrap (k * 65536) = k * 65536 := by rw [IntKind.wrap_i64]; omega
  have hhead2 : IntKind.i64.wrap (k * 65536 + n) = k * 65536 + n := by rw [IntKind.wrap_i64]; omega
  have hsub : IntKind.i64.wrap (lim - (ws.length : Int)) = lim - (ws.length : Int) := by rw [IntKind.wrap_i64]; omega
  have hgt : ¬ (m : Int) > lim - (ws.length : Int) := by omega
  have HSP := hide hsp; have H := hide h; clear hsp h hm
  go_enter Tryz.func141, Tryz.ntmps141
  go_wp2_with fail
  refine (unhide HSP).mono ?_
  rintro e w1 ⟨rfl, rfl⟩
  go_wp2_with (at_builtin; go_must (refine wpList_append_gen _ rfl (.tmp 31) (.tmp 36) 26 rfl 3 i0 (.int .i64 0) 1 8 Tryz.underlying26 hi0 hz0 hz1 hz2 rfl (by decide) (.slice a ws.length c) ws.length (ints ws) rfl ?c0 (some ⟨w1.heap.size, 0, none⟩) 1 1 (ints [k * 65536 + n]) rfl rfl ?c1 (ints_one _) ?c2 ?c3 ?_))
  case c0 => exact World.ownsRow.alloc (unhide H).own _
  case c1 => first | exact fun _ => ⟨_, rfl, fun j u hj => by rw [addr_add, Nat.zero_add]; exact (Blk.new w1 (ints [k * 65536 + n]) 3).cell_of hj⟩ | exact fun j u hj => hj
  case c2 => unfold maxLen; omega
  case c3 => omega
  intro va cap w2 ho2 hg2 hat2
  have hp := (unhide H).push (.cells #[.int .i64 (k * 65536 + n)] 3) ho2 hg2 (Nat.le_succ _) hat2
  have hb2 : w2.cell? ⟨b, pre.length + 1, none⟩ = some (.slice a ws.length c) ∧ w2.frozen? ⟨b, pre.length + 1, none⟩ = false := by
    have hb := (unhide H).blk.chg (grown_ab (S := []) ((Chg.refl [] w1).alloc _) hg2) (unhide H).nin
    refine ⟨hb.cell_of ?_, hb.frozen _⟩
    rw [List.getElem?_append_right (by omega), show pre.length + 1 - pre.length = 1 by omega]; rfl
  obtain ⟨d1, e1⟩ := hb2
  have HPU := hide hp; clear hp ho2 hg2 hat2 c0 c1 f1
  go_wp2_with fail
  generalize w2.setCell ⟨b, pre.length + 1, none⟩ (.slice va (ws.length + 1) cap) = w3 at *
  clear d1 e1
  go_loopw [10] (fun i wr => ∃ (j : Nat) (a' : Option Addr) (c' : Nat), 1 ≤ j ∧ j ≤ m ∧ i = .int .i64 j ∧ MB wr b pre lim (ws ++ (k * 65536 + n) :: List.replicate (j - 1) 0) post T a' c' ∧ Stp (b :: ab a) w1 (b :: ab a') wr) (fun i _ => m - (intOf i).toNat)
  case atStart => exact ⟨1, va, cap, by omega, by omega, rfl, by simpa using (unhide HPU).1, (unhide HPU).2⟩
  case round =>
    obtain ⟨j, a', c', hj1, hjm, rfl, hmb, hst⟩ := hrel
    by_cases hlt : j < m
    · have zj : (j : Int) < (m : Int) := by omega
      have hlen : (ws ++ (k * 65536 + n) :: List.replicate (j - 1) 0).length = ws.length + j := by simp; omega
      obtain ⟨x0, x1, y1⟩ := hmb.cells
      have hnew : (ws ++ (k * 65536 + n) :: List.replicate (j - 1) 0) ++ [0] = ws ++ (k * 65536 + n) :: List.replicate (j + 1 - 1) 0 := by
        rw [List.append_assoc, List.cons_append, show j + 1 - 1 = (j - 1) + 1 by omega, List.replicate_succ']
      have HMB := hide hmb; have HST := hide hst; have HLEN := hide hlen; have HNEW := hide hnew; clear hmb hst hlen hnew HPU
      generalize hvs : ws ++ (k * 65536 + n) :: List.replicate (j - 1) 0 = vs at *
      have hvl : vs.length ≤ 1000300 := by have := unhide HLEN; omega
      clear hvs
      go_wp2_with (at_builtin; go_must (refine wpList_append_gen _ rfl (.tmp 49) (.tmp 50) 26 rfl 3 i0 (.int .i64 0) 1 8 Tryz.underlying26 hi0 hz0 hz1 hz2 rfl (by decide) (.slice a' vs.length c') vs.length (ints vs) rfl ?c0 (some ⟨wr.heap.size, 0, none⟩) 1 1 (ints [0]) rfl rfl ?c1 (ints_one _) ?c2 ?c3 ?_))
      case c0 => exact World.ownsRow.alloc (unhide HMB).own _
      case c1 => first | exact fun _ => ⟨_, rfl, fun j u hj => by rw [addr_add, Nat.zero_add]; exact (Blk.new wr (ints [0]) 3).cell_of hj⟩ | exact fun j u hj => hj
      case c2 => unfold maxLen; omega
      case c3 => omega
      intro va9 cap9 w9 ho9 hg9 hat9
      have hp := (unhide HMB).push (.cells #[.int .i64 0] 3) ho9 hg9 (Nat.le_succ _) hat9
      have hb9 : w9.cell? ⟨b, pre.length + 1, none⟩ = some (.slice a' vs.length c') ∧ w9.frozen? ⟨b, pre.length + 1, none⟩ = false := by
        have hb := (unhide HMB).blk.chg (grown_ab (S := []) ((Chg.refl [] wr).alloc _) hg9) (unhide HMB).nin
        refine ⟨hb.cell_of ?_, hb.frozen _⟩
        rw [List.getElem?_append_right (by omega), show pre.length + 1 - pre.length = 1 by omega]; rfl
      obtain ⟨d1, e1⟩ := hb9
      have HP9 := hide hp; clear hp ho9 hg9 hat9 x0 x1 y1
      go_wp2
      go_roundw
      case rel =>
        have hr : ∃ (j' : Nat) (a'' : Option Addr) (c'' : Nat), 1 ≤ j' ∧ j' ≤ m ∧ Value.int .i64 ((j : Int) + 1) = .int .i64 j' ∧ MB (w9.setCell ⟨b, pre.length + 1, none⟩ (.slice va9 (vs.length + 1) cap9)) b pre lim (ws ++ (k * 65536 + n) :: List.replicate (j' - 1) 0) post T a'' c'' ∧ Stp (b :: ab a) w1 (b :: ab a'') (w9.setCell ⟨b, pre.length + 1, none⟩ (.slice va9 (vs.length + 1) cap9)) :=
          ⟨j + 1, va9, cap9, by omega, by omega, by go_num, by rw [← unhide HNEW]; exact (unhide HP9).1, (unhide HST).trans (unhide HP9).2⟩
        first | exact hr | ((repeat apply Exists.intro); exact ⟨hr, rfl⟩)
      case measure => simp [intOf]; omega
    · have hjm' : j = m := by omega
      subst hjm'
      have HMB := hide hmb; have HST := hide hst; clear hmb hst HPU
      go_wp2
      go_ret2
      exact ⟨rfl, a', c', unhide HMB, unhide HST⟩
end Go.Proofs.YtfoncalkgmeklaaGreat

/- Where an object's words lie among all words. -/
namespace Go.Proofs.YtfoncalkgmeklaaGreat
open Go.RowKit

theorem place_nonneg {s : R} (hi : RInv s) (i : Nat) : ∀ l, 0 ≤ placeOf s.objs i l
  | [] => by simp [placeOf]
  | x :: r => by
    have := place_nonneg hi i r
    have := words0 hi x
    simp only [placeOf]
    split <;> omega
theorem place_le {s : R} (hi : RInv s) {i : Nat} : ∀ {l : List Nat}, i ∈ l → placeOf s.objs i l + oWords (s.objOf i) ≤ usedOf s.objs l
  | x :: r, h => by
    have h0 := used_nonneg (words0 hi) r
    simp only [placeOf, usedOf]
    by_cases hx : x = i
    · subst hx
      rw [if_pos rfl]
      show 0 + oWords (s.objs.getD x robj0) ≤ _
      omega
    · rw [if_neg hx]
      have := place_le hi (l := r) (by rcases List.mem_cons.1 h with h | h; exact absurd h.symm hx; exact h)
      omega
theorem row_at {s : R} (h : ROk s) {i : Nat} : ∀ {l : List Nat}, i ∈ l → (∀ x ∈ l, x < s.objs.length) → ∀ j, j < (objWords s (s.objOf i)).length →
    (l.flatMap fun x => objWords s (s.objOf x))[(placeOf s.objs i l).toNat + j]? = (objWords s (s.objOf i))[j]?
  | x :: r, hm, hl, j, hj => by
    have hx := objWords_size s (h.osh (objOf_mem (hl x List.mem_cons_self)))
    simp only [List.flatMap_cons, placeOf]
    by_cases hxi : x = i
    · subst hxi
      rw [if_pos rfl]
      rw [List.getElem?_append_left (by simpa using hj)]
      simp
    · rw [if_neg hxi]
      have hm' : i ∈ r := by rcases List.mem_cons.1 hm with h | h; exact absurd h.symm hxi; exact h
      have ih := row_at h hm' (fun y hy => hl y (List.mem_cons_of_mem _ hy)) j hj
      have hp := place_nonneg h.inv i r
      have e : (oWords (s.objs.getD x robj0) + placeOf s.objs i r).toNat + j = (objWords s (s.objOf x)).length + ((placeOf s.objs i r).toNat + j) := by
        have : oWords (s.objs.getD x robj0) = oWords (s.objOf x) := rfl
        omega
      rw [e, List.getElem?_append_right (by omega), show (objWords s (s.objOf x)).length + ((placeOf s.objs i r).toNat + j) - (objWords s (s.objOf x)).length = (placeOf s.objs i r).toNat + j by omega]
      exact ih
/-- The j-th word of an object, read at its place. -/
theorem word_obj {s : R} (h : RAll s) {i : Nat} (hm : i ∈ s.row) {j : Nat} (hj : (j : Int) < oWords (s.objOf i)) : wordAt s.words (placeOf s.objs i s.row + j) = (objWords s (s.objOf i)).getD j 0 := by
  have hx := objWords_size s (h.ok.osh (objOf_mem (h.ok.inv.rows i hm)))
  have hp := place_nonneg h.ok.inv i s.row
  have := row_at h.ok hm h.ok.inv.rows j (by omega)
  unfold wordAt R.words
  rw [if_pos (by omega), show (placeOf s.objs i s.row + (j : Int)).toNat = (placeOf s.objs i s.row).toNat + j by omega]
  simp only [List.getD, this]
theorem word_head {s : R} (h : RAll s) {i : Nat} (hm : i ∈ s.row) : wordAt s.words (placeOf s.objs i s.row) = (s.objOf i).kind * 65536 + (s.objOf i).size := by
  have hk := h.ok.osh (objOf_mem (h.ok.inv.rows i hm))
  have := word_obj h hm (j := 0) (by have := (words_bd hk.kind).1; omega)
  rw [show placeOf s.objs i s.row + ((0 : Nat) : Int) = placeOf s.objs i s.row by omega] at this
  rw [this]
  simp [objWords, fullWords, headWords]
theorem place_bd {s : R} (h : RAll s) {i : Nat} (hm : i ∈ s.row) : 0 ≤ placeOf s.objs i s.row ∧ placeOf s.objs i s.row + oWords (s.objOf i) ≤ 512 ∧ placeOf s.objs i s.row + oWords (s.objOf i) ≤ s.words.length := by
  have h1 := place_nonneg h.ok.inv i s.row
  have h2 := place_le h.ok.inv hm
  have h3 := h.row.fits
  have h4 := h.ok.inv.limit
  have h5 := words_size h.ok
  omega

/-- What a slot must hold. -/
def SlotOk (s : R) (k : Nat) (x : Slot) : Prop := x.live = (s.at? (k : Int)).isSome ∧ x.given = s.past (k : Int) ∧ ∀ a, s.at? (k : Int) = some a → x.place = placeOf s.objs (s.handles.getD a rhan0).obj s.row ∧ x.scope = (s.handles.getD a rhan0).scope
theorem slotPlace_eq {s : R} (h : RAll s) {sl : List Slot} (hl : sl.length = 32) (hs : ∀ k x, sl[k]? = some x → SlotOk s k x) (x : Int) :
    slotPlace sl x = match s.find? x with | none => (0, false) | some a => (placeOf s.objs (s.handles.getD a rhan0).obj s.row, true) := by
  rw [find_slot h.ok.inv h.num x]
  obtain ⟨k, hk⟩ : ∃ k : Nat, x % 32 = (k : Int) := ⟨(x % 32).toNat, by omega⟩
  have hk32 : k < 32 := by omega
  obtain ⟨h1, h2, h3⟩ := hs k _ (slots_get hl hk32)
  unfold slotPlace slotIs
  rw [hk, Int.toNat_natCast]
  generalize sl.getD k slot0 = y at *
  rw [h1, h2]
  by_cases hc : 0 ≤ x ∧ (s.past (k : Int) : Int) = x / 32 + 1
  · rw [if_pos hc]
    cases ha : s.at? (k : Int) with
    | none => simp
    | some a =>
      rw [if_pos ⟨hc.1, by simp, hc.2⟩]
      simp [(h3 a ha).1]
  · rw [if_neg hc, if_neg (by intro hh; exact hc ⟨hh.1, hh.2.2⟩)]
theorem slotFree_ok {s : R} {sl : List Slot} (hl : sl.length = 32) (hs : ∀ k x, sl[k]? = some x → SlotOk s k x) : slotFree sl = (s.free?.getD 32) := by
  have hlv : ∀ k, k < 32 → (sl.getD k slot0).live = (s.at? (k : Int)).isSome := fun k hk => (hs k _ (slots_get hl hk)).1
  cases hf : s.free? with
  | some k =>
    have hk := free_lt hf
    have ha := free_at hf
    show slotFree sl = k
    refine slotFree_eq (by omega) (by rw [hlv k hk, ha]; rfl) ?_
    intro j hj
    rw [hlv j (by omega)]
    unfold R.free? at hf
    obtain ⟨_, i, hi, he, hb⟩ := List.find?_eq_some_iff_getElem.1 hf
    simp at he
    subst he
    have := hb j hj
    simpa [Option.isSome_iff_ne_none] using this
  | none =>
    unfold slotFree
    rw [show (Option.getD (none : Option Nat) 32) = sl.length by simp [hl], List.findIdx_eq_length]
    intro x hx
    obtain ⟨k, hk, rfl⟩ := List.getElem_of_mem hx
    have h1 := hlv k (by omega)
    rw [show sl.getD k slot0 = sl[k] from by simp [List.getD, hk]] at h1
    rw [h1]
    unfold R.free? at hf
    rw [List.find?_eq_none] at hf
    have := hf k (List.mem_range.2 (by omega))
    simpa [Option.isSome_iff_ne_none] using this
theorem look1_eq (s : R) (x : Int) : s.look1 x = if s.dead then (0, (2 : Int)) else match s.find? x with | none => (0, 4) | some a => ((s.handles.getD a rhan0).obj, 0) := by
  unfold R.look1 R.look
  cases s.dead <;> cases s.find? x <;> simp [R.badValue, R.stale]
end Go.Proofs.YtfoncalkgmeklaaGreat

import Derived.Test.YtfoncalkgmeklaaGreatYwM25

/- A table of the document's heap, in words. -/
namespace Go.Proofs.YtfoncalkgmeklaaGreat
open Go.RowKit

def R.wf (s : R) (u : Int × Int) : Int × Int := (u.1, s.outW u)
theorem flat_flatP (s : R) (l : List (Int × Int)) : l.flatMap (valWords s) = flatP (l.map s.wf) := by
  induction l with
  | nil => rfl
  | cons v r ih => simp [flatP, ih, valWords_eq, R.wf]
/-- A table's pairs. -/
def R.pairs (s : R) (o : RObj) : List (Int × Int) := o.vals.map s.wf ++ List.replicate ((2 * o.size).toNat - o.vals.length) (0, 0)
theorem objWords_tab (s : R) {n : Nat} {o : RObj} (h : OSh n o) (hk : o.kind = 3) : objWords s o = tabX o.size ((o.vals.length / 2 : Nat) : Int) (s.pairs o) := by
  have ht := h.tab hk
  have hsz := h.kind
  have hnt := h.notxt (by omega)
  have hfl : (fullWords s o).length = 2 + 2 * o.vals.length := by
    unfold fullWords
    rw [List.length_append, List.length_append, head_len, valWords_len2, hnt, noText]
    simp [headLen, hk]
  have how : (oWords o).toNat = 2 + 4 * o.size.toNat := by simp [oWords, wordsOf, hk]; omega
  rw [objWords_form, hfl, how, hnt, noText, flat_flatP]
  unfold tabX R.pairs headWords
  rw [flatP_append, flatP_zeros, hk]
  have e1 : 2 + 4 * o.size.toNat - (2 + 2 * o.vals.length) = 2 * ((2 * o.size).toNat - o.vals.length) := by omega
  rw [e1]
  simp
theorem pairs_len (s : R) {n : Nat} {o : RObj} (h : OSh n o) (hk : o.kind = 3) : ((s.pairs o).length : Int) = 2 * o.size := by
  have ht := h.tab hk
  unfold R.pairs
  simp
  omega
/-- One place, whatever the object becomes. -/
theorem words_setAll {s : R} (ha : RAll s) {o : Nat} (hm : o ∈ s.row) : ∃ A B, s.words = A ++ (objWords s (s.objOf o) ++ B) ∧ (A.length : Int) = placeOf s.objs o s.row ∧ ∀ ob, oWords ob = oWords (s.objOf o) → (s.setObj o ob).words = A ++ (objWords s ob ++ B) := by
  obtain ⟨A, B, e1, _, e3⟩ := words_setObj ha hm (ob := s.objOf o) rfl
  refine ⟨A, B, e1, e3, fun ob hw => ?_⟩
  obtain ⟨A', B', f1, f2, f3⟩ := words_setObj ha hm hw
  have hl : A.length = A'.length := by omega
  rw [e1] at f1
  obtain ⟨rfl, h2⟩ := List.append_inj f1 hl
  obtain ⟨_, rfl⟩ := List.append_inj h2 rfl
  exact f2
theorem tab_in {s : R} (ha : RAll s) {o : Nat} (hm : o ∈ s.row) (hk : (s.objOf o).kind = 3) :
    ∃ A B, TabIn s.words A B (s.objOf o).size ((s.objOf o).vals.length / 2) (s.pairs (s.objOf o)) ∧ (A.length : Int) = placeOf s.objs o s.row ∧
      ∀ ob n, oWords ob = oWords (s.objOf o) → OSh n ob → ob.kind = 3 → (s.setObj o ob).words = A ++ (tabX ob.size ((ob.vals.length / 2 : Nat) : Int) (s.pairs ob) ++ B) := by
  obtain ⟨A, B, e1, e2, e3⟩ := words_setAll ha hm
  have ho := ha.ok.osh (objOf_mem (ha.ok.inv.rows o hm))
  have ht := ho.tab hk
  have hko := ho.kind
  refine ⟨A, B, ⟨?_, by omega, pairs_len s ho hk, by omega, words_fit ha⟩, e2, fun ob n hw hs hk' => ?_⟩
  · rw [e1, objWords_tab s ho hk]
  · rw [e3 ob hw, objWords_tab s hs hk']

/-! Keys -/
theorem keyPos_two (w : Int × Int) : ∀ (l : List (Int × Int)) (n : Nat), l.length = 2 * n → (∃ j, j < n ∧ l.getD (2 * j) (0, 0) = w ∧ (∀ q, q < j → l.getD (2 * q) (0, 0) ≠ w) ∧ keyPos w l = 2 * j) ∨ ((∀ q, q < n → l.getD (2 * q) (0, 0) ≠ w) ∧ keyPos w l = 2 * n)
  | [], n, h => by
    have : n = 0 := by simp at h; omega
    subst this
    exact .inr ⟨by omega, rfl⟩
  | [x], n, h => by simp at h; omega
  | x :: y :: r, n, h => by
    obtain ⟨m, rfl⟩ : ∃ m, n = m + 1 := ⟨n - 1, by simp at h; omega⟩
    by_cases hx : x = w
    · exact .inl ⟨0, by omega, by simp [hx, List.getD], by omega, by simp [keyPos, hx]⟩
    · have hs : ∀ q, (x :: y :: r).getD (2 * (q + 1)) (0, 0) = r.getD (2 * q) (0, 0) := fun q => by rw [show 2 * (q + 1) = 2 * q + 2 by omega]; simp [List.getD]
      have hk : keyPos w (x :: y :: r) = keyPos w r + 2 := by simp [keyPos, hx]
      rcases keyPos_two w r m (by simp at h; omega) with ⟨j, h1, h2, h3, h4⟩ | ⟨h3, h4⟩
      · refine .inl ⟨j + 1, by omega, by rw [hs]; exact h2, fun q hq => ?_, by rw [hk, h4]; omega⟩
        cases q with
        | zero => simpa [List.getD] using hx
        | succ q => rw [hs]; exact h3 q (by omega)
      · refine .inr ⟨fun q hq => ?_, by rw [hk, h4]; omega⟩
        cases q with
        | zero => simpa [List.getD] using hx
        | succ q => rw [hs]; exact h3 q (by omega)
/-- A value whose object the row has. -/
def R.has (s : R) (u : Int × Int) : Prop := u.1 = 2 → 0 ≤ u.2 ∧ u.2.toNat ∈ s.row
theorem wf_inj {s : R} (ha : RAll s) {u v : Int × Int} (hu : s.has u) (hv : s.has v) (h : s.wf u = s.wf v) : u = v := by
  obtain ⟨a, b⟩ := u
  obtain ⟨c, d⟩ := v
  simp only [R.wf, R.outW, Prod.mk.injEq] at h
  obtain ⟨rfl, h⟩ := h
  by_cases h2 : a = 2
  · rw [if_pos h2, if_pos h2] at h
    have e := place_inj ha (hu h2).2 (hv h2).2 ha.ok.inv.rows h
    have := (hu h2).1
    have := (hv h2).1
    simp only at *
    have : b = d := by omega
    rw [this]
  · rw [if_neg h2, if_neg h2] at h
    rw [h]
theorem vals_has {s : R} (ha : RAll s) {o : Nat} (hm : o ∈ s.row) {j : Nat} (hj : j < (s.objOf o).vals.length) : s.has ((s.objOf o).vals.getD j (0, 0)) := by
  have hmem : (s.objOf o).vals.getD j (0, 0) ∈ (s.objOf o).vals := by
    rw [show (s.objOf o).vals.getD j (0, 0) = (s.objOf o).vals[j] from by simp [List.getD, hj]]
    exact List.getElem_mem hj
  have ho := ha.ok.osh (objOf_mem (ha.ok.inv.rows o hm))
  exact fun h2 => ⟨((ho.vals _ hmem).2.2 h2).1, ha.row.closed o hm _ hmem h2⟩
theorem pairs_at {s : R} {o : RObj} {j : Nat} (hj : j < o.vals.length) : (s.pairs o).getD j (0, 0) = s.wf (o.vals.getD j (0, 0)) := by
  unfold R.pairs
  simp only [List.getD]
  rw [List.getElem?_append_left (by simpa using hj), List.getElem?_map, List.getElem?_eq_getElem hj]
  rfl
/-- Where the program finds a key, and where the document does. -/
theorem key_idx {s : R} (ha : RAll s) {o n : Nat} (hm : o ∈ s.row) (hl : (s.objOf o).vals.length = 2 * n) {w : Int × Int} (hw : s.has w) :
    keyPos w (s.objOf o).vals = 2 * keyIdx (keysOf (s.pairs (s.objOf o)) n) (s.wf w) ∧ keyIdx (keysOf (s.pairs (s.objOf o)) n) (s.wf w) ≤ n := by
  have ne : ∀ q, q < n → (s.objOf o).vals.getD (2 * q) (0, 0) ≠ w → (s.pairs (s.objOf o)).getD (2 * q) (0, 0) ≠ s.wf w := fun q hq hne e => by
    rw [pairs_at (by omega)] at e
    exact hne (wf_inj ha (vals_has ha hm (by omega)) hw e)
  rcases keyPos_two w (s.objOf o).vals n hl with ⟨j, h1, h2, h3, h4⟩ | ⟨h3, h4⟩
  · have := keyIdx_here (ps := s.pairs (s.objOf o)) (k := s.wf w) h1 (by rw [pairs_at (by omega), h2]) (fun q hq => ne q (by omega) (h3 q hq))
    rw [this, h4]
    exact ⟨rfl, by omega⟩
  · have := keyIdx_none (ps := s.pairs (s.objOf o)) (k := s.wf w) (fun q hq => ne q hq (h3 q hq))
    rw [this, h4]
    exact ⟨rfl, Nat.le_refl _⟩
theorem inner_has {s : R} (ha : RAll s) {v : Int × Int} (h2 : v.1 = 2 → (s.find? v.2).isSome = true) : s.has (s.inner v) := fun hi => by
  refine ⟨?_, inner_row ha.row h2 hi⟩
  unfold R.inner at hi ⊢
  split
  · simp
  · rename_i h0
    rw [if_neg h0] at hi
    split
    · simp
    · rename_i h1
      rw [if_neg h1] at hi
      exact absurd hi h1
theorem inW_wf {s : R} {v : Int × Int} (hv : 0 ≤ v.1 ∧ v.1 ≤ 2) (hl : s.inL v = true) : s.inW v = s.wf (s.inner v) := inW_inner hv hl
theorem inL_some {s : R} {v : Int × Int} (hv : 0 ≤ v.1 ∧ v.1 ≤ 2) (hl : s.inL v = true) : v.1 = 2 → (s.find? v.2).isSome = true := by
  rw [inL_stale hv] at hl
  intro h
  simp [h] at hl
  cases hf : s.find? v.2 with
  | none => simp [hf] at hl
  | some q => rfl

/-! The pairs when an entry comes, turns, goes -/
theorem pairs_put {s : R} {o : RObj} {j : Nat} (u v : Int × Int) (hj : 2 * j + 1 < o.vals.length) (hu : s.wf (o.vals.getD (2 * j) (0, 0)) = s.wf u) : ((s.pairs o).set (2 * j) (s.wf u)).set (2 * j + 1) (s.wf v) = s.pairs { o with vals := o.vals.set (2 * j + 1) v } := by
  have h1 : (s.pairs o).set (2 * j) (s.wf u) = s.pairs o := by
    have : (s.pairs o)[2 * j]? = some (s.wf u) := by
      have := pairs_at (s := s) (o := o) (j := 2 * j) (by omega)
      rw [hu] at this
      have hl : 2 * j < (s.pairs o).length := by unfold R.pairs; simp; omega
      rw [List.getElem?_eq_getElem hl]
      simp only [List.getD, List.getElem?_eq_getElem hl, Option.getD_some] at this
      rw [this]
    obtain ⟨hlt, he⟩ := List.getElem?_eq_some_iff.1 this
    rw [← he, List.set_getElem_self]
  rw [h1]
  unfold R.pairs
  simp only [List.length_set]
  rw [List.set_append_left _ _ (by simpa using hj), List.map_set]
theorem pairs_new {s : R} {o : RObj} (u v : Int × Int) (hr : o.vals.length + 2 ≤ (2 * o.size).toNat) : ((s.pairs o).set o.vals.length (s.wf u)).set (o.vals.length + 1) (s.wf v) = s.pairs { o with vals := o.vals ++ [u, v] } := by
  unfold R.pairs
  simp only [List.length_append, List.length_cons, List.length_nil, List.map_append, List.map_cons, List.map_nil]
  obtain ⟨z, hz⟩ : ∃ z, (2 * o.size).toNat - o.vals.length = z + 2 := ⟨(2 * o.size).toNat - o.vals.length - 2, by omega⟩
  have hz' : (2 * o.size).toNat - (o.vals.length + 2) = z := by omega
  rw [hz, hz', List.set_append_right _ _ (by simp), List.set_append_right _ _ (by simp)]
  simp [List.replicate_succ]
theorem pairs_cut {s : R} {o : RObj} {i n : Nat} (hl : o.vals.length = 2 * n) (hi : i < n) (hr : 2 * n ≤ (2 * o.size).toNat) :
    ((cutAt (s.pairs o) i (n - 1)).set (2 * (n - 1)) (0, 0)).set (2 * (n - 1) + 1) (0, 0) = s.pairs { o with vals := o.vals.take (2 * i) ++ o.vals.drop (2 * i + 2) } := by
  have hpl : (s.pairs o).length = (2 * o.size).toNat := by unfold R.pairs; simp; omega
  apply List.ext_getElem?
  intro q
  rw [List.getElem?_set, List.getElem?_set]
  simp only [List.length_set, cutAt_len, hpl]
  have hnl : (o.vals.take (2 * i) ++ o.vals.drop (2 * i + 2)).length = 2 * (n - 1) := by simp; omega
  have hR : ∀ q, (s.pairs { o with vals := o.vals.take (2 * i) ++ o.vals.drop (2 * i + 2) })[q]? = if q < 2 * (n - 1) then some (s.wf (o.vals.getD (if q < 2 * i then q else q + 2) (0, 0))) else if q < (2 * o.size).toNat then some (0, 0) else none := by
    intro q
    unfold R.pairs
    simp only
    rw [hnl]
    by_cases h1 : q < 2 * (n - 1)
    · rw [if_pos h1, List.getElem?_append_left (by rw [List.length_map, hnl]; exact h1), List.getElem?_map]
      by_cases h2 : q < 2 * i
      · rw [if_pos h2, List.getElem?_append_left (by simp; omega), List.getElem?_take_of_lt h2, List.getElem?_eq_getElem (by omega)]
        simp [List.getD, show q < o.vals.length by omega]
      · rw [if_neg h2, List.getElem?_append_right (by simp; omega), List.getElem?_drop, show 2 * i + 2 + (q - (o.vals.take (2 * i)).length) = q + 2 by simp; omega, List.getElem?_eq_getElem (by omega)]
        simp [List.getD, show q + 2 < o.vals.length by omega]
    · rw [if_neg h1, List.getElem?_append_right (by rw [List.length_map, hnl]; omega), List.getElem?_replicate, List.length_map, hnl]
      by_cases h2 : q < (2 * o.size).toNat
      · rw [if_pos h2, if_pos (by omega)]
      · rw [if_neg h2, if_neg (by omega)]
  rw [hR]
  have hG : ∀ q, q < 2 * n → (s.pairs o).getD q (0, 0) = s.wf (o.vals.getD q (0, 0)) := fun q hq => pairs_at (by omega)
  have hZ : ∀ q, 2 * n ≤ q → q < (2 * o.size).toNat → (s.pairs o).getD q (0, 0) = (0, 0) := fun q h1 h2 => by
    unfold R.pairs
    simp only [List.getD]
    rw [List.getElem?_append_right (by simp; omega), List.getElem?_replicate]
    simp
    split <;> rfl
  by_cases hq : q < (2 * o.size).toNat
  · by_cases h1 : 2 * (n - 1) + 1 = q
    · rw [if_pos h1, if_pos (by omega), if_neg (by omega), if_pos hq]
    · rw [if_neg h1]
      by_cases h2 : 2 * (n - 1) = q
      · rw [if_pos h2, if_pos (by omega), if_neg (by omega), if_pos hq]
      · rw [if_neg h2, cutAt_get _ (by omega)]
        by_cases h3 : q < 2 * (n - 1)
        · rw [if_pos h3]
          by_cases h4 : q < 2 * i
          · rw [if_neg (by omega), if_pos h4, hG q (by omega)]
          · rw [if_pos (by omega), if_neg h4, hG (q + 2) (by omega)]
        · rw [if_neg h3, if_pos hq, if_neg (by omega), hZ q (by omega) hq]
  · rw [if_neg (by omega), if_neg (by omega), List.getElem?_eq_none (by rw [cutAt_len, hpl]; omega), if_neg (by omega), if_neg hq]
end Go.Proofs.YtfoncalkgmeklaaGreat

/- Tables of the program: findTable, Key. -/
namespace Go.Proofs.YtfoncalkgmeklaaGreat
open Go.RowKit
variable {fx : Fx}

set_option maxHeartbeats 1000000 in
theorem isKey_any (v : Int × Int) (w : World) :
    Calls Tryz.prog 101 #[.agg #[.int .i64 v.1, .int .i64 v.2]] w fun e w' => e = .returned (.bool (decide (v.1 = 1 ∨ v.1 = 2))) ∧ Chg [] w w' := by
  obtain ⟨k, n⟩ := v
  simp only
  by_cases h1 : k = 1
  · subst h1
    go_enter Tryz.func101, Tryz.ntmps101
    go_wp2
    go_ret
    exact ⟨by simp, (Chg.refl [] w).alloc _⟩
  · have e1 : (k == 1) = false := by simp [h1]
    by_cases h2 : k = 2
    · subst h2
      go_enter Tryz.func101, Tryz.ntmps101
      go_wp2
      go_ret
      exact ⟨by simp, (Chg.refl [] w).alloc _⟩
    · have e2 : (k == 2) = false := by simp [h2]
      have hd : decide (k = 1 ∨ k = 2) = false := by simp [h1, h2]
      rw [hd]
      clear h1 h2 hd
      go_enter Tryz.func101, Tryz.ntmps101
      go_wp2
      go_ret
      exact ⟨rfl, (Chg.refl [] w).alloc _⟩

/-- findTable's error. -/
def R.ftE (s : R) (x : Int) (k : Int × Int) : Int := if k.1 = 1 ∨ k.1 = 2 then (if s.inL k = true then (if (s.look1 x).2 = 0 then (if (s.objOf (s.look1 x).1).kind = 3 then 0 else 5) else (s.look1 x).2) else 4) else 3
theorem ft_ok {s : R} {x : Int} {k : Int × Int} (h : s.ftE x k = 0) : (k.1 = 1 ∨ k.1 = 2) ∧ s.inL k = true ∧ (s.look1 x).2 = 0 ∧ (s.objOf (s.look1 x).1).kind = 3 := by
  unfold R.ftE at h
  split at h
  · rename_i h1
    split at h
    · rename_i h2
      split at h
      · rename_i h3
        split at h
        · rename_i h4; exact ⟨h1, h2, h3, h4⟩
        · omega
      · rename_i h3; exact absurd h h3
    · omega
  · omega
set_option maxRecDepth 100000 in
set_option maxHeartbeats 2000000 in
theorem gripFindTable_any {w : World} {bh : Nat} {s : R} {F : List Nat} (x : Int) (k : Int × Int) (hg : (G fx) w bh s F) (hd : s.dead = false) (ha : RAll s) (hx : x ≤ 9223372036854775807) (hkx : k.2 ≤ 9223372036854775807) :
    Calls Tryz.prog 93 #[.pointer (some ⟨bh, 0, none⟩), .int .i64 x, .agg #[.int .i64 k.1, .int .i64 k.2]] w fun e w' =>
      e = .returned (.tuple #[.int .i64 (if s.ftE x k = 0 then placeOf s.objs (s.look1 x).1 s.row else 0), .agg #[.int .i64 (if s.ftE x k = 0 then s.inW k else (0, 0)).1, .int .i64 (if s.ftE x k = 0 then s.inW k else (0, 0)).2], .int .i64 (s.ftE x k)]) ∧ Chg [] w w' := by
  have hc0 : Chg [] w ((w.alloc (.cells #[.int .i64 k.1, .int .i64 k.2] 33)).alloc (.cells #[.int .i64 0, .int .i64 0] 121)) := ((Chg.refl [] w).alloc _).alloc _
  have hbx : Blk ((w.alloc (.cells #[.int .i64 k.1, .int .i64 k.2] 33)).alloc (.cells #[.int .i64 0, .int .i64 0] 121)) w.heap.size [.int .i64 k.1, .int .i64 k.2] 33 := (Blk.new w [.int .i64 k.1, .int .i64 k.2] _).alloc _
  have hbr : Blk ((w.alloc (.cells #[.int .i64 k.1, .int .i64 k.2] 33)).alloc (.cells #[.int .i64 0, .int .i64 0] 121)) (w.heap.size + 1) [.int .i64 0, .int .i64 0] 121 := by
    have := Blk.new (w.alloc (.cells #[.int .i64 k.1, .int .i64 k.2] 33)) [.int .i64 0, .int .i64 0] 121
    rw [size_alloc] at this
    exact this
  have d0 : w.cell? ⟨bh, 0, none⟩ = some (.bool false) := by
    obtain ⟨sl, a, c, hmb, _⟩ := G_live hg hd
    exact hmb.blk.cell_of (i := 0) rfl
  have hblt : bh < w.heap.size := cell_lt d0
  have hik := isKey_any k ((w.alloc (.cells #[.int .i64 k.1, .int .i64 k.2] 33)).alloc (.cells #[.int .i64 0, .int .i64 0] 121))
  have fin0 : ∀ w', Chg [] w w' → Blk w' (w.heap.size + 1) [.int .i64 0, .int .i64 0] 121 → ∀ er : Int, w'.cell? ⟨w.heap.size + 1, 0, none⟩ = some (.int .i64 0) ∧ w'.cell? ⟨w.heap.size + 1, 1, none⟩ = some (.int .i64 0) := fun w' _ hb _ => ⟨hb.cell_of rfl, hb.cell_of rfl⟩
  have store : ∀ w', Chg [] w w' → Blk w' (w.heap.size + 1) [.int .i64 0, .int .i64 0] 121 → ∀ u : Int × Int, Hid (((w'.setCell ⟨w.heap.size + 1, 0, none⟩ (.int .i64 u.1)).setCell ⟨w.heap.size + 1, 1, none⟩ (.int .i64 u.2)).cell? ⟨w.heap.size + 1, 0, none⟩ = some (.int .i64 u.1) ∧ ((w'.setCell ⟨w.heap.size + 1, 0, none⟩ (.int .i64 u.1)).setCell ⟨w.heap.size + 1, 1, none⟩ (.int .i64 u.2)).cell? ⟨w.heap.size + 1, 1, none⟩ = some (.int .i64 u.2) ∧ Chg [] w ((w'.setCell ⟨w.heap.size + 1, 0, none⟩ (.int .i64 u.1)).setCell ⟨w.heap.size + 1, 1, none⟩ (.int .i64 u.2))) := fun w' k1 hb u => by
    have hb3 := (hb.setCell 0 (.int .i64 u.1)).setCell 1 (.int .i64 u.2)
    exact ⟨hb3.cell_of rfl, hb3.cell_of rfl, Chg.trans_new (S' := [w.heap.size + 1]) k1 (((Chg.refl _ w').setCell (.inl (by simp)) _).setCell (.inl (by simp)) _) (fun x hx => by simp at hx; right; omega)⟩
  by_cases hk : k.1 = 1 ∨ k.1 = 2
  · rw [show decide (k.1 = 1 ∨ k.1 = 2) = true from by simp [hk]] at hik
    have hin : ∀ w1, Chg [] w w1 → _ := fun w1 k1 => gripInward_any k (stays_G [] _ _ _ _ _ hg k1 (by simp)) hd ha hkx
    cases hil : s.inL k with
    | false =>
      have hE : s.ftE x k = 4 := by unfold R.ftE; rw [if_pos hk, hil]; simp
      rw [hE, if_neg (by omega), if_neg (by omega)]
      simp only [hil] at hin
      generalize s.inW k = iw at *
      have HK := hide hik; have HIN := hide hin; have HC0 := hide hc0; have HBX := hide hbx; have HBR := hide hbr; have HST := hide store; clear hik hin hc0 hbx hbr store fin0 hg hE hk hil
      go_enter Tryz.func93, Tryz.ntmps93
      go_wp2_with fail
      refine (unhide HK).mono ?_
      rintro e w1 ⟨rfl, hc1⟩
      have hb1 := (unhide HBX).chg hc1 (by simp)
      have q0 := hb1.cell_of (i := 0) rfl
      have q1 := hb1.cell_of (i := 1) rfl
      have hch1 := (unhide HC0).trans hc1
      have hcall := unhide HIN w1 hch1
      have hbr1 := (unhide HBR).chg hc1 (by simp)
      have HCL := hide hcall; have HCH1 := hide hch1; have HBR1 := hide hbr1; clear hcall hch1 hc1 hb1 hbr1
      go_wp2_with fail
      refine (unhide HCL).mono ?_
      rintro e w2 ⟨rfl, hc2⟩
      have hbr2 := ((unhide HBR1).chg hc2 (by simp)).alloc (.cells #[.int .i64 iw.1, .int .i64 iw.2] 121)
      have hch2 := ((unhide HCH1).trans hc2).alloc (.cells #[.int .i64 iw.1, .int .i64 iw.2] 121)
      have p0 := hbr2.cell_of (i := 0) rfl
      have p1 := hbr2.cell_of (i := 1) rfl
      have f0 := hbr2.frozen 0
      have f1 := hbr2.frozen 1
      have hst := unhide HST _ hch2 hbr2 (0, 0)
      clear hbr2 hch2 hc2 q0 q1
      go_wp2
      obtain ⟨r0, r1, r2⟩ := unhide hst
      exact bodyPost_ret (v := .tuple #[.int .i64 0, .agg #[.int .i64 0, .int .i64 0], .int .i64 4]) (by simp [results, Tryz.results93, go_sem, r0, r1]) rfl ⟨rfl, r2⟩
    | true =>
      simp only [hil] at hin
      have hfk : ∀ w1, Chg [] w w1 → _ := fun w1 k1 => gripFindKind_any x 3 (stays_G [] _ _ _ _ _ hg k1 (by simp)) hd ha hx
      by_cases hE : s.ftE x k = 0
      · obtain ⟨_, _, h3, h4⟩ := ft_ok hE
        rw [hE, if_pos rfl, if_pos rfl]
        simp only [if_pos (And.intro h3 h4), if_pos h3, if_pos h4] at hfk
        generalize s.inW k = iw at *
        generalize placeOf s.objs (s.look1 x).1 s.row = p at *
        have HK := hide hik; have HIN := hide hin; have HFK := hide hfk; have HC0 := hide hc0; have HBX := hide hbx; have HBR := hide hbr; have HST := hide store; clear hik hin hfk hc0 hbx hbr store fin0 hg hE hk hil h3 h4
        go_enter Tryz.func93, Tryz.ntmps93
        go_wp2_with fail
        refine (unhide HK).mono ?_
        rintro e w1 ⟨rfl, hc1⟩
        have hb1 := (unhide HBX).chg hc1 (by simp)
        have q0 := hb1.cell_of (i := 0) rfl
        have q1 := hb1.cell_of (i := 1) rfl
        have hch1 := (unhide HC0).trans hc1
        have hcall := unhide HIN w1 hch1
        have hbr1 := (unhide HBR).chg hc1 (by simp)
        have HCL := hide hcall; have HCH1 := hide hch1; have HBR1 := hide hbr1; clear hcall hch1 hc1 hb1 hbr1
        go_wp2_with fail
        refine (unhide HCL).mono ?_
        rintro e w2 ⟨rfl, hc2⟩
        have hbr2 := ((unhide HBR1).chg hc2 (by simp)).alloc (.cells #[.int .i64 iw.1, .int .i64 iw.2] 121)
        have hch2 := ((unhide HCH1).trans hc2).alloc (.cells #[.int .i64 iw.1, .int .i64 iw.2] 121)
        have hbk2 : Blk (w2.alloc (.cells #[.int .i64 iw.1, .int .i64 iw.2] 121)) w2.heap.size [.int .i64 iw.1, .int .i64 iw.2] 121 := Blk.new w2 [.int .i64 iw.1, .int .i64 iw.2] _
        have hcall := unhide HFK _ hch2
        have HCL2 := hide hcall; have HCH2 := hide hch2; have HBR2 := hide hbr2; have HBK2 := hide hbk2; clear hcall hch2 hc2 hbr2 hbk2 q0 q1
        go_wp2_with fail
        refine (unhide HCL2).mono ?_
        rintro e w3 ⟨rfl, hw3⟩
        have hch3 : Chg [] w w3 := by rw [hw3]; exact unhide HCH2
        have hbr3 : Blk w3 (w.heap.size + 1) [.int .i64 0, .int .i64 0] 121 := by rw [hw3]; exact unhide HBR2
        have hbk3 : Blk w3 w2.heap.size [.int .i64 iw.1, .int .i64 iw.2] 121 := by rw [hw3]; exact unhide HBK2
        have p0 := hbr3.cell_of (i := 0) rfl
        have p1 := hbr3.cell_of (i := 1) rfl
        have f0 := hbr3.frozen 0
        have f1 := hbr3.frozen 1
        have q0 := hbk3.cell_of (i := 0) rfl
        have q1 := hbk3.cell_of (i := 1) rfl
        have hst2 := unhide HST _ hch3 hbr3 iw
        have hst3 : Hid ((w3.setCell ⟨w.heap.size + 1, 0, none⟩ (.int .i64 iw.1)).cell? ⟨w.heap.size + 1, 0, none⟩ = some (.int .i64 iw.1)) := (hbr3.setCell 0 (.int .i64 iw.1)).cell_of rfl
        clear hbr3 hbk3 hch3 hw3
        go_wp2_with fail
        go_region
        all_goals go_wp2
        all_goals
          obtain ⟨r0, r1, r2⟩ := unhide hst2
          have r3 := unhide hst3
          exact bodyPost_ret (v := .tuple #[.int .i64 p, .agg #[.int .i64 iw.1, .int .i64 iw.2], .int .i64 0]) (by simp [results, Tryz.results93, go_sem, r1, r3]) rfl ⟨rfl, r2.drew⟩
      · rw [if_neg hE, if_neg hE]
        have hfk' : ∀ w1, Chg [] w w1 → ∃ p, Calls Tryz.prog 87 #[.pointer (some ⟨bh, 0, none⟩), .int .i64 x, .int .i64 3] w1 fun e w' => e = .returned (.tuple #[.int .i64 p, .int .i64 (s.ftE x k)]) ∧ w' = w1 := fun w1 k1 => by
          have := hfk w1 k1
          have he : s.ftE x k = if (s.look1 x).2 = 0 then (if (s.objOf (s.look1 x).1).kind = 3 then 0 else 5) else (s.look1 x).2 := by
            unfold R.ftE
            rw [if_pos hk, if_pos hil]
          rw [he]
          exact ⟨_, this⟩
        generalize s.ftE x k = er at *
        have hne : (er != 0) = true := by simp [hE]
        generalize s.inW k = iw at *
        have HK := hide hik; have HIN := hide hin; have HFK := hide hfk'; have HC0 := hide hc0; have HBX := hide hbx; have HBR := hide hbr; have HST := hide store; clear hik hin hfk hfk' hc0 hbx hbr store fin0 hg hE hk hil
        go_enter Tryz.func93, Tryz.ntmps93
        go_wp2_with fail
        refine (unhide HK).mono ?_
        rintro e w1 ⟨rfl, hc1⟩
        have hb1 := (unhide HBX).chg hc1 (by simp)
        have q0 := hb1.cell_of (i := 0) rfl
        have q1 := hb1.cell_of (i := 1) rfl
        have hch1 := (unhide HC0).trans hc1
        have hcall := unhide HIN w1 hch1
        have hbr1 := (unhide HBR).chg hc1 (by simp)
        have HCL := hide hcall; have HCH1 := hide hch1; have HBR1 := hide hbr1; clear hcall hch1 hc1 hb1 hbr1
        go_wp2_with fail
        refine (unhide HCL).mono ?_
        rintro e w2 ⟨rfl, hc2⟩
        have hbr2 := ((unhide HBR1).chg hc2 (by simp)).alloc (.cells #[.int .i64 iw.1, .int .i64 iw.2] 121)
        have hch2 := ((unhide HCH1).trans hc2).alloc (.cells #[.int .i64 iw.1, .int .i64 iw.2] 121)
        obtain ⟨p, hcall⟩ := unhide HFK _ hch2
        have HCL2 := hide hcall; have HCH2 := hide hch2; have HBR2 := hide hbr2; clear hcall hch2 hc2 hbr2 q0 q1
        go_wp2_with fail
        refine (unhide HCL2).mono ?_
        rintro e w3 ⟨rfl, hw3⟩
        have hch3 : Chg [] w w3 := by rw [hw3]; exact unhide HCH2
        have hbr3 : Blk w3 (w.heap.size + 1) [.int .i64 0, .int .i64 0] 121 := by rw [hw3]; exact unhide HBR2
        have p0 := hbr3.cell_of (i := 0) rfl
        have p1 := hbr3.cell_of (i := 1) rfl
        have f0 := hbr3.frozen 0
        have f1 := hbr3.frozen 1
        have hst := unhide HST _ hch3 hbr3 (0, 0)
        clear hbr3 hch3 hw3
        go_wp2
        obtain ⟨r0, r1, r2⟩ := unhide hst
        exact bodyPost_ret (v := .tuple #[.int .i64 0, .agg #[.int .i64 0, .int .i64 0], .int .i64 er]) (by simp [results, Tryz.results93, go_sem, r0, r1]) rfl ⟨rfl, r2⟩
  · rw [show decide (k.1 = 1 ∨ k.1 = 2) = false from by simp; omega] at hik
    have hE : s.ftE x k = 3 := by unfold R.ftE; rw [if_neg hk]
    rw [hE, if_neg (by omega), if_neg (by omega)]
    have HK := hide hik; have HC0 := hide hc0; have HBR := hide hbr; have HST := hide store; clear hik hc0 hbx hbr store fin0 hg hE hk
    go_enter Tryz.func93, Tryz.ntmps93
    go_wp2_with fail
    refine (unhide HK).mono ?_
    rintro e w1 ⟨rfl, hc1⟩
    have hch1 := (unhide HC0).trans hc1
    have hbr1 := (unhide HBR).chg hc1 (by simp)
    have p0 := hbr1.cell_of (i := 0) rfl
    have p1 := hbr1.cell_of (i := 1) rfl
    have f0 := hbr1.frozen 0
    have f1 := hbr1.frozen 1
    have hst := unhide HST _ hch1 hbr1 (0, 0)
    clear hbr1 hch1 hc1
    go_wp2
    obtain ⟨r0, r1, r2⟩ := unhide hst
    exact bodyPost_ret (v := .tuple #[.int .i64 0, .agg #[.int .i64 0, .int .i64 0], .int .i64 3]) (by simp [results, Tryz.results93, go_sem, r0, r1]) rfl ⟨rfl, r2⟩
end Go.Proofs.YtfoncalkgmeklaaGreat

/- Key of the program. -/
namespace Go.Proofs.YtfoncalkgmeklaaGreat
open Go.RowKit
variable {fx : Fx}

set_option maxRecDepth 100000 in
set_option maxHeartbeats 2000000 in
theorem p_key {bh : Nat} {s : R} (x i : Int) (hd : s.dead = false) (ha : RAll s) {m : Nat} (hu : RUp m s) (hm : m ≤ 3298534883328) (hx : x ≤ 9223372036854775807) : PCall (G fx) 52 bh [.int .i64 x, .int .i64 i] s (.agg #[.int .i64 (s.keyQ x i).1.1, .int .i64 (s.keyQ x i).1.2]) (s.keyQ x i).2.1 (s.keyQ x i).2.2 := by
  intro w F hg
  have hc0 : Chg [] w (w.alloc (.cells #[.int .i64 0, .int .i64 0] 33)) := (Chg.refl [] w).alloc _
  have hg0 := stays_G [] _ _ _ _ _ hg hc0 (by simp)
  have hf := gripFindKind_any x 3 hg0 hd ha hx
  show Calls Tryz.prog 52 #[.pointer (some ⟨bh, 0, none⟩), .int .i64 x, .int .i64 i] w _
  have bad : ∀ (er : Int), er ≠ 0 → s.keyQ x i = ((0, 0), er, s) → (∃ p, Calls Tryz.prog 87 #[.pointer (some ⟨bh, 0, none⟩), .int .i64 x, .int .i64 3] (w.alloc (.cells #[.int .i64 0, .int .i64 0] 33)) fun e w' => e = .returned (.tuple #[.int .i64 p, .int .i64 er]) ∧ w' = w.alloc (.cells #[.int .i64 0, .int .i64 0] 33)) →
      Calls Tryz.prog 52 #[.pointer (some ⟨bh, 0, none⟩), .int .i64 x, .int .i64 i] w fun e w' => ∃ F', e = .returned (.tuple #[.agg #[.int .i64 (s.keyQ x i).1.1, .int .i64 (s.keyQ x i).1.2], .int .i64 (s.keyQ x i).2.1]) ∧ (G fx) w' bh (s.keyQ x i).2.2 F' ∧ (∀ b ∈ F', b < w'.heap.size) ∧ Stp F w F' w' := by
    rintro er h0 hq ⟨p, hc⟩
    rw [hq]
    have hne : (er != 0) = true := by simp [h0]
    have HC := hide hc; have HG := hide hg0; have HC0 := hide hc0; clear hc hq h0 hf hg hg0 hc0
    go_enter Tryz.func52, Tryz.ntmps52
    go_wp2_with fail
    refine (unhide HC).mono ?_
    rintro e w1 ⟨rfl, rfl⟩
    go_wp2
    exact bodyPost_ret (v := .tuple #[.agg #[.int .i64 0, .int .i64 0], .int .i64 er]) (by simp [results, Tryz.results52, go_sem]) rfl ⟨F, rfl, unhide HG, G_lt (unhide HG), ⟨(unhide HC0).mono (by simp), fun _ h => .inl h⟩⟩
  have hel : s.keyQ x i = if (s.look1 x).2 = 0 then (if (s.objOf (s.look1 x).1).kind = 3 then (if i < 0 ∨ ((s.objOf (s.look1 x).1).vals.length : Int) / 2 ≤ i then ((0, 0), 7, s) else s.outer ((s.objOf (s.look1 x).1).vals.getD (2 * i.toNat) (0, 0))) else ((0, 0), 5, s)) else ((0, 0), (s.look1 x).2, s) := rfl
  by_cases h0 : (s.look1 x).2 = 0
  · by_cases hk : (s.objOf (s.look1 x).1).kind = 3
    · obtain ⟨h1, h2⟩ := look_place ha h0
      have ho := ha.ok.osh (objOf_mem (ha.ok.inv.rows _ h2))
      have hpb := place_bd ha h2
      have hob := (words_bd ho.kind).1
      obtain ⟨b1, b2, b3, b4⟩ := head_bd ho
      rw [if_pos ⟨h0, hk⟩, if_pos h0, if_pos hk] at hf
      obtain ⟨p, hp⟩ : ∃ p : Nat, placeOf s.objs (s.look1 x).1 s.row = (p : Int) := ⟨_, (Int.toNat_of_nonneg hpb.1).symm⟩
      obtain ⟨sl, a, c, hmb, rfl, hl, hs⟩ := G_live hg0 hd
      have htab := ho.tab hk
      obtain ⟨A, B, htin, hA, _⟩ := tab_in ha h2 hk
      have hpA : p = A.length := by omega
      have hgetm := memKey_any i hmb.mem htin
      rw [← hpA] at hgetm
      rw [hp] at hf
      by_cases hi : 0 ≤ i ∧ i < (((s.objOf (s.look1 x).1).vals.length / 2 : Nat) : Int)
      · have hq : s.keyQ x i = s.outer ((s.objOf (s.look1 x).1).vals.getD (2 * i.toNat) (0, 0)) := by rw [hel, if_pos h0, if_pos hk, if_neg (by omega)]
        rw [if_pos hi, show decide (0 ≤ i ∧ i < (((s.objOf (s.look1 x).1).vals.length / 2 : Nat) : Int)) = true from by simp; omega, pairs_at (by omega)] at hgetm
        unfold R.wf at hgetm
        simp only at hgetm
        rw [hq]
        generalize (s.objOf (s.look1 x).1).vals.getD (2 * i.toNat) (0, 0) = v at *
        have hout : Hid (∀ w2, Chg [] w w2 → Calls Tryz.prog 90 #[.pointer (some ⟨bh, 0, none⟩), .agg #[.int .i64 v.1, .int .i64 (s.outW v)]] w2 fun e w' => ∃ F', e = .returned (.tuple #[.agg #[.int .i64 (s.outer v).1.1, .int .i64 (s.outer v).1.2], .int .i64 (s.outer v).2.1]) ∧ (G fx) w' bh (s.outer v).2.2 F' ∧ Stp (bh :: ab a) w2 F' w') := fun w2 k => gripOutward_any v (stays_G [] _ _ _ _ _ hg k (by simp)) hd hu hm
        have hFlt : ∀ b ∈ bh :: ab a, b < w.heap.size := G_lt hg
        generalize s.outW v = ov at *
        generalize s.outer v = r at *
        have HF := hide hf; have HGM := hide hgetm; have HC0 := hide hc0; have HFL := hide hFlt; have HB := hide (Blk.new w [.int .i64 0, .int .i64 0] 33)
        clear hf hgetm hmb hs hg hg0 h0 h1 h2 ho hpb hob b1 b2 b3 b4 hp htab hi hq hel bad hk hc0 hFlt htin hA hpA
        go_enter Tryz.func52, Tryz.ntmps52
        go_wp2_with fail
        refine (unhide HF).mono ?_
        rintro e w1 ⟨rfl, rfl⟩
        go_wp2_with fail
        refine (unhide HGM).mono ?_
        rintro e w2 ⟨rfl, hc2⟩
        have hch2 : Chg [] w (w2.alloc (.cells #[.int .i64 v.1, .int .i64 ov] 121)) := ((unhide HC0).trans hc2).alloc _
        have hcall := unhide hout _ hch2
        have hb2 := ((unhide HB).chg hc2 (by simp)).alloc (.cells #[.int .i64 v.1, .int .i64 ov] 121)
        have HCL := hide hcall; have HB2 := hide hb2; have HCH2 := hide hch2; clear hcall hb2 hch2 hc2
        go_wp2_with fail
        refine (unhide HCL).mono ?_
        rintro e w3 ⟨F3, rfl, hg3, st3⟩
        have hb3 := (unhide HB2).chg st3.chg (fun hm => by have := unhide HFL _ hm; omega)
        have q0 := hb3.cell_of (i := 0) rfl
        have q1 := hb3.cell_of (i := 1) rfl
        have f0 := hb3.frozen 0
        have f1 := hb3.frozen 1
        have hb4 := (hb3.setCell 0 (.int .i64 r.1.1)).setCell 1 (.int .i64 r.1.2)
        have r0 := hb4.cell_of (i := 0) (v := .int .i64 r.1.1) rfl
        have r1 := hb4.cell_of (i := 1) (v := .int .i64 r.1.2) rfl
        have k4 : Chg [w.heap.size] w3 ((w3.setCell ⟨w.heap.size, 0, none⟩ (.int .i64 r.1.1)).setCell ⟨w.heap.size, 1, none⟩ (.int .i64 r.1.2)) := ((Chg.refl _ w3).setCell (.inl (by simp)) _).setCell (.inl (by simp)) _
        have hnF : ∀ b ∈ F3, b ∉ [w.heap.size] := fun b hb hm => by
          simp at hm
          subst hm
          rcases st3.foot _ hb with h8 | h8
          · have := unhide HFL _ h8; omega
          · have := (unhide HB2).lt; omega
        have hg4 := stays_G [w.heap.size] _ _ _ _ _ hg3 k4 hnF
        have hst : Stp (bh :: ab a) w F3 ((w3.setCell ⟨w.heap.size, 0, none⟩ (.int .i64 r.1.1)).setCell ⟨w.heap.size, 1, none⟩ (.int .i64 r.1.2)) :=
          ⟨Chg.trans_new (((unhide HCH2).mono (by simp)).trans st3.chg) k4 (fun x hx => by simp at hx; right; omega), fun b hb => by
            rcases st3.foot b hb with h8 | h8
            · exact .inl h8
            · exact .inr (Nat.le_trans (unhide HCH2).size h8)⟩
        have R0 := hide r0; have R1 := hide r1; have HG4 := hide hg4; have HST := hide hst; clear hb3 hb4 r0 r1 k4 hg3 hg4 hst st3 hnF
        go_wp2
        have r0 := unhide R0
        have r1 := unhide R1
        exact bodyPost_ret (v := .tuple #[.agg #[.int .i64 r.1.1, .int .i64 r.1.2], .int .i64 r.2.1]) (by simp [results, Tryz.results52, go_sem, r0, r1]) rfl ⟨F3, rfl, unhide HG4, G_lt (unhide HG4), unhide HST⟩
      · have hq : s.keyQ x i = ((0, 0), 7, s) := by rw [hel, if_pos h0, if_pos hk, if_pos (by omega)]
        rw [if_neg hi, show decide (0 ≤ i ∧ i < (((s.objOf (s.look1 x).1).vals.length / 2 : Nat) : Int)) = false from by simp; omega] at hgetm
        rw [hq]
        have hFlt : ∀ b ∈ bh :: ab a, b < w.heap.size := G_lt hg
        have HF := hide hf; have HGM := hide hgetm; have HC0 := hide hc0; have HG := hide hg; have HB := hide (Blk.new w [.int .i64 0, .int .i64 0] 33)
        clear hf hgetm hmb hs hg hg0 h0 h1 h2 ho hpb hob b1 b2 b3 b4 hp htab hi hq hel bad hk hc0 hFlt htin hA hpA
        go_enter Tryz.func52, Tryz.ntmps52
        go_wp2_with fail
        refine (unhide HF).mono ?_
        rintro e w1 ⟨rfl, rfl⟩
        go_wp2_with fail
        refine (unhide HGM).mono ?_
        rintro e w2 ⟨rfl, hc2⟩
        have hch2 : Chg [] w (w2.alloc (.cells #[.int .i64 0, .int .i64 0] 121)) := ((unhide HC0).trans hc2).alloc _
        have hb3 := ((unhide HB).chg hc2 (by simp)).alloc (.cells #[.int .i64 0, .int .i64 0] 121)
        have q0 := hb3.cell_of (i := 0) rfl
        have q1 := hb3.cell_of (i := 1) rfl
        have f0 := hb3.frozen 0
        have f1 := hb3.frozen 1
        have hb4 := (hb3.setCell 0 (.int .i64 0)).setCell 1 (.int .i64 0)
        have r0 := hb4.cell_of (i := 0) (v := .int .i64 0) rfl
        have r1 := hb4.cell_of (i := 1) (v := .int .i64 0) rfl
        have hch4 := Chg.trans_new (S' := [w.heap.size]) hch2 (((Chg.refl _ _).setCell (p := ⟨w.heap.size, 0, none⟩) (.inl (by simp)) (.int .i64 0)).setCell (p := ⟨w.heap.size, 1, none⟩) (.inl (by simp)) (.int .i64 0)) (fun x hx => by simp at hx; right; omega)
        have hg4 := stays_G [] _ _ _ _ _ (unhide HG) hch4 (by simp)
        have R0 := hide r0; have R1 := hide r1; have HG4 := hide hg4; have HCH4 := hide hch4; clear hb3 hb4 r0 r1 hg4 hch2 hch4 hc2
        go_wp2
        have r0 := unhide R0
        have r1 := unhide R1
        exact bodyPost_ret (v := .tuple #[.agg #[.int .i64 0, .int .i64 0], .int .i64 7]) (by simp [results, Tryz.results52, go_sem, r0, r1]) rfl ⟨_, rfl, unhide HG4, G_lt (unhide HG4), ⟨(unhide HCH4).mono (by simp), fun _ h => .inl h⟩⟩
    · rw [if_neg (fun hh => hk hh.2), if_pos h0, if_neg hk] at hf
      exact bad 5 (by omega) (by rw [hel, if_pos h0, if_neg hk]) ⟨_, hf⟩
  · rw [if_neg (fun hh => h0 hh.1), if_neg h0] at hf
    exact bad _ h0 (by rw [hel, if_neg h0]) ⟨_, hf⟩
end Go.Proofs.YtfoncalkgmeklaaGreat

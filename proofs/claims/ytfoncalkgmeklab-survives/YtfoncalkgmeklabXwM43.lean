import Derived.Test.YtfoncalkgmeklabXwM42
import Derived.Test.YtfoncalkgmeklabXwM4
import Derived.Test.YtfoncalkgmeklabXwM17
import Derived.Test.YtfoncalkgmeklabXwM23

/- gripkeep's count, sized and where; waste. -/
namespace Go.Proofs.Ytfoncalkgmeklab
open Go.RowKit

theorem IntsAt.chg {w w' : World} {a : Option Addr} {l : List Int} (h : IntsAt w a l) (k : Chg [] w w') : IntsAt w' a l := fun h0 => by
  obtain ⟨b, off, e, hl, hc⟩ := h h0
  exact ⟨b, off, e, Nat.lt_of_lt_of_le hl k.size, fun j x hj => by rw [k.cell (a := ⟨b, off + j, none⟩) hl (by simp)]; exact hc j x hj⟩
theorem Out.at {w wr : World} {a : Option Addr} {n c : Nat} {ys : List Int} (h : Out w wr a n c ys) : IntsAt wr a ys := fun h0 => by
  have hl := h.len
  obtain ⟨g, e, hg, hc⟩ := owns_at h.own (by omega)
  exact ⟨g, 0, e, hg, fun j x hj => by rw [Nat.zero_add]; exact hc j _ (by simp [ints, hj])⟩

/-- How many words an object takes. -/
def countQ (k n : Int) : Int := if k = 1 then 1 + 2 * n else if k = 2 then 1 + (n + 7) / 8 else 2 + 4 * n
set_option maxHeartbeats 1000000 in
theorem count_any (k n : Int) (w : World) (h0 : 0 ≤ n) (h1 : n ≤ 65535) : Calls Try.prog 23 #[.int .i64 k, .int .i64 n] w fun e w' => e = .returned (.int .i64 (countQ k n)) ∧ w' = w := by
  have h2 : 0 ≤ n + 7 := by omega
  by_cases k1 : k = 1
  · subst k1
    have e : countQ 1 n = 1 + 2 * n := by simp [countQ]
    rw [e]; clear e
    go_enter Try.func23, Try.ntmps23
    go_wp2
    go_ret
    exact ⟨by simp, rfl⟩
  by_cases k2 : k = 2
  · subst k2
    have e : countQ 2 n = 1 + (n + 7) / 8 := by simp [countQ]
    rw [e]; clear e
    have h3 : 0 ≤ (n + 7) / 8 := by omega
    have h4 : (n + 7) / 8 ≤ 65535 := by omega
    go_enter Try.func23, Try.ntmps23
    go_wp2
    go_ret
    exact ⟨by simp, rfl⟩
  · have e : countQ k n = 2 + 4 * n := by simp [countQ, k1, k2]
    rw [e]; clear e
    have n1 : (k == 1) = false := by simp [k1]
    have n2 : (k == 2) = false := by simp [k2]
    clear k1 k2
    go_enter Try.func23, Try.ntmps23
    go_wp2
    go_ret
    exact ⟨by simp, rfl⟩

/-- The word at a place. -/
def headQ (l : List Int) (p : Int) : Int := l.getD p.toNat 0
def wideQ (k n : Int) : Prop := 3 < k ∨ (k = 1 ∧ 16 < n) ∨ (k = 2 ∧ 64 < n) ∨ (k = 3 ∧ 8 < n)
instance (k n : Int) : Decidable (wideQ k n) := by unfold wideQ; infer_instance
/-- The object that begins at a place. -/
def sizedQ (l : List Int) (p : Int) : Int × Int × Int × Bool :=
  if p < 0 ∨ (l.length : Int) ≤ p ∨ headQ l p < 65536 then (0, 0, 0, false)
  else if wideQ (headQ l p / 65536) (headQ l p % 65536) then (0, 0, 0, false)
  else (headQ l p / 65536, headQ l p % 65536, countQ (headQ l p / 65536) (headQ l p % 65536), decide (p + countQ (headQ l p / 65536) (headQ l p % 65536) ≤ (l.length : Int)))
def sizedV (r : Int × Int × Int × Bool) : Value := .tuple #[.int .i64 r.1, .int .i64 r.2.1, .int .i64 r.2.2.1, .bool r.2.2.2]
end Go.Proofs.Ytfoncalkgmeklab

/- gripkeep's refs. -/
namespace Go.Proofs.Ytfoncalkgmeklab
open Go.RowKit

/-- What the first i values at a place refer to. -/
def refsTo (l : List Int) (b : Nat) : Nat → List Int
  | 0 => []
  | i + 1 => refsTo l b i ++ (if headQ l ((b + 2 * i : Nat) : Int) = 2 then [headQ l ((b + 2 * i + 1 : Nat) : Int)] else [])
theorem refsTo_len (l : List Int) (b i : Nat) : (refsTo l b i).length ≤ i := by
  induction i with
  | zero => simp [refsTo]
  | succ i ih => simp only [refsTo, List.length_append]; split <;> simp <;> omega
/-- What the object at a place refers to. -/
def refsQ (l : List Int) (p : Int) : List Int :=
  if (sizedQ l p).2.2.2 = false ∨ (sizedQ l p).1 = 2 then []
  else if (sizedQ l p).1 = 3 then refsTo l (p.toNat + 2) (2 * (sizedQ l p).2.1.toNat)
  else refsTo l (p.toNat + 1) (sizedQ l p).2.1.toNat
theorem sizedQ_spec {l : List Int} {p k n m : Int} (h : sizedQ l p = (k, n, m, true)) : 0 ≤ p ∧ (k = 1 ∨ k = 2 ∨ k = 3) ∧ 0 ≤ n ∧ n ≤ 64 ∧ (k = 1 → n ≤ 16) ∧ (k = 3 → n ≤ 8) ∧ m = countQ k n ∧ p + m ≤ l.length := by
  simp only [sizedQ] at h
  split at h
  · simp at h
  split at h
  · simp at h
  rename_i h1 h2
  simp only [Prod.mk.injEq, decide_eq_true_eq] at h
  obtain ⟨e1, e2, e3, e4⟩ := h
  simp only [wideQ] at h2
  have hh : 65536 ≤ headQ l p := by omega
  subst e1 e2
  refine ⟨by omega, by omega, by omega, by omega, by omega, by omega, e3.symm, by omega⟩
theorem headQ_at {l : List Int} {q : Nat} (h : q < l.length) : l[q]? = some (headQ l q) := by simp [headQ, List.getD, List.getElem?_eq_getElem h]
theorem Out.nil (w : World) : Out w w none 0 0 [] := ⟨World.ownsRow_nil _ _ _ _, by simp [ab], Chg.refl _ _⟩

end Go.Proofs.Ytfoncalkgmeklab

/- The words of the document's heap are objects, one behind the other (pure). -/
namespace Go.Proofs.Ytfoncalkgmeklab
open Go.RowKit

theorem headQ_word {l : List Int} {p : Int} (h : 0 ≤ p) : headQ l p = wordAt l p := by simp [headQ, wordAt, h]
theorem count_words (k n : Int) : countQ k n = wordsOf k n := by
  unfold countQ wordsOf
  split
  · rfl
  split
  · split <;> omega
  · rfl
/-- Every object of the row is one by its words. -/
theorem sized_obj {s : R} (h : RAll s) {i : Nat} (hm : i ∈ s.row) : sizedQ s.words (placeOf s.objs i s.row) = ((s.objOf i).kind, (s.objOf i).size, oWords (s.objOf i), true) := by
  obtain ⟨h1, h2, h3⟩ := place_bd h hm
  have hk := h.ok.osh (objOf_mem (h.ok.inv.rows i hm))
  obtain ⟨k1, k2, k3, k4, k5⟩ := hk.kind
  have k6 := hk.tab
  have hh : headQ s.words (placeOf s.objs i s.row) = (s.objOf i).kind * 65536 + (s.objOf i).size := by rw [headQ_word h1, word_head h hm]
  have hw := (words_bd hk.kind).1
  have e1 : headQ s.words (placeOf s.objs i s.row) / 65536 = (s.objOf i).kind := by rw [hh]; omega
  have e2 : headQ s.words (placeOf s.objs i s.row) % 65536 = (s.objOf i).size := by rw [hh]; omega
  have e3 : countQ (s.objOf i).kind (s.objOf i).size = oWords (s.objOf i) := count_words _ _
  unfold sizedQ
  rw [e1, e2, e3, if_neg (by rw [hh]; omega), if_neg (by
    unfold wideQ
    intro hx
    rcases hx with hx | hx | hx | hx
    · omega
    · have := k5 (by omega); omega
    · omega
    · have := (k6 hx.1).2.2; omega)]
  simp only [Prod.mk.injEq, true_and]
  simpa using h3

theorem mem_refsTo {l : List Int} {b : Nat} {x : Int} : ∀ {n : Nat}, x ∈ refsTo l b n → ∃ j, j < n ∧ headQ l ((b + 2 * j : Nat) : Int) = 2 ∧ x = headQ l ((b + 2 * j + 1 : Nat) : Int)
  | 0, h => by simp [refsTo] at h
  | n + 1, h => by
    simp only [refsTo, List.mem_append] at h
    rcases h with h | h
    · obtain ⟨j, hj, h1, h2⟩ := mem_refsTo h
      exact ⟨j, by omega, h1, h2⟩
    · by_cases hv : headQ l ((b + 2 * n : Nat) : Int) = 2
      · rw [if_pos hv] at h
        exact ⟨n, by omega, hv, by simpa using h⟩
      · rw [if_neg hv] at h
        simp at h
/-- A word of an object's values. -/
theorem word_vals {s : R} (h : RAll s) {i : Nat} (hm : i ∈ s.row) {d j : Nat} (hd : d = (headWords (s.objOf i)).length) (hj : j < (s.objOf i).vals.length) (hw : (d : Int) + 2 * j + 1 < oWords (s.objOf i)) :
    headQ s.words (((placeOf s.objs i s.row).toNat + d + 2 * j : Nat) : Int) = ((s.objOf i).vals.getD j (0, 0)).1 ∧ headQ s.words (((placeOf s.objs i s.row).toNat + d + 2 * j + 1 : Nat) : Int) = s.outW ((s.objOf i).vals.getD j (0, 0)) := by
  obtain ⟨h1, h2, h3⟩ := place_bd h hm
  obtain ⟨f1, f2⟩ := flat_at s (s.objOf i).vals j hj
  have hl := valWords_len2 s (s.objOf i).vals
  have g : ∀ r, r < 2 * (s.objOf i).vals.length → (objWords s (s.objOf i)).getD (d + r) 0 = ((s.objOf i).vals.flatMap (valWords s)).getD r 0 := fun r hr => by
    rw [objWords_form]
    simp only [List.getD]
    rw [List.getElem?_append_right (by omega), show d + r - (headWords (s.objOf i)).length = r by omega, List.getElem?_append_left (by omega)]
  constructor
  · rw [show (((placeOf s.objs i s.row).toNat + d + 2 * j : Nat) : Int) = placeOf s.objs i s.row + ((d + 2 * j : Nat) : Int) by omega, headQ_word (by omega), word_obj h hm (by omega), g _ (by omega), f1]
  · rw [show (((placeOf s.objs i s.row).toNat + d + 2 * j + 1 : Nat) : Int) = placeOf s.objs i s.row + ((d + (2 * j + 1) : Nat) : Int) by omega, headQ_word (by omega), word_obj h hm (by omega), g _ (by omega), f2]
/-- Behind a table's entries stand noughts. -/
theorem word_nought {s : R} (h : RAll s) {i : Nat} (hm : i ∈ s.row) (hk : (s.objOf i).kind = 3) {r : Nat} (hr : 2 * (s.objOf i).vals.length ≤ r) (hw : (2 : Int) + r < oWords (s.objOf i)) :
    headQ s.words (((placeOf s.objs i s.row).toNat + 2 + r : Nat) : Int) = 0 := by
  obtain ⟨h1, h2, h3⟩ := place_bd h hm
  have ho := h.ok.osh (objOf_mem (h.ok.inv.rows i hm))
  have hl := valWords_len2 s (s.objOf i).vals
  have ht : textWords (s.objOf i).text = [] := by rw [ho.notxt (by omega)]; rfl
  have hh : (headWords (s.objOf i)).length = 2 := by simp [headWords, hk]
  rw [show (((placeOf s.objs i s.row).toNat + 2 + r : Nat) : Int) = placeOf s.objs i s.row + ((2 + r : Nat) : Int) by omega, headQ_word (by omega), word_obj h hm (by omega), objWords_form, ht, List.nil_append]
  simp only [List.getD]
  rw [List.getElem?_append_right (by omega), List.getElem?_append_right (by omega), List.getElem?_replicate]
  split <;> rfl
/-- What an object of the row refers to is of the row. -/
theorem refs_obj {s : R} (h : RAll s) {i : Nat} (hm : i ∈ s.row) : ∀ x ∈ refsQ s.words (placeOf s.objs i s.row), ∃ j ∈ s.row, x = placeOf s.objs j s.row := by
  intro x hx
  have ho := h.ok.osh (objOf_mem (h.ok.inv.rows i hm))
  obtain ⟨k1, k2, k3, k4, k5⟩ := ho.kind
  have hp := place_nonneg h.ok.inv i s.row
  have fin : ∀ j, j < (s.objOf i).vals.length → ((s.objOf i).vals.getD j (0, 0)).1 = 2 → ∃ t ∈ s.row, s.outW ((s.objOf i).vals.getD j (0, 0)) = placeOf s.objs t s.row := fun j hj h2 => by
    have hmem : (s.objOf i).vals.getD j (0, 0) ∈ (s.objOf i).vals := by simp [List.getD, List.getElem?_eq_getElem hj]
    exact ⟨_, h.row.closed i hm _ hmem h2, by simp only [R.outW, h2, if_true]⟩
  unfold refsQ at hx
  rw [sized_obj h hm] at hx
  simp only [Bool.true_eq_false, false_or] at hx
  split at hx
  · simp at hx
  split at hx
  · rename_i hk2 hk3
    obtain ⟨j, hj, e1, e2⟩ := mem_refsTo hx
    have hw : oWords (s.objOf i) = 2 + 4 * (s.objOf i).size := by simp [oWords, wordsOf, hk3]
    by_cases hjv : j < (s.objOf i).vals.length
    · obtain ⟨g1, g2⟩ := word_vals h hm (d := 2) (by simp [headWords, hk3]) hjv (by omega)
      rw [g1] at e1
      obtain ⟨t, ht, et⟩ := fin j hjv e1
      exact ⟨t, ht, by rw [e2, g2, et]⟩
    · have := word_nought h hm hk3 (r := 2 * j) (by omega) (by omega)
      rw [this] at e1
      omega
  · rename_i hk2 hk3
    have hk1 : (s.objOf i).kind = 1 := by omega
    obtain ⟨j, hj, e1, e2⟩ := mem_refsTo hx
    have hw : oWords (s.objOf i) = 1 + 2 * (s.objOf i).size := by simp [oWords, wordsOf, hk1]
    have hvl := ho.arr hk1
    obtain ⟨g1, g2⟩ := word_vals h hm (d := 1) (by simp [headWords, hk1]) (j := j) (by omega) (by omega)
    rw [g1] at e1
    obtain ⟨t, ht, et⟩ := fin j (by omega) e1
    exact ⟨t, ht, by rw [e2, g2, et]⟩
/-- A table's entries are no more than its room. -/
theorem table_count {s : R} (h : RAll s) {i : Nat} (hm : i ∈ s.row) (hk : (s.objOf i).kind = 3) : headQ s.words (placeOf s.objs i s.row + 1) = ((s.objOf i).vals.length : Int) / 2 := by
  obtain ⟨h1, h2, h3⟩ := place_bd h hm
  have ho := h.ok.osh (objOf_mem (h.ok.inv.rows i hm))
  obtain ⟨k1, k2, k3, k4, k5⟩ := ho.kind
  have hw : oWords (s.objOf i) = 2 + 4 * (s.objOf i).size := by simp [oWords, wordsOf, hk]
  rw [headQ_word (by omega), show placeOf s.objs i s.row + 1 = placeOf s.objs i s.row + ((1 : Nat) : Int) by omega, word_obj h hm (by omega), objWords_form]
  simp [headWords, hk]
end Go.Proofs.Ytfoncalkgmeklab

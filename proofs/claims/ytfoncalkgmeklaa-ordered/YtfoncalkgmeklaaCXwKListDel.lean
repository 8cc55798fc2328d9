/- A list from which one is cut in place. -/
import Derived.Test.YtfoncalkgmeklaaXwM45
namespace Go.Proofs.Ytfoncalkgmeklaa
open Go.RowKit

def setL (c : List Value) : Nat → List Value → List Value
  | _, [] => c
  | o, v :: r => setL (c.set o v) (o + 1) r
theorem blk_setCells {b : Nat} {T : TypeId} : ∀ (vs : List Value) {w : World} {c : List Value} (o : Nat), Blk w b c T → Blk (w.setCells b o vs) b (setL c o vs) T
  | [], _, _, _, h => h
  | v :: r, _, _, o, h => blk_setCells r (o + 1) (h.setCell o v)
theorem chg_setCells {b : Nat} : ∀ (vs : List Value) {w0 w : World} (o : Nat), Chg [b] w0 w → Chg [b] w0 (w.setCells b o vs)
  | [], _, _, _, h => h
  | v :: r, _, _, o, h => chg_setCells r (o + 1) (h.setCell (.inl (by simp)) v)
theorem setL_eq : ∀ (vs c : List Value) (o : Nat), o + vs.length ≤ c.length → setL c o vs = c.take o ++ (vs ++ c.drop (o + vs.length))
  | [], c, o, _ => by simp [setL]
  | v :: r, c, o, h => by
    simp only [List.length_cons] at h
    have ho : o < c.length := by omega
    have ih := setL_eq r (c.set o v) (o + 1) (by simp; omega)
    show setL (c.set o v) (o + 1) r = _
    rw [ih]
    have e1 : (c.set o v).take (o + 1) = c.take o ++ [v] := by
      rw [List.take_succ_eq_append_getElem (by simpa using ho), List.take_set_of_le (Nat.le_refl _)]
      simp
    have e2 : (c.set o v).drop (o + 1 + r.length) = c.drop (o + (v :: r).length) := by
      rw [List.drop_set_of_lt (by omega)]
      simp only [List.length_cons]
      congr 1
      omega
    rw [e1, e2]
    simp
theorem Lst.del {w0 w : World} {g n c : Nat} {l : List Int} {F : List Nat} (h : Lst w0 w (some ⟨g, 0, none⟩) n c l F) {i : Nat} (hi : i < n) : Lst w0 (w.setCells g i (ints (l.drop (i + 1)))) (some ⟨g, 0, none⟩) (i + (n - (i + 1))) c (l.take i ++ l.drop (i + 1)) F ∧ Chg [g] w (w.setCells g i (ints (l.drop (i + 1)))) := by
  have hl := h.len
  obtain ⟨rest, hb, h1, h2, h3, _⟩ := owns_blk h.own
  have hlen : (ints (l.drop (i + 1))).length = n - (i + 1) := by simp [ints, hl]
  have hil : (ints l).length = n := by simp [ints, hl]
  have hb' := blk_setCells (ints (l.drop (i + 1))) i hb
  rw [setL_eq _ _ _ (by rw [hlen, List.length_append, hil]; omega), hlen] at hb'
  have et : (ints l ++ rest).take i = ints (l.take i) := by
    rw [List.take_append_of_le_length (by omega)]
    simp [ints, List.map_take]
  rw [et] at hb'
  have hown := hb'.owns (size := 1) (base := 0) (n := i + (n - (i + 1))) (cap := c) (Nat.zero_le _) (by omega) h2 (by
    have e3 : (ints (l.take i)).length = i := by simp [ints, hl]; omega
    simp only [List.length_append, List.length_drop, hlen, e3, hil] at h3 ⊢
    omega)
  have e4 : (ints (l.take i) ++ (ints (l.drop (i + 1)) ++ (ints l ++ rest).drop (i + (n - (i + 1))))).take ((i + (n - (i + 1))) * 1) = ints (l.take i ++ l.drop (i + 1)) := by
    have e3 : (ints (l.take i)).length = i := by simp [ints, hl]; omega
    rw [← List.append_assoc, List.take_append_of_le_length (by rw [List.length_append, e3, hlen]; omega), List.take_of_length_le (by rw [List.length_append, e3, hlen]; omega), ints_append]
  rw [e4] at hown
  exact ⟨⟨hown, by simp [hl]; omega, h.out⟩, chg_setCells _ _ (Chg.refl _ w)⟩
theorem Lst.caps {w0 w : World} {g n c : Nat} {l : List Int} {F : List Nat} (h : Lst w0 w (some ⟨g, 0, none⟩) n c l F) : n ≤ c ∧ c ≤ maxLen := by
  obtain ⟨rest, hb, h1, h2, h3, _⟩ := owns_blk h.own
  exact ⟨h1, h2⟩
theorem Lst.spot {w0 w : World} {g n c : Nat} {l : List Int} {F : List Nat} (h : Lst w0 w (some ⟨g, 0, none⟩) n c l F) {j : Nat} {u : Value} (hj : (ints l)[j]? = some u) : w.cell? ⟨g, j, none⟩ = some u := by
  have hl := h.len
  have hlt := (List.getElem?_eq_some_iff.1 hj).1
  simp only [ints, List.length_map] at hlt
  obtain ⟨g', e, _, hc⟩ := owns_at h.own (by omega)
  simp only [Option.some.injEq, Addr.mk.injEq, and_true] at e
  subst e
  exact hc j u hj
theorem Lst.news {w0 w : World} {g n c : Nat} {l : List Int} {F : List Nat} (h : Lst w0 w (some ⟨g, 0, none⟩) n c l F) {i : Nat} (hi : i < n) : ∃ A : Addr, (if c = i + 1 then some (⟨g, 0, none⟩ : Addr) else some ⟨g, i + 1, none⟩) = some A ∧ ∀ j u, (ints (l.drop (i + 1)))[j]? = some u → w.cell? (A.add j) = some u := by
  have hl := h.len
  have hcap := h.caps
  by_cases hc : c = i + 1
  · refine ⟨⟨g, 0, none⟩, by simp [hc], fun j u hu => ?_⟩
    have : l.drop (i + 1) = [] := List.drop_eq_nil_of_le (by omega)
    rw [this] at hu
    simp [ints] at hu
  · refine ⟨⟨g, i + 1, none⟩, by simp [hc], fun j u hu => ?_⟩
    rw [addr_add]
    refine h.spot ?_
    rw [ints, List.map_drop, List.getElem?_drop] at hu
    exact hu
theorem Lst.spare {w0 w : World} {g n c : Nat} {l : List Int} {F : List Nat} (h : Lst w0 w (some ⟨g, 0, none⟩) n c l F) {i : Nat} (hi : i < n) : ∀ j, j < (ints (l.drop (i + 1))).length → (w.cell? ⟨g, 0 + i * 1 + j, none⟩).isSome = true ∧ w.frozen? ⟨g, 0 + i * 1 + j, none⟩ = false := fun j hj => by
  have hl := h.len
  simp only [ints, List.length_map, List.length_drop] at hj
  rw [Nat.zero_add, Nat.mul_one]
  have hx : (ints l)[i + j]? = some (.int .i64 (l.getD (i + j) 0)) := ints_at (by omega)
  refine ⟨by rw [h.spot hx]; rfl, ?_⟩
  obtain ⟨rest, hb, _⟩ := owns_blk h.own
  exact hb.frozen _
end Go.Proofs.Ytfoncalkgmeklaa

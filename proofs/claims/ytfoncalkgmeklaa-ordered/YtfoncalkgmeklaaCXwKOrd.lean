/- A table of numbers, held by handle 0, beside what is wasted (plain). -/
import Derived.Test.YtfoncalkgmeklaaCXwKHold
namespace Go.Proofs.Ytfoncalkgmeklaa
open Go.RowKit

/-- Keys and values, one behind the other. -/
def ord : List Int → List Int → List (Int × Int)
  | k :: ks, v :: vs => (1, k) :: (1, v) :: ord ks vs
  | _, _ => []
theorem ord_len : ∀ (ks vs : List Int), ks.length = vs.length → (ord ks vs).length = 2 * ks.length
  | [], [], _ => rfl
  | k :: ks, v :: vs, h => by
    have := ord_len ks vs (by simpa using h)
    simp only [ord, List.length_cons, this]
    omega
theorem ord_int : ∀ (ks vs : List Int), ∀ v ∈ ord ks vs, v.1 = 1
  | [], _, v, h => by simp [ord] at h
  | _ :: _, [], v, h => by simp [ord] at h
  | k :: ks, u :: vs, v, h => by
    simp only [ord, List.mem_cons] at h
    rcases h with rfl | rfl | h
    · rfl
    · rfl
    · exact ord_int ks vs v h
theorem ord_pos (k : Int) : ∀ (ks vs : List Int), ks.length = vs.length → keyPos (1, k) (ord ks vs) = 2 * ks.idxOf k
  | [], [], _ => by simp [ord, keyPos]
  | a :: ks, v :: vs, h => by
    have ih := ord_pos k ks vs (by simpa using h)
    simp only [ord, keyPos, List.idxOf_cons, ih]
    by_cases e : a = k
    · subst e; simp
    · have : ((1, a) : Int × Int) ≠ (1, k) := fun h => e (by simpa using h)
      rw [if_neg this]
      have e2 : (a == k) = false := by simp [e]
      rw [e2]
      simp only [cond_false]
      omega
theorem ord_more (k v : Int) : ∀ (ks vs : List Int), ks.length = vs.length → ord (ks ++ [k]) (vs ++ [v]) = ord ks vs ++ [(1, k), (1, v)]
  | [], [], _ => rfl
  | a :: ks, b :: vs, h => by
    have ih := ord_more k v ks vs (by simpa using h)
    simp only [List.cons_append, ord, ih]
theorem ord_set (v : Int) : ∀ (ks vs : List Int) (i : Nat), ks.length = vs.length → (ord ks vs).set (2 * i + 1) (1, v) = ord ks (vs.set i v)
  | [], [], _, _ => by simp [ord]
  | a :: ks, b :: vs, 0, h => by simp [ord]
  | a :: ks, b :: vs, i + 1, h => by
    have ih := ord_set v ks vs i (by simpa using h)
    rw [show 2 * (i + 1) + 1 = (2 * i + 1) + 1 + 1 by omega]
    simp only [ord, List.set_cons_succ, ih]
theorem ord_cut : ∀ (ks vs : List Int) (i : Nat), ks.length = vs.length → (ord ks vs).take (2 * i) ++ (ord ks vs).drop (2 * i + 2) = ord (ks.take i ++ ks.drop (i + 1)) (vs.take i ++ vs.drop (i + 1))
  | [], [], _, _ => by simp [ord]
  | a :: ks, b :: vs, 0, h => by simp [ord]
  | a :: ks, b :: vs, i + 1, h => by
    have ih := ord_cut ks vs i (by simpa using h)
    rw [show 2 * (i + 1) + 2 = (2 * i + 2) + 1 + 1 by omega, show 2 * (i + 1) = 2 * i + 1 + 1 by omega]
    simp only [ord, List.take_succ_cons, List.drop_succ_cons, List.cons_append, ih]
theorem ord_at : ∀ (ks vs : List Int) (i : Nat), ks.length = vs.length → i < ks.length → (ord ks vs).getD (2 * i) (0, 0) = (1, ks.getD i 0) ∧ (ord ks vs).getD (2 * i + 1) (0, 0) = (1, vs.getD i 0)
  | a :: ks, b :: vs, 0, _, _ => by simp [ord, List.getD]
  | a :: ks, b :: vs, i + 1, h, hi => by
    have ih := ord_at ks vs i (by simpa using h) (by simpa using hi)
    rw [show 2 * (i + 1) + 1 = (2 * i + 1) + 1 + 1 by omega, show 2 * (i + 1) = 2 * i + 1 + 1 by omega]
    simpa [ord, List.getD] using ih
/-- The table of these keys and values, held by handle 0, and nothing else that lives. -/
structure OS (room : Int) (ks vs : List Int) (s : R) : Prop where
  hb : HB 1 0 1 s
  len : 0 < s.objs.length
  kind : (s.objOf 0).kind = 3
  size : (s.objOf 0).size = room
  vals : (s.objOf 0).vals = ord ks vs
  eq : ks.length = vs.length
  room0 : 0 ≤ room ∧ room ≤ 8
  nodup : ks.Nodup
section
variable {room : Int} {ks vs : List Int} {s : R}
theorem OS.held (h : OS room ks vs s) : Held 1 [0] 34 s := by
  refine ⟨fun k hk => by simp; omega, fun i hi => by simp at hi; subst hi; exact h.len, fun i hi v hv h2 => ?_, ?_⟩
  · simp at hi
    subst hi
    rw [h.vals] at hv
    have := ord_int ks vs v hv
    omega
  · have e : oWords (s.objs.getD 0 robj0) = 2 + 4 * room := by
      have : s.objs.getD 0 robj0 = s.objOf 0 := rfl
      rw [this]
      unfold oWords
      rw [h.kind, h.size]
      rfl
    simp only [usedOf, e]
    have := h.room0
    omega
theorem OS.of {s' : R} (h : OS room ks vs s) (hb : HB 1 0 1 s') {o : List RObj} (ho : s'.objs = s.objs ++ o) : OS room ks vs s' := by
  have e : s'.objOf 0 = s.objOf 0 := by
    unfold R.objOf
    rw [ho]
    simp only [List.getD]
    rw [List.getElem?_append_left h.len]
  exact ⟨hb, by rw [ho]; have := h.len; simp; omega, by rw [e]; exact h.kind, by rw [e]; exact h.size, by rw [e]; exact h.vals, h.eq, h.room0, h.nodup⟩
theorem OS.inner (s : R) (k : Int) : s.inner (1, k) = (1, k) := by simp [R.inner]
theorem OS.look (h : OS room ks vs s) (k : Int) {v : Int × Int} (hv : v.1 = 0 ∨ v.1 = 1) : s.look 0 (1, k) v true = (0, 0) := by
  have hb : R.badValue (1, k) v true = false := by
    unfold R.badValue
    rcases hv with e | e <;> simp [e]
  have hs : s.stale (1, k) v = false := by
    unfold R.stale
    rcases hv with e | e <;> simp [e]
  exact h.hb.look (x := 0) (by omega) hb hs
theorem OS.table (h : OS room ks vs s) (k : Int) {v : Int × Int} (hv : v.1 = 0 ∨ v.1 = 1) : s.table 0 (1, k) v = (0, 2 * ks.idxOf k, 0) := by
  unfold R.table
  rw [h.look k hv]
  simp only [if_true]
  rw [if_pos h.kind, OS.inner, h.vals, ord_pos k ks vs h.eq]
theorem OS.look1 (h : OS room ks vs s) : s.look1 0 = (0, 0) := h.hb.look (x := 0) (by omega) rfl rfl
theorem OS.lenq (h : OS room ks vs s) : s.lenQ 0 = ((ks.length : Int), 0) := by
  unfold R.lenQ
  rw [h.look1]
  simp only [if_true]
  rw [if_pos h.kind, h.vals, ord_len ks vs h.eq]
  congr 1
  omega
theorem OS.keyq (h : OS room ks vs s) {i : Nat} (hi : i < ks.length) : s.keyQ 0 (i : Int) = ((1, ks.getD i 0), 0, s) := by
  unfold R.keyQ
  rw [h.look1]
  simp only [if_true]
  rw [if_pos h.kind, h.vals, ord_len ks vs h.eq, if_neg (by omega)]
  rw [show (i : Int).toNat = i from rfl, (ord_at ks vs i h.eq hi).1]
  simp [R.outer]
theorem OS.keyn (h : OS room ks vs s) : s.keyQ 0 (ks.length : Int) = ((0, 0), 7, s) := by
  unfold R.keyQ
  rw [h.look1]
  simp only [if_true]
  rw [if_pos h.kind, h.vals, ord_len ks vs h.eq, if_pos (by omega)]
theorem idx_none {k : Int} (hk : k ∉ ks) : ks.idxOf k = ks.length := Nat.le_antisymm List.idxOf_le_length (Nat.not_lt.1 (fun h => hk (List.idxOf_lt_length_iff.1 h)))
theorem idx_at (hn : ks.Nodup) {i : Nat} (hi : i < ks.length) : ks.idxOf (ks.getD i 0) = i := by
  have : ks.getD i 0 = ks[i] := by simp [List.getD, hi]
  rw [this]
  exact hn.idxOf_getElem i hi
theorem OS.findq (h : OS room ks vs s) {i : Nat} (hi : i < ks.length) : s.findQ 0 (1, ks.getD i 0) = ((1, vs.getD i 0), 0, s) := by
  unfold R.findQ
  rw [h.table _ (.inl rfl)]
  simp only [if_true]
  rw [h.vals, ord_len ks vs h.eq, idx_at h.nodup hi, if_neg (by omega), (ord_at ks vs i h.eq hi).2]
  simp [R.outer]
theorem OS.set (h : OS room ks vs s) {ks' vs' : List Int} (hall : RAll (s.setObj 0 { s.objOf 0 with vals := ord ks' vs' })) (he : ks'.length = vs'.length) (hn : ks'.Nodup) : OS room ks' vs' (s.setObj 0 { s.objOf 0 with vals := ord ks' vs' }) := by
  have e : (s.setObj 0 { s.objOf 0 with vals := ord ks' vs' }).objOf 0 = { s.objOf 0 with vals := ord ks' vs' } := by
    have := h.len
    unfold R.setObj R.objOf
    simp [List.getD, this]
  exact ⟨⟨hall, h.hb.dead, h.hb.limit, h.hb.scopes, h.hb.han, h.hb.slot⟩, by unfold R.setObj; simpa using h.len, by rw [e]; exact h.kind, by rw [e]; exact h.size, by rw [e], he, h.room0, hn⟩
theorem OS.putOld (h : OS room ks vs s) {k i : Int} (hk : k ∈ ks) : ∃ s', s.putQ 0 (1, k) (1, i) = (0, s') ∧ OS room ks (vs.set (ks.idxOf k) i) s' := by
  have hlt : ks.idxOf k < ks.length := List.idxOf_lt_length_iff.2 hk
  have hall := h.hb.all.put 0 (1, k) (1, i)
  have e : s.putQ 0 (1, k) (1, i) = (0, s.setObj 0 { s.objOf 0 with vals := ord ks (vs.set (ks.idxOf k) i) }) := by
    unfold R.putQ
    rw [h.table k (.inr rfl)]
    simp only [if_true]
    rw [h.vals, ord_len ks vs h.eq, if_neg (by omega), OS.inner, ord_set i ks vs _ h.eq]
  rw [e] at hall
  exact ⟨_, e, h.set hall (by simp [h.eq]) h.nodup⟩
theorem OS.putFull (h : OS room ks vs s) {k i : Int} (hk : k ∉ ks) (hf : (ks.length : Int) = room) : s.putQ 0 (1, k) (1, i) = (9, s) := by
  have hlt : ks.idxOf k = ks.length := idx_none hk
  unfold R.putQ
  rw [h.table k (.inr rfl)]
  simp only [if_true]
  rw [h.vals, ord_len ks vs h.eq, hlt, if_pos rfl, h.size, if_pos (by omega)]
theorem OS.putNew (h : OS room ks vs s) {k i : Int} (hk : k ∉ ks) (hf : (ks.length : Int) ≠ room) : ∃ s', s.putQ 0 (1, k) (1, i) = (0, s') ∧ OS room (ks ++ [k]) (vs ++ [i]) s' := by
  have hlt : ks.idxOf k = ks.length := idx_none hk
  have hall := h.hb.all.put 0 (1, k) (1, i)
  have e : s.putQ 0 (1, k) (1, i) = (0, s.setObj 0 { s.objOf 0 with vals := ord (ks ++ [k]) (vs ++ [i]) }) := by
    unfold R.putQ
    rw [h.table k (.inr rfl)]
    simp only [if_true]
    rw [h.vals, ord_len ks vs h.eq, hlt, if_pos rfl, h.size, if_neg (by omega), OS.inner, OS.inner, ord_more k i ks vs h.eq]
  rw [e] at hall
  refine ⟨_, e, h.set hall (by simp [h.eq]) ?_⟩
  rw [List.nodup_append]
  exact ⟨h.nodup, by simp, fun a ha b hb => by simp at hb; subst hb; intro e; subst e; exact hk ha⟩
theorem OS.cutNone (h : OS room ks vs s) {k : Int} (hk : k ∉ ks) : s.cutQ 0 (1, k) = (8, s) := by
  have hlt : ks.idxOf k = ks.length := idx_none hk
  unfold R.cutQ
  rw [h.table k (.inl rfl)]
  simp only [if_true]
  rw [h.vals, ord_len ks vs h.eq, hlt, if_pos rfl]
theorem OS.cut (h : OS room ks vs s) {k : Int} (hk : k ∈ ks) : ∃ s', s.cutQ 0 (1, k) = (0, s') ∧ OS room (ks.take (ks.idxOf k) ++ ks.drop (ks.idxOf k + 1)) (vs.take (ks.idxOf k) ++ vs.drop (ks.idxOf k + 1)) s' := by
  have hlt : ks.idxOf k < ks.length := List.idxOf_lt_length_iff.2 hk
  have hall := h.hb.all.cut 0 (1, k)
  have e : s.cutQ 0 (1, k) = (0, s.setObj 0 { s.objOf 0 with vals := ord (ks.take (ks.idxOf k) ++ ks.drop (ks.idxOf k + 1)) (vs.take (ks.idxOf k) ++ vs.drop (ks.idxOf k + 1)) }) := by
    unfold R.cutQ
    rw [h.table k (.inl rfl)]
    simp only [if_true]
    rw [h.vals, ord_len ks vs h.eq, if_neg (by omega), ord_cut ks vs _ h.eq]
  rw [e] at hall
  refine ⟨_, e, h.set hall (by simp [h.eq]) ?_⟩
  rw [← List.eraseIdx_eq_take_drop_succ]
  exact h.nodup.sublist (List.eraseIdx_sublist _ _)
theorem OS.collect (h : OS room ks vs s) : ∃ s', s.collectQ = (0, s') ∧ OS room ks vs s' := by
  obtain ⟨s', e, hb, ho⟩ := h.hb.collect
  exact ⟨s', e, h.of hb (o := []) (by rw [ho]; simp)⟩
theorem OS.waste (h : OS room ks vs s) {n : Int} (h0 : 0 ≤ n ∧ n ≤ 16) : ∃ x s2 s3, s.openQ = (1, 0, { s with scopes := 1 }) ∧ ({ s with scopes := 1 } : R).arrayQ n = (x, 0, s2) ∧ s2.closeQ 1 = (0, s3) ∧ OS room ks vs s3 := by
  obtain ⟨x, s2, s3, e1, e2, e3, hb, ho, _⟩ := h.hb.waste (by omega) h.held h0 (by omega)
  exact ⟨x, s2, s3, e1, e2, e3, h.of hb ho⟩
end
theorem OS.start {room : Int} (hr : 0 ≤ room ∧ room ≤ 8) (fs : List Bool) (hf : fs.length ≤ 64) : ∃ s', (R.init 512 fs).tableQ room = (0, 0, s') ∧ OS room [] [] s' := by
  have p0 : PH 512 [] (R.init 512 fs) := ⟨all_init (by omega) (by omega) hf, rfl, rfl, rfl, rfl, rfl⟩
  have e : (R.init 512 fs).tableQ room = (R.init 512 fs).make (mkTable room) := by
    unfold R.tableQ
    rw [if_neg (by simp [R.init]), if_neg (by omega)]
  have ow : oWords (mkTable room) = 2 + 4 * room := rfl
  obtain ⟨q1, q2, q3⟩ := p0.make (o := mkTable room) (by simp) (osh_table (by omega)) (fun v hv => by simp [mkTable] at hv) (by rw [ow]; simp; omega)
  have hh : ((R.init 512 fs).make (mkTable room)).2.2.handles = [⟨0, 0, 0, true⟩] := by have := q3.handles; simpa using this
  have ho : ((R.init 512 fs).make (mkTable room)).2.2.objs = [mkTable room] := q3.objs
  have hb : ((R.init 512 fs).make (mkTable room)).2.2.objOf 0 = mkTable room := by unfold R.objOf; rw [ho]; rfl
  refine ⟨((R.init 512 fs).make (mkTable room)).2.2, ?_, ⟨⟨q3.all, q3.dead, q3.limit, q3.scopes, ⟨[], by rw [hh]; rfl, by simp⟩, ?_⟩, by rw [ho]; simp, by rw [hb]; rfl, by rw [hb]; rfl, by rw [hb]; rfl, rfl, hr, by simp⟩⟩
  · rw [e]
    exact Prod.ext q1 (Prod.ext q2 rfl)
  · intro g hg _
    rw [hh] at hg
    simp at hg
    subst hg
    simp
end Go.Proofs.Ytfoncalkgmeklaa

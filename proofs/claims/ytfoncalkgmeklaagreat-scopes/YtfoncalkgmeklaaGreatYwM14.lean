import Derived.Test.YtfoncalkgmeklaaGreatYwM13

/- What the document's heap keeps, call by call. -/
namespace Go.Proofs.YtfoncalkgmeklaaGreat
open Go.RowKit

/-- All that the calls keep. -/
structure ROk (s : R) : Prop where
  inv : RInv s
  sh : RSh s

theorem free_lt {s : R} {k : Nat} (h : s.free? = some k) : k < 32 := by
  have := List.mem_of_find?_eq_some h
  simpa using this
theorem past_le (s : R) (k : Int) : s.past k ≤ s.handles.length := List.countP_le_length

theorem ROk.handle {s : R} (h : ROk s) {o : Nat} (ho : o < s.objs.length) (sc : Int) : ROk (s.handle o sc).2.2 := by
  unfold R.handle
  split
  · exact h
  · rename_i k hk
    have hk32 := free_lt hk
    have hp := past_le s (k : Int)
    have hi := h.inv
    refine ⟨⟨hi.limit, hi.nflags, hi.kinds, hi.rows, hi.rowLen, ?_, hi.vals, hi.valLen, hi.scopes⟩, ⟨h.sh.arr, h.sh.tab, h.sh.txt, h.sh.notxt⟩⟩
    intro x hx
    show 0 ≤ x.num ∧ x.num < 32 * (((s.handles ++ [_]).length : Nat) + 1 : Int) ∧ x.obj < s.objs.length
    simp only [List.length_append, List.length_cons, List.length_nil]
    rcases List.mem_append.1 hx with h1 | h1
    · have := hi.nums x h1
      refine ⟨this.1, ?_, this.2.2⟩
      have := this.2.1
      omega
    · simp at h1
      subst h1
      exact ⟨by simp only []; omega, by simp only []; omega, ho⟩
theorem ROk.withRow {s : R} (h : ROk s) {row : List Nat} (hg : Good s row) : ROk { s with row := row } := ⟨h.inv.withRow hg, ⟨h.sh.arr, h.sh.tab, h.sh.txt, h.sh.notxt⟩⟩
theorem ROk.collect {s : R} (h : ROk s) : ROk s.collectQ.2 := by
  unfold R.collectQ
  split
  · exact h
  · exact h.withRow (Good.reach h.inv)

/-- A shape that an object may have. -/
structure OSh (n : Nat) (o : RObj) : Prop where
  kind : 1 ≤ o.kind ∧ o.kind ≤ 3 ∧ 0 ≤ o.size ∧ o.size ≤ 64 ∧ (o.kind ≠ 2 → o.size ≤ 16)
  vals : ∀ v ∈ o.vals, 0 ≤ v.1 ∧ v.1 ≤ 2 ∧ (v.1 = 2 → 0 ≤ v.2 ∧ v.2 < n)
  valLen : o.vals.length ≤ 16
  arr : o.kind = 1 → (o.vals.length : Int) = o.size
  tab : o.kind = 3 → o.vals.length % 2 = 0 ∧ (o.vals.length : Int) ≤ 2 * o.size ∧ o.size ≤ 8
  txt : o.kind = 2 → (o.text.size : Int) = o.size ∧ o.vals = []
  notxt : o.kind ≠ 2 → o.text = ⟨#[]⟩
theorem ROk.osh {s : R} (h : ROk s) {o : RObj} (ho : o ∈ s.objs) : OSh s.objs.length o :=
  ⟨h.inv.kinds o ho, h.inv.vals o ho, h.inv.valLen o ho, h.sh.arr o ho, h.sh.tab o ho, h.sh.txt o ho, h.sh.notxt o ho⟩
theorem ROk.push {s : R} (h : ROk s) {o : RObj} (ho : OSh s.objs.length o) : ROk (s.push o) := by
  refine ⟨h.inv.push ho.kind ho.vals ho.valLen, ⟨?_, ?_, ?_, ?_⟩⟩
  all_goals
    intro x hx
    rcases List.mem_append.1 hx with h1 | h1
  · exact h.sh.arr x h1
  · simp at h1; subst h1; exact ho.arr
  · exact h.sh.tab x h1
  · simp at h1; subst h1; exact ho.tab
  · exact h.sh.txt x h1
  · simp at h1; subst h1; exact ho.txt
  · exact h.sh.notxt x h1
  · simp at h1; subst h1; exact ho.notxt
theorem ROk.made3 {s : R} (h : ROk s) (n : Int) : ROk (s.made3 n) := by
  have e := (made3_objs s n).1
  exact ⟨h.inv.made3 n, ⟨by rw [e]; exact h.sh.arr, by rw [e]; exact h.sh.tab, by rw [e]; exact h.sh.txt, by rw [e]; exact h.sh.notxt⟩⟩
theorem ROk.make {s : R} (h : ROk s) {o : RObj} (ho : OSh s.objs.length o) : ROk (s.make o).2.2 := by
  unfold R.make
  split
  · exact h
  · split
    · have h3 := h.made3 (oWords o)
      exact ⟨⟨h3.inv.limit, h3.inv.nflags, h3.inv.kinds, h3.inv.rows, h3.inv.rowLen, h3.inv.nums, h3.inv.vals, h3.inv.valLen, h3.inv.scopes⟩, ⟨h3.sh.arr, h3.sh.tab, h3.sh.txt, h3.sh.notxt⟩⟩
    · have h3 := h.made3 (oWords o)
      have e := (made3_objs s (oWords o)).1
      refine (h3.push (o := o) (by rw [e]; exact ho)).handle ?_ _
      show s.objs.length < ((s.made3 (oWords o)).objs ++ [o]).length
      rw [e]; simp
theorem osh_array {n : Nat} {m : Int} (h0 : ¬ (m < 0 ∨ 16 < m)) : OSh n (mkArray m) := by
  refine ⟨⟨by simp [mkArray], by simp [mkArray], by simp only [mkArray]; omega, by simp only [mkArray]; omega, fun _ => by simp only [mkArray]; omega⟩, ?_, by simp only [mkArray, List.length_replicate]; omega, fun _ => by simp only [mkArray, List.length_replicate]; omega, fun h => by simp [mkArray] at h, fun h => by simp [mkArray] at h, fun _ => rfl⟩
  intro v hv
  have := List.eq_of_mem_replicate hv
  subst this
  simp
theorem osh_bytes {n : Nat} {t : ByteArray} (h0 : ¬ 64 < t.size) : OSh n (mkBytes t) :=
  ⟨⟨by simp [mkBytes], by simp [mkBytes], by simp [mkBytes], by simp only [mkBytes]; omega, fun h => by simp [mkBytes] at h⟩, fun v hv => by simp [mkBytes] at hv, by simp [mkBytes], fun h => by simp [mkBytes] at h, fun h => by simp [mkBytes] at h, fun _ => ⟨rfl, rfl⟩, fun h => by simp [mkBytes] at h⟩
theorem osh_table {n : Nat} {m : Int} (h0 : ¬ (m < 0 ∨ 8 < m)) : OSh n (mkTable m) :=
  ⟨⟨by simp [mkTable], by simp [mkTable], by simp only [mkTable]; omega, by simp only [mkTable]; omega, fun _ => by simp only [mkTable]; omega⟩, fun v hv => by simp [mkTable] at hv, by simp [mkTable], fun h => by simp [mkTable] at h, fun _ => ⟨by simp [mkTable], by simp only [mkTable, List.length_nil]; omega, by simp only [mkTable]; omega⟩, fun h => by simp [mkTable] at h, fun _ => rfl⟩
theorem ROk.array {s : R} (h : ROk s) (n : Int) : ROk (s.arrayQ n).2.2 := by
  unfold R.arrayQ
  split
  · exact h
  · split
    · exact h
    · rename_i hn; exact h.make (osh_array hn)
theorem ROk.bytes {s : R} (h : ROk s) (t : ByteArray) : ROk (s.bytesQ t).2.2 := by
  unfold R.bytesQ
  split
  · exact h
  · split
    · exact h
    · rename_i hn; exact h.make (osh_bytes hn)
theorem ROk.table {s : R} (h : ROk s) (n : Int) : ROk (s.tableQ n).2.2 := by
  unfold R.tableQ
  split
  · exact h
  · split
    · exact h
    · rename_i hn; exact h.make (osh_table hn)
theorem ROk.join {s : R} (h : ROk s) (x y : Int) : ROk (s.joinQ x y).2.2 := by
  unfold R.joinQ
  split
  · split
    · split
      · exact h
      · rename_i hn; exact h.make (osh_bytes hn)
    · exact h
  · exact h
theorem ROk.copy {s : R} (h : ROk s) (x : Int) : ROk (s.copyQ x).2.2 := by
  unfold R.copyQ
  split
  · rename_i h0; exact h.make (h.osh (objOf_mem (look_ok h.inv h0)))
  · exact h
theorem ROk.opens {s : R} (h : ROk s) : ROk s.openQ.2.2 := by
  unfold R.openQ
  split
  · exact h
  · split
    · exact h
    · rename_i h16
      have := h.inv.scopes
      exact ⟨⟨h.inv.limit, h.inv.nflags, h.inv.kinds, h.inv.rows, h.inv.rowLen, h.inv.nums, h.inv.vals, h.inv.valLen, by simp only []; omega⟩, ⟨h.sh.arr, h.sh.tab, h.sh.txt, h.sh.notxt⟩⟩
theorem ROk.withHandles {s : R} (h : ROk s) {l : List RHan} {sc : Int} (hl : l.length = s.handles.length) (hn : ∀ x ∈ l, ∃ y ∈ s.handles, x.num = y.num ∧ x.obj = y.obj) (hs : 0 ≤ sc ∧ sc ≤ 16) : ROk { s with handles := l, scopes := sc } := by
  refine ⟨⟨h.inv.limit, h.inv.nflags, h.inv.kinds, h.inv.rows, h.inv.rowLen, ?_, h.inv.vals, h.inv.valLen, hs⟩, ⟨h.sh.arr, h.sh.tab, h.sh.txt, h.sh.notxt⟩⟩
  intro x hx
  obtain ⟨y, hy, e1, e2⟩ := hn x hx
  have := h.inv.nums y hy
  show 0 ≤ x.num ∧ x.num < 32 * ((l.length : Int) + 1) ∧ x.obj < s.objs.length
  rw [hl, e1, e2]
  exact this
theorem ROk.close {s : R} (h : ROk s) (n : Int) : ROk (s.closeQ n).2 := by
  unfold R.closeQ
  split
  · exact h
  · split
    · exact h
    · rename_i hn
      have hs := h.inv.scopes
      refine h.withHandles (by simp) ?_ (by omega)
      intro x hx
      obtain ⟨y, hy, rfl⟩ := List.mem_map.1 hx
      refine ⟨y, hy, ?_⟩
      unfold RHan.shut
      split <;> exact ⟨rfl, rfl⟩
theorem ROk.release {s : R} (h : ROk s) (x : Int) : ROk (s.releaseQ x).2 := by
  unfold R.releaseQ
  split
  · split
    · refine h.withHandles (sc := s.scopes) (by simp) ?_ h.inv.scopes
      intro z hz
      rcases List.mem_or_eq_of_mem_set hz with h1 | h1
      · exact ⟨z, h1, rfl, rfl⟩
      · subst h1
        by_cases hk : (posOf (s.find? x)).toNat < s.handles.length
        · exact ⟨s.handles[(posOf (s.find? x)).toNat], List.getElem_mem hk, by simp [List.getD, hk, RHan.off], by simp [List.getD, hk, RHan.off]⟩
        · rw [List.set_eq_of_length_le (by omega)] at hz
          exact ⟨_, hz, rfl, rfl⟩
    · exact h
  · exact h
theorem ROk.keep {s : R} (h : ROk s) (x : Int) : ROk (s.keepQ x).2.2 := by
  unfold R.keepQ
  split
  · rename_i h0; exact h.handle (look_ok h.inv h0) _
  · exact h
theorem ROk.escape {s : R} (h : ROk s) (x : Int) : ROk (s.escapeQ x).2.2 := by
  unfold R.escapeQ
  split
  · split
    · exact h
    · rename_i h0 _; exact h.handle (look_ok h.inv h0) _
  · exact h

theorem ROk.outer {s : R} (h : ROk s) {v : Int × Int} (hv : v.1 = 2 → 0 ≤ v.2 ∧ v.2 < s.objs.length) : ROk (s.outer v).2.2 := by
  unfold R.outer
  split
  · rename_i h2
    have := hv h2
    split
    · exact h.handle (by omega) _
    · exact h
  · exact h
theorem ROk.get {s : R} (h : ROk s) (x i : Int) : ROk (s.getQ x i).2.2 := by
  unfold R.getQ
  split
  · rename_i h0
    obtain ⟨h1, h2, h3, h4⟩ := element_ok h.inv h0
    have ho := h.osh (objOf_mem h1)
    refine h.outer fun h5 => ?_
    by_cases hj : i.toNat < (s.objOf (s.element x i (0, 0)).1).vals.length
    · rw [show (s.objOf (s.element x i (0, 0)).1).vals.getD i.toNat (0, 0) = (s.objOf (s.element x i (0, 0)).1).vals[i.toNat] from by simp [List.getD, hj]] at h5 ⊢
      exact (ho.vals _ (List.getElem_mem hj)).2.2 h5
    · simp [List.getD, List.getElem?_eq_none (Nat.le_of_not_lt hj)] at h5
  · exact h
theorem ROk.key {s : R} (h : ROk s) (x i : Int) : ROk (s.keyQ x i).2.2 := by
  unfold R.keyQ
  split
  · rename_i h0
    split
    · split
      · exact h
      · have ho := h.osh (objOf_mem (look_ok h.inv h0))
        refine h.outer fun h5 => ?_
        by_cases hj : 2 * i.toNat < (s.objOf (s.look1 x).1).vals.length
        · rw [show (s.objOf (s.look1 x).1).vals.getD (2 * i.toNat) (0, 0) = (s.objOf (s.look1 x).1).vals[2 * i.toNat] from by simp [List.getD, hj]] at h5 ⊢
          exact (ho.vals _ (List.getElem_mem hj)).2.2 h5
        · simp [List.getD, List.getElem?_eq_none (Nat.le_of_not_lt hj)] at h5
    · exact h
  · exact h
theorem ROk.finds {s : R} (h : ROk s) (x : Int) (k : Int × Int) : ROk (s.findQ x k).2.2 := by
  unfold R.findQ
  split
  · rename_i h0
    split
    · exact h
    · obtain ⟨h1, _⟩ := table_ok h.inv h0
      have ho := h.osh (objOf_mem h1)
      refine h.outer fun h5 => ?_
      by_cases hj : (s.table x k (0, 0)).2.1 + 1 < (s.objOf (s.table x k (0, 0)).1).vals.length
      · rw [show (s.objOf (s.table x k (0, 0)).1).vals.getD ((s.table x k (0, 0)).2.1 + 1) (0, 0) = (s.objOf (s.table x k (0, 0)).1).vals[(s.table x k (0, 0)).2.1 + 1] from by simp [List.getD, hj]] at h5 ⊢
        exact (ho.vals _ (List.getElem_mem hj)).2.2 h5
      · simp [List.getD, List.getElem?_eq_none (Nat.le_of_not_lt hj)] at h5
  · exact h
theorem ROk.setObj {s : R} (h : ROk s) (o : Nat) {ob : RObj} (ho : OSh s.objs.length ob) : ROk (s.setObj o ob) := by
  have hl : (s.setObj o ob).objs.length = s.objs.length := by simp [R.setObj]
  have mem : ∀ x ∈ (s.setObj o ob).objs, x ∈ s.objs ∨ x = ob := fun x hx => List.mem_or_eq_of_mem_set hx
  refine ⟨⟨h.inv.limit, h.inv.nflags, ?_, ?_, ?_, ?_, ?_, ?_, h.inv.scopes⟩, ⟨?_, ?_, ?_, ?_⟩⟩
  · intro x hx; rcases mem x hx with h1 | rfl; exact h.inv.kinds x h1; exact ho.kind
  · rw [hl]; exact h.inv.rows
  · rw [hl]; exact h.inv.rowLen
  · rw [hl]; exact h.inv.nums
  · intro x hx; rw [hl]; rcases mem x hx with h1 | rfl; exact h.inv.vals x h1; exact ho.vals
  · intro x hx; rcases mem x hx with h1 | rfl; exact h.inv.valLen x h1; exact ho.valLen
  · intro x hx; rcases mem x hx with h1 | rfl; exact h.sh.arr x h1; exact ho.arr
  · intro x hx; rcases mem x hx with h1 | rfl; exact h.sh.tab x h1; exact ho.tab
  · intro x hx; rcases mem x hx with h1 | rfl; exact h.sh.txt x h1; exact ho.txt
  · intro x hx; rcases mem x hx with h1 | rfl; exact h.sh.notxt x h1; exact ho.notxt
/-- A value that may stand in an object. -/
def VOk (n : Nat) (v : Int × Int) : Prop := 0 ≤ v.1 ∧ v.1 ≤ 2 ∧ (v.1 = 2 → 0 ≤ v.2 ∧ v.2 < n)
theorem inner_ok {s : R} (h : ROk s) {v : Int × Int} (h0 : 0 ≤ v.1 ∧ v.1 ≤ 2) (h2 : v.1 = 2 → (s.find? v.2).isSome = true) : VOk s.objs.length (s.inner v) := by
  unfold R.inner
  split
  · simp [VOk]
  · split
    · rename_i _ he
      have hs := h2 he
      cases hq : s.find? v.2 with
      | none => simp [hq] at hs
      | some a =>
        have ha : a < s.handles.length := by
          unfold R.find? at hq
          exact (List.findIdx?_eq_some_iff_getElem.1 hq).1
        have := (h.inv.nums s.handles[a] (List.getElem_mem ha)).2.2
        refine ⟨by simp, by simp, fun _ => ?_⟩
        simp [posOf, List.getD, ha]
        omega
    · rename_i h3 h4
      exact ⟨h0.1, h0.2, fun h5 => absurd h5 h4⟩
theorem bad_key {k v : Int × Int} {key : Bool} (h : R.badValue k v key = false) : (0 ≤ k.1 ∧ k.1 ≤ 2) ∧ (0 ≤ v.1 ∧ v.1 ≤ 2) := by
  cases key <;> simp [R.badValue] at h <;> omega
theorem ROk.set {s : R} (h : ROk s) (x i : Int) (v : Int × Int) : ROk (s.setQ x i v).2 := by
  unfold R.setQ
  split
  · rename_i h0
    obtain ⟨h1, h2, h3, h4⟩ := element_ok h.inv h0
    have hl := look_vals (element_look h0)
    have hv := inner_ok h (bad_key hl.1).2 hl.2.2.1
    have ho := h.osh (objOf_mem h1)
    refine h.setObj _ ⟨ho.kind, ?_, by simpa using ho.valLen, fun hk => by simpa using ho.arr hk, fun hk => by simpa using ho.tab hk, fun hk => ?_, ho.notxt⟩
    · intro u hu
      rcases List.mem_or_eq_of_mem_set hu with h5 | rfl
      · exact ho.vals u h5
      · exact hv
    · exact ⟨(ho.txt hk).1, by simp [(ho.txt hk).2]⟩
  · exact h
theorem ROk.put {s : R} (h : ROk s) (x : Int) (k v : Int × Int) : ROk (s.putQ x k v).2 := by
  unfold R.putQ
  split
  · rename_i h0
    obtain ⟨h1, h2, h3, h4, _⟩ := table_ok h.inv h0
    have hl := look_vals h4
    have hk := inner_ok h (bad_key hl.1).1 hl.2.1
    have hv := inner_ok h (bad_key hl.1).2 hl.2.2.1
    have ho := h.osh (objOf_mem h1)
    have ht := ho.tab h2
    split
    · split
      · exact h
      · rename_i hfull
        refine h.setObj _ ⟨ho.kind, ?_, by simp; omega, fun hk1 => by rw [h2] at hk1; simp at hk1, fun _ => ⟨by simp; omega, by simp; omega, ht.2.2⟩, fun hk2 => by rw [h2] at hk2; simp at hk2, ho.notxt⟩
        intro u hu
        rcases List.mem_append.1 hu with h5 | h5
        · exact ho.vals u h5
        · simp at h5
          rcases h5 with rfl | rfl
          · exact hk
          · exact hv
    · refine h.setObj _ ⟨ho.kind, ?_, by simpa using ho.valLen, fun hk1 => by rw [h2] at hk1; simp at hk1, fun hk => by simpa using ho.tab hk, fun hk2 => by rw [h2] at hk2; simp at hk2, ho.notxt⟩
      intro u hu
      rcases List.mem_or_eq_of_mem_set hu with h5 | rfl
      · exact ho.vals u h5
      · exact hv
  · exact h
theorem ROk.cut {s : R} (h : ROk s) (x : Int) (k : Int × Int) : ROk (s.cutQ x k).2 := by
  unfold R.cutQ
  split
  · rename_i h0
    obtain ⟨h1, h2, h3, h4, _⟩ := table_ok h.inv h0
    have ho := h.osh (objOf_mem h1)
    have ht := ho.tab h2
    have hev := keyPos_even (s.inner k) _ ht.1
    rw [← h3] at hev
    have hvl := ho.valLen
    split
    · exact h
    · rename_i hne
      refine h.setObj _ ⟨ho.kind, ?_, by simp; omega, fun hk1 => by rw [h2] at hk1; simp at hk1, fun _ => ⟨by simp; omega, by simp; omega, ht.2.2⟩, fun hk2 => by rw [h2] at hk2; simp at hk2, ho.notxt⟩
      intro u hu
      rcases List.mem_append.1 hu with h5 | h5
      · exact ho.vals u (List.mem_of_mem_take h5)
      · exact ho.vals u (List.mem_of_mem_drop h5)
  · exact h
end Go.Proofs.YtfoncalkgmeklaaGreat

/- How far a script's steps let the document's heap grow. -/
namespace Go.Proofs.YtfoncalkgmeklaaGreat

/-- At most n objects, handles, takings of words. -/
structure RUp (n : Nat) (s : R) : Prop where
  objs : s.objs.length ≤ n
  handles : s.handles.length ≤ n
  made : s.made ≤ n
theorem RUp.bd {n : Nat} {s : R} (h : RUp n s) (hn : n ≤ 3298534883328) : RBd s := ⟨Nat.le_trans h.objs hn, Nat.le_trans h.handles hn, Nat.le_trans h.made hn⟩
theorem RUp.mono {n m : Nat} {s : R} (h : RUp n s) (hn : n ≤ m) : RUp m s := ⟨Nat.le_trans h.objs hn, Nat.le_trans h.handles hn, Nat.le_trans h.made hn⟩
theorem RUp.succ {n : Nat} {s : R} (h : RUp n s) : RUp (n + 1) s := h.mono (Nat.le_succ n)
theorem RUp.handle {n : Nat} {s : R} (h : RUp n s) (o : Nat) (c : Int) : RUp (n + 1) (s.handle o c).2.2 := by
  unfold R.handle
  split
  · exact h.succ
  · exact ⟨Nat.le_succ_of_le h.objs, by have := h.handles; simp; omega, Nat.le_succ_of_le h.made⟩
theorem RUp.make {n : Nat} {s : R} (h : RUp n s) (o : RObj) : RUp (n + 1) (s.make o).2.2 := by
  have e := made3_objs s (oWords o)
  have h1 := h.objs
  have h2 := h.handles
  have h3 := h.made
  unfold R.make
  split
  · exact h.succ
  · split
    · refine ⟨?_, ?_, ?_⟩
      · show (s.made3 (oWords o)).objs.length ≤ _; rw [e.1]; omega
      · show (s.made3 (oWords o)).handles.length ≤ _; rw [e.2.1]; omega
      · show (s.made3 (oWords o)).made ≤ _; rw [e.2.2.2.2.2.2]; omega
    · have g1 : ((s.made3 (oWords o)).push o).objs.length = s.objs.length + 1 := by show ((s.made3 (oWords o)).objs ++ [o]).length = _; rw [e.1]; simp
      have g2 : ((s.made3 (oWords o)).push o).handles.length = s.handles.length := by show (s.made3 (oWords o)).handles.length = _; rw [e.2.1]
      have g3 : ((s.made3 (oWords o)).push o).made = s.made + 1 := by show (s.made3 (oWords o)).made = _; rw [e.2.2.2.2.2.2]
      unfold R.handle
      split
      · exact ⟨by simp only []; omega, by simp only []; omega, by simp only []; omega⟩
      · refine ⟨?_, ?_, ?_⟩
        · show ((s.made3 (oWords o)).push o).objs.length ≤ _; omega
        · simp only [List.length_append, List.length_cons, List.length_nil]; omega
        · show ((s.made3 (oWords o)).push o).made ≤ _; omega
theorem RUp.outer {n : Nat} {s : R} (h : RUp n s) (v : Int × Int) : RUp (n + 1) (s.outer v).2.2 := by
  unfold R.outer
  split
  · split
    · exact h.handle _ _
    · exact h.succ
  · exact h.succ
theorem RUp.setObj {n : Nat} {s : R} (h : RUp n s) (o : Nat) (ob : RObj) : RUp n (s.setObj o ob) := ⟨by simpa [R.setObj] using h.objs, h.handles, h.made⟩

theorem RUp.array {n : Nat} {s : R} (h : RUp n s) (m : Int) : RUp (n + 1) (s.arrayQ m).2.2 := by
  unfold R.arrayQ; repeat' split
  all_goals first | exact h.succ | exact h.make _
theorem RUp.bytes {n : Nat} {s : R} (h : RUp n s) (t : ByteArray) : RUp (n + 1) (s.bytesQ t).2.2 := by
  unfold R.bytesQ; repeat' split
  all_goals first | exact h.succ | exact h.make _
theorem RUp.table {n : Nat} {s : R} (h : RUp n s) (m : Int) : RUp (n + 1) (s.tableQ m).2.2 := by
  unfold R.tableQ; repeat' split
  all_goals first | exact h.succ | exact h.make _
theorem RUp.join {n : Nat} {s : R} (h : RUp n s) (x y : Int) : RUp (n + 1) (s.joinQ x y).2.2 := by
  unfold R.joinQ; repeat' split
  all_goals first | exact h.succ | exact h.make _
theorem RUp.copy {n : Nat} {s : R} (h : RUp n s) (x : Int) : RUp (n + 1) (s.copyQ x).2.2 := by
  unfold R.copyQ; repeat' split
  all_goals first | exact h.succ | exact h.make _
theorem RUp.get {n : Nat} {s : R} (h : RUp n s) (x i : Int) : RUp (n + 1) (s.getQ x i).2.2 := by
  unfold R.getQ; repeat' split
  all_goals first | exact h.succ | exact h.outer _
theorem RUp.key {n : Nat} {s : R} (h : RUp n s) (x i : Int) : RUp (n + 1) (s.keyQ x i).2.2 := by
  unfold R.keyQ; repeat' split
  all_goals first | exact h.succ | exact h.outer _
theorem RUp.finds {n : Nat} {s : R} (h : RUp n s) (x : Int) (k : Int × Int) : RUp (n + 1) (s.findQ x k).2.2 := by
  unfold R.findQ; repeat' split
  all_goals first | exact h.succ | exact h.outer _
theorem RUp.set {n : Nat} {s : R} (h : RUp n s) (x i : Int) (v : Int × Int) : RUp (n + 1) (s.setQ x i v).2 := by
  unfold R.setQ; repeat' split
  all_goals first | exact h.succ | exact (h.setObj _ _).succ
theorem RUp.put {n : Nat} {s : R} (h : RUp n s) (x : Int) (k v : Int × Int) : RUp (n + 1) (s.putQ x k v).2 := by
  unfold R.putQ; repeat' split
  all_goals first | exact h.succ | exact (h.setObj _ _).succ
theorem RUp.cut {n : Nat} {s : R} (h : RUp n s) (x : Int) (k : Int × Int) : RUp (n + 1) (s.cutQ x k).2 := by
  unfold R.cutQ; repeat' split
  all_goals first | exact h.succ | exact (h.setObj _ _).succ
theorem RUp.opens {n : Nat} {s : R} (h : RUp n s) : RUp (n + 1) s.openQ.2.2 := by
  unfold R.openQ; repeat' split
  all_goals first | exact h.succ | exact ⟨Nat.le_succ_of_le h.objs, Nat.le_succ_of_le h.handles, Nat.le_succ_of_le h.made⟩
theorem RUp.close {n : Nat} {s : R} (h : RUp n s) (m : Int) : RUp (n + 1) (s.closeQ m).2 := by
  unfold R.closeQ; repeat' split
  all_goals first | exact h.succ | exact ⟨Nat.le_succ_of_le h.objs, by have := h.handles; simp; omega, Nat.le_succ_of_le h.made⟩
theorem RUp.keep {n : Nat} {s : R} (h : RUp n s) (x : Int) : RUp (n + 1) (s.keepQ x).2.2 := by
  unfold R.keepQ; repeat' split
  all_goals first | exact h.succ | exact h.handle _ _
theorem RUp.escape {n : Nat} {s : R} (h : RUp n s) (x : Int) : RUp (n + 1) (s.escapeQ x).2.2 := by
  unfold R.escapeQ; repeat' split
  all_goals first | exact h.succ | exact h.handle _ _
theorem RUp.release {n : Nat} {s : R} (h : RUp n s) (x : Int) : RUp (n + 1) (s.releaseQ x).2 := by
  unfold R.releaseQ; repeat' split
  all_goals first | exact h.succ | exact ⟨Nat.le_succ_of_le h.objs, by have := h.handles; simp; omega, Nat.le_succ_of_le h.made⟩
theorem RUp.collect {n : Nat} {s : R} (h : RUp n s) : RUp (n + 1) s.collectQ.2 := by
  unfold R.collectQ; repeat' split
  all_goals first | exact h.succ | exact ⟨Nat.le_succ_of_le h.objs, Nat.le_succ_of_le h.handles, Nat.le_succ_of_le h.made⟩
end Go.Proofs.YtfoncalkgmeklaaGreat

/- The handles' numbers, by the document's heap: each slot's handles are numbered one behind the other, at most the last of them is live. -/
namespace Go.Proofs.YtfoncalkgmeklaaGreat

def sameSlot (k : Int) (h : RHan) : Bool := h.num % 32 == k
structure RNum (s : R) : Prop where
  num : ∀ (i : Nat) (h : RHan), s.handles[i]? = some h → h.num = 32 * ((s.handles.take i).countP (sameSlot (h.num % 32)) : Int) + h.num % 32
  last : ∀ (i j : Nat) (h g : RHan), s.handles[i]? = some h → s.handles[j]? = some g → h.live = true → i < j → h.num % 32 ≠ g.num % 32

theorem past_eq (s : R) (k : Int) : s.past k = s.handles.countP (sameSlot k) := rfl
theorem countP_none {l : List RHan} {k : Int} (h : ∀ g ∈ l, g.num % 32 ≠ k) : l.countP (sameSlot k) = 0 := by
  rw [List.countP_eq_zero]
  intro g hg
  simp [sameSlot, h g hg]
/-- A live handle's number, by its slot. -/
theorem RNum.live {s : R} (hn : RNum s) {i : Nat} {h : RHan} (e : s.handles[i]? = some h) (hl : h.live = true) : (s.past (h.num % 32) : Int) = h.num / 32 + 1 := by
  have h1 := hn.num i h e
  have e1 : s.handles = s.handles.take i ++ h :: s.handles.drop (i + 1) := by
    obtain ⟨hlt, rfl⟩ := List.getElem?_eq_some_iff.1 e
    rw [← List.drop_eq_getElem_cons hlt, List.take_append_drop]
  have h2 : (s.handles.drop (i + 1)).countP (sameSlot (h.num % 32)) = 0 := by
    apply countP_none
    intro g hg
    obtain ⟨j, hj⟩ := List.mem_iff_getElem?.1 hg
    rw [List.getElem?_drop] at hj
    exact fun e2 => hn.last i _ h g e hj hl (by omega) e2.symm
  have h3 : s.past (h.num % 32) = (s.handles.take i).countP (sameSlot (h.num % 32)) + 1 := by
    rw [past_eq]
    conv => lhs; rw [e1]
    rw [List.countP_append, List.countP_cons, h2]
    simp [sameSlot]
  rw [h3]
  omega
theorem RNum.one {s : R} (hn : RNum s) {i j : Nat} {h g : RHan} (e : s.handles[i]? = some h) (e' : s.handles[j]? = some g) (hl : h.live = true) (hl' : g.live = true) (hs : h.num % 32 = g.num % 32) : i = j := by
  rcases Nat.lt_trichotomy i j with h1 | h1 | h1
  · exact absurd hs (hn.last i j h g e e' hl h1)
  · exact h1
  · exact absurd hs.symm (hn.last j i g h e' e hl' h1)
theorem findIdx_spec {l : List RHan} {p : RHan → Bool} {a : Nat} (h : l.findIdx? p = some a) : ∃ g, l[a]? = some g ∧ p g = true := by
  obtain ⟨h1, h2, _⟩ := List.findIdx?_eq_some_iff_getElem.1 h
  exact ⟨_, List.getElem?_eq_getElem h1, h2⟩
theorem at_some {s : R} {k : Int} {a : Nat} (h : s.at? k = some a) : ∃ g, s.handles[a]? = some g ∧ g.live = true ∧ g.num % 32 = k := by
  obtain ⟨g, h1, h2⟩ := findIdx_spec h
  simp at h2
  exact ⟨g, h1, h2.1, h2.2⟩
theorem find_some {s : R} {x : Int} {a : Nat} (h : s.find? x = some a) : ∃ g, s.handles[a]? = some g ∧ g.live = true ∧ g.num = x := by
  obtain ⟨g, h1, h2⟩ := findIdx_spec h
  simp at h2
  exact ⟨g, h1, h2.1, h2.2⟩
theorem at_of_live {s : R} (hn : RNum s) {a : Nat} {g : RHan} (e : s.handles[a]? = some g) (hl : g.live = true) : s.at? (g.num % 32) = some a := by
  cases h : s.at? (g.num % 32) with
  | none =>
    unfold R.at? at h
    rw [List.findIdx?_eq_none_iff] at h
    have := h g (List.mem_of_getElem? e)
    simp [hl] at this
  | some b =>
    obtain ⟨g', h1, h2, h3⟩ := at_some h
    rw [hn.one e h1 hl h2 h3.symm]
/-- A handle is found by its slot: the slot's live one, if it is the one of that number. -/
theorem find_slot {s : R} (hi : RInv s) (hn : RNum s) (x : Int) : s.find? x = if 0 ≤ x ∧ (s.past (x % 32) : Int) = x / 32 + 1 then s.at? (x % 32) else none := by
  cases h : s.find? x with
  | some a =>
    obtain ⟨g, h1, h2, rfl⟩ := find_some h
    rw [if_pos ⟨(hi.nums g (List.mem_of_getElem? h1)).1, hn.live h1 h2⟩, at_of_live hn h1 h2]
  | none =>
    split
    · rename_i hc
      cases h' : s.at? (x % 32) with
      | none => rfl
      | some a =>
        exfalso
        obtain ⟨g, h1, h2, h3⟩ := at_some h'
        have h4 := hn.live h1 h2
        rw [h3] at h4
        have hx : g.num = x := by omega
        unfold R.find? at h
        rw [List.findIdx?_eq_none_iff] at h
        have := h g (List.mem_of_getElem? h1)
        simp [h2, hx] at this
    · rfl

theorem free_at {s : R} {k : Nat} (h : s.free? = some k) : s.at? (k : Int) = none := by
  have := List.find?_some h
  simpa using this
theorem RNum.handle {s : R} (hn : RNum s) (o : Nat) (c : Int) : RNum (s.handle o c).2.2 := by
  unfold R.handle
  split
  · exact hn
  · rename_i k hk
    have hk32 := free_lt hk
    have hat := free_at hk
    have hs : (32 * (s.past (k : Int) : Int) + k) % 32 = k := by omega
    refine ⟨?_, ?_⟩
    · intro i h e
      simp only at e
      rcases Nat.lt_or_ge i s.handles.length with hlt | hge
      · rw [List.getElem?_append_left hlt] at e
        have := hn.num i h e
        simp only
        rw [List.take_append_of_le_length (by omega)]
        exact this
      · rw [List.getElem?_append_right hge] at e
        have : i - s.handles.length = 0 := by
          rcases Nat.eq_zero_or_pos (i - s.handles.length) with h0 | h0
          · exact h0
          · rw [List.getElem?_eq_none (by simp; omega)] at e; cases e
        rw [this] at e
        simp at e
        subst e
        simp only
        rw [hs, List.take_append_of_le_length (by omega), List.take_of_length_le (by omega), ← past_eq]
    · intro i j h g e e' hl hij
      simp only at e e'
      have hi : i < s.handles.length := by
        rcases Nat.lt_or_ge i s.handles.length with hlt | hge
        · exact hlt
        · rw [List.getElem?_eq_none (l := s.handles ++ _) (i := j) (by simp; omega)] at e'; cases e'
      rw [List.getElem?_append_left hi] at e
      rcases Nat.lt_or_ge j s.handles.length with hlt | hge
      · rw [List.getElem?_append_left hlt] at e'
        exact hn.last i j h g e e' hl hij
      · rw [List.getElem?_append_right hge] at e'
        have : j - s.handles.length = 0 := by
          rcases Nat.eq_zero_or_pos (j - s.handles.length) with h0 | h0
          · exact h0
          · rw [List.getElem?_eq_none (by simp; omega)] at e'; cases e'
        rw [this] at e'
        simp at e'
        subst e'
        simp only
        rw [hs]
        intro e2
        unfold R.at? at hat
        rw [List.findIdx?_eq_none_iff] at hat
        have := hat h (List.mem_of_getElem? e)
        simp [hl, e2] at this
/-- Handles that are let go. -/
theorem RNum.less {s s' : R} (hn : RNum s) (hh : ∀ (i : Nat) (g : RHan), s'.handles[i]? = some g → ∃ h, s.handles[i]? = some h ∧ g.num = h.num ∧ (g.live = true → h.live = true)) (hm : s'.handles.map RHan.num = s.handles.map RHan.num) : RNum s' := by
  have hc : ∀ (i : Nat) (k : Int), (s'.handles.take i).countP (sameSlot k) = (s.handles.take i).countP (sameSlot k) := by
    intro i k
    have e : ∀ l : List RHan, l.countP (sameSlot k) = (l.map RHan.num).countP (fun n => n % 32 == k) := by
      intro l
      rw [List.countP_map]
      rfl
    rw [e, e, List.map_take, List.map_take, hm]
  refine ⟨?_, ?_⟩
  · intro i g eg
    obtain ⟨h, eh, e1, _⟩ := hh i g eg
    have := hn.num i h eh
    rw [hc, e1]
    exact this
  · intro i j g g' eg eg' hl hij
    obtain ⟨h, eh, e1, e2⟩ := hh i g eg
    obtain ⟨h', eh', e1', _⟩ := hh j g' eg'
    rw [e1, e1']
    exact hn.last i j h h' eh eh' (e2 hl) hij
theorem RNum.same {s s' : R} (hn : RNum s) (e : s'.handles = s.handles) : RNum s' := ⟨by rw [e]; exact hn.num, by rw [e]; exact hn.last⟩
theorem RNum.make {s : R} (hn : RNum s) (o : RObj) : RNum (s.make o).2.2 := by
  have e := made3_objs s (oWords o)
  unfold R.make
  split
  · exact hn
  · split
    · exact hn.same e.2.1
    · exact RNum.handle (hn.same (s' := (s.made3 (oWords o)).push o) e.2.1) _ _
theorem RNum.outer {s : R} (hn : RNum s) (v : Int × Int) : RNum (s.outer v).2.2 := by
  unfold R.outer
  repeat' split
  all_goals first | exact hn | exact hn.handle _ _
theorem RNum.close {s : R} (hn : RNum s) (m : Int) : RNum (s.closeQ m).2 := by
  unfold R.closeQ
  repeat' split
  all_goals first | exact hn | skip
  refine hn.less ?_ ?_
  · intro i g eg
    simp only [List.getElem?_map] at eg
    obtain ⟨h, eh, rfl⟩ := Option.map_eq_some_iff.1 eg
    refine ⟨h, eh, ?_, ?_⟩
    · unfold RHan.shut; split <;> rfl
    · unfold RHan.shut; split
      · intro hl; simp [RHan.off] at hl
      · exact id
  · simp only [List.map_map]
    congr 1
    funext h
    simp only [Function.comp]
    unfold RHan.shut
    split <;> rfl
theorem RNum.release {s : R} (hn : RNum s) (x : Int) : RNum (s.releaseQ x).2 := by
  unfold R.releaseQ
  repeat' split
  all_goals first | exact hn | skip
  generalize (posOf (s.find? x)).toNat = a
  refine hn.less ?_ ?_
  · intro i g eg
    simp only [List.getElem?_set] at eg
    split at eg
    · rename_i hia
      subst hia
      split at eg
      · rename_i hlt
        simp at eg
        subst eg
        refine ⟨s.handles[a], List.getElem?_eq_getElem hlt, ?_, ?_⟩
        · simp [hlt, RHan.off]
        · simp [RHan.off]
      · cases eg
    · exact ⟨g, eg, rfl, id⟩
  · simp only [List.map_set]
    by_cases hlt : a < s.handles.length
    · have : (s.handles.getD a rhan0).off.num = (s.handles.map RHan.num)[a]'(by simpa using hlt) := by simp [List.getD, hlt, RHan.off]
      rw [this, List.set_getElem_self]
    · rw [List.set_eq_of_length_le (by simp; omega)]
end Go.Proofs.YtfoncalkgmeklaaGreat

/- The row of the document's heap: all that can be reached, each once, within the limit. -/
namespace Go.Proofs.YtfoncalkgmeklaaGreat

structure RRow (s : R) : Prop where
  nodup : s.row.Nodup
  live : ∀ h ∈ s.handles, h.live = true → h.obj ∈ s.row
  closed : ∀ i ∈ s.row, ∀ v ∈ (s.objOf i).vals, v.1 = 2 → v.2.toNat ∈ s.row
  fits : usedOf s.objs s.row ≤ s.limit
/-- All that the calls keep. -/
structure RAll (s : R) : Prop where
  ok : ROk s
  num : RNum s
  row : RRow s

/-! What is met -/
theorem mem_met {row : List Nat} {x y : Nat} : y ∈ metOf row x ↔ y ∈ row ∨ y = x := by
  unfold metOf
  split
  · rename_i h
    exact ⟨.inl, fun h' => h'.elim id (fun e => e ▸ h)⟩
  · simp
theorem scanVals_sub {row row' : List Nat} {vals : List (Int × Int)} (h : ∀ x ∈ row, x ∈ row') (hv : ∀ v ∈ vals, v.1 = 2 → v.2.toNat ∈ row') : ∀ k, ∀ x ∈ scanVals row vals k, x ∈ row'
  | 0 => h
  | k + 1 => by
    have ih := scanVals_sub h hv k
    rw [scanVals_succ]
    split
    · exact ih
    · rename_i v hk
      split
      · rename_i h2
        intro x hx
        rcases mem_met.1 hx with h1 | rfl
        · exact ih x h1
        · exact hv v (List.mem_of_getElem? hk) h2
      · exact ih
theorem scanVals_old {row : List Nat} {vals : List (Int × Int)} {x : Nat} (h : x ∈ row) : ∀ k, x ∈ scanVals row vals k
  | 0 => h
  | k + 1 => by
    have ih := scanVals_old (vals := vals) h k
    rw [scanVals_succ]
    split
    · exact ih
    · split
      · exact mem_met.2 (.inl ih)
      · exact ih
theorem scanVals_met {row : List Nat} {vals : List (Int × Int)} {i : Nat} {v : Int × Int} (hv : vals[i]? = some v) (h2 : v.1 = 2) : ∀ k, i < k → v.2.toNat ∈ scanVals row vals k
  | 0, h => by omega
  | k + 1, h => by
    rw [scanVals_succ]
    by_cases hk : i = k
    · subst hk
      rw [hv]
      simp only [h2, if_true]
      exact mem_met.2 (.inr rfl)
    · have ih := scanVals_met (row := row) hv h2 k (by omega)
      split
      · exact ih
      · split
        · exact mem_met.2 (.inl ih)
        · exact ih
/-- What was met stays where it was. -/
theorem scanVals_pre (row : List Nat) (vals : List (Int × Int)) : ∀ k, row <+: scanVals row vals k
  | 0 => List.prefix_rfl
  | k + 1 => by
    have ih := scanVals_pre row vals k
    rw [scanVals_succ]
    split
    · exact ih
    · split
      · unfold metOf
        split
        · exact ih
        · exact ih.trans (List.prefix_append _ _)
      · exact ih
theorem scanTo_pre (s : R) (i : Nat) : s.scanTo i <+: s.scanTo (i + 1) := by
  rw [scanTo_succ]
  split
  · exact List.prefix_rfl
  · exact scanVals_pre _ _ _
theorem scanTo_pre' (s : R) (i : Nat) : ∀ j, s.scanTo i <+: s.scanTo (i + j)
  | 0 => List.prefix_rfl
  | j + 1 => (scanTo_pre' s i j).trans (scanTo_pre s (i + j))
/-- The i-th of the reached ones has been looked into. -/
theorem reach_at {s : R} (hi : RInv s) {i x : Nat} (h : s.reach[i]? = some x) : (s.scanTo i)[i]? = some x ∧ i < s.objs.length := by
  have hl : i < s.reach.length := (List.getElem?_eq_some_iff.1 h).1
  have hn := (Good.reach hi).len
  have hio : i < s.objs.length := by omega
  have hlen : i < (s.scanTo i).length := by
    rcases Nat.lt_or_ge i (s.scanTo i).length with h1 | h1
    · exact h1
    · have := reach_eq h1 (Nat.le_of_lt hio)
      rw [this] at hl
      omega
  have hp := scanTo_pre' s i (s.objs.length - i)
  rw [show i + (s.objs.length - i) = s.objs.length by omega] at hp
  refine ⟨?_, hio⟩
  rw [List.prefix_iff_getElem?] at hp
  have := hp i hlen
  unfold R.reach at h
  rw [h] at this
  rw [List.getElem?_eq_getElem hlen]
  exact this.symm
theorem reach_closed {s : R} (hi : RInv s) {x : Nat} (hx : x ∈ s.reach) {v : Int × Int} (hv : v ∈ (s.objOf x).vals) (h2 : v.1 = 2) : v.2.toNat ∈ s.reach := by
  obtain ⟨i, e⟩ := List.mem_iff_getElem?.1 hx
  obtain ⟨e', hio⟩ := reach_at hi e
  have h1 : v.2.toNat ∈ s.scanTo (i + 1) := by
    rw [scanTo_succ, e']
    obtain ⟨j, ej⟩ := List.mem_iff_getElem?.1 hv
    exact scanVals_met ej h2 _ (List.getElem?_eq_some_iff.1 ej).1
  have hp := scanTo_pre' s (i + 1) (s.objs.length - (i + 1))
  rw [show i + 1 + (s.objs.length - (i + 1)) = s.objs.length by omega] at hp
  exact hp.subset h1
theorem roots_sub {s : R} (h : ∀ g ∈ s.handles, g.live = true → g.obj ∈ s.row) : ∀ k, ∀ x ∈ s.roots k, x ∈ s.row
  | 0 => by simp [R.roots]
  | k + 1 => by
    have ih := roots_sub h k
    rw [roots_succ]
    split
    · exact ih
    · rename_i a ha
      intro x hx
      rcases mem_met.1 hx with h1 | rfl
      · exact ih x h1
      · obtain ⟨g, h1, h2, _⟩ := at_some ha
        obtain ⟨hlt, rfl⟩ := List.getElem?_eq_some_iff.1 h1
        rw [show s.handles.getD a rhan0 = s.handles[a] from by simp [List.getD, hlt]]
        exact h _ (List.getElem_mem hlt) h2
theorem roots_old {s : R} {x : Nat} {k : Nat} (h : x ∈ s.roots k) : ∀ j, x ∈ s.roots (k + j)
  | 0 => h
  | j + 1 => by
    have ih := roots_old h j
    rw [← Nat.add_assoc, roots_succ]
    split
    · exact ih
    · exact mem_met.2 (.inl ih)
theorem roots_live {s : R} (hn : RNum s) {g : RHan} (hg : g ∈ s.handles) (hl : g.live = true) : g.obj ∈ s.roots 32 := by
  obtain ⟨a, ea⟩ := List.mem_iff_getElem?.1 hg
  have h1 := at_of_live hn ea hl
  obtain ⟨k, hk⟩ : ∃ k : Nat, g.num % 32 = (k : Int) := ⟨(g.num % 32).toNat, by omega⟩
  have hk32 : k < 32 := by omega
  rw [hk] at h1
  have h2 : g.obj ∈ s.roots (k + 1) := by
    rw [roots_succ, h1]
    refine mem_met.2 (.inr ?_)
    obtain ⟨hlt, rfl⟩ := List.getElem?_eq_some_iff.1 ea
    simp [List.getD, hlt]
  have := roots_old h2 (32 - (k + 1))
  rwa [show k + 1 + (32 - (k + 1)) = 32 by omega] at this
theorem reach_sub {s : R} (hr : RRow s) : ∀ i, ∀ x ∈ s.scanTo i, x ∈ s.row
  | 0 => roots_sub hr.live 32
  | i + 1 => by
    have ih := reach_sub hr i
    rw [scanTo_succ]
    split
    · exact ih
    · rename_i y hy
      exact scanVals_sub ih (hr.closed y (ih y (List.mem_of_getElem? hy))) _
theorem reach_live {s : R} (hn : RNum s) {g : RHan} (hg : g ∈ s.handles) (hl : g.live = true) : g.obj ∈ s.reach := by
  have h1 : g.obj ∈ s.scanTo 0 := roots_live hn hg hl
  have hp := scanTo_pre' s 0 s.objs.length
  rw [Nat.zero_add] at hp
  exact hp.subset h1

/-! How many words -/
theorem used_perm {objs : List RObj} {a b : List Nat} (h : a.Perm b) : usedOf objs a = usedOf objs b := by
  induction h with
  | nil => rfl
  | cons x _ ih => simp only [usedOf, ih]
  | swap x y l => simp only [usedOf]; omega
  | trans _ _ h1 h2 => exact h1.trans h2
theorem used_nonneg {objs : List RObj} (hw : ∀ i, 0 ≤ oWords (objs.getD i robj0)) : ∀ l, 0 ≤ usedOf objs l
  | [] => by simp [usedOf]
  | x :: r => by
    have := used_nonneg hw r
    have := hw x
    simp only [usedOf]; omega
theorem used_sub {objs : List RObj} (hw : ∀ i, 0 ≤ oWords (objs.getD i robj0)) : ∀ (a b : List Nat), a.Nodup → (∀ x ∈ a, x ∈ b) → usedOf objs a ≤ usedOf objs b
  | [], b, _, _ => by simpa [usedOf] using used_nonneg hw b
  | x :: r, b, hd, hs => by
    have hx : x ∈ b := hs x List.mem_cons_self
    rw [used_perm (List.perm_cons_erase hx)]
    have hd' := List.nodup_cons.1 hd
    have := used_sub hw r (b.erase x) hd'.2 (fun y hy => (List.mem_erase_of_ne (fun (e : y = x) => hd'.1 (e ▸ hy))).2 (hs y (List.mem_cons_of_mem _ hy)))
    simp only [usedOf]
    omega
theorem words0 {s : R} (hi : RInv s) (i : Nat) : 0 ≤ oWords (s.objs.getD i robj0) := by
  by_cases h : i < s.objs.length
  · have := words_bd (hi.kinds s.objs[i] (List.getElem_mem h))
    simp only [List.getD, List.getElem?_eq_getElem h, Option.getD_some]
    omega
  · simp [List.getD, List.getElem?_eq_none (Nat.le_of_not_lt h), robj0, oWords, wordsOf]
theorem reach_used {s : R} (hi : RInv s) (hr : RRow s) : usedOf s.objs s.reach ≤ usedOf s.objs s.row :=
  used_sub (words0 hi) _ _ (Good.reach hi).nodup (reach_sub hr _)
theorem RRow.reach {s : R} (hi : RInv s) (hn : RNum s) (hr : RRow s) : RRow { s with row := s.reach } :=
  ⟨(Good.reach hi).nodup, fun _ hg hl => reach_live hn hg hl, fun _ hx _ hv h2 => reach_closed hi hx hv h2, Int.le_trans (reach_used hi hr) hr.fits⟩
theorem RAll.reach {s : R} (h : RAll s) : RAll { s with row := s.reach } :=
  ⟨h.ok.withRow (Good.reach h.ok.inv), h.num.same rfl, h.row.reach h.ok.inv h.num⟩
theorem RAll.made1 {s : R} (h : RAll s) : RAll s.made1 := ⟨⟨h.ok.inv.made1, ⟨h.ok.sh.arr, h.ok.sh.tab, h.ok.sh.txt, h.ok.sh.notxt⟩⟩, h.num.same rfl, ⟨h.row.nodup, h.row.live, h.row.closed, h.row.fits⟩⟩
theorem RAll.made2 {s : R} (h : RAll s) : RAll s.made2 := by
  unfold R.made2
  split
  · exact h.made1.reach
  · exact h.made1
theorem RAll.made3 {s : R} (h : RAll s) (n : Int) : RAll (s.made3 n) := by
  unfold R.made3
  split
  · exact h.made2.reach
  · exact h.made2
theorem RAll.collect {s : R} (h : RAll s) : RAll s.collectQ.2 := by
  unfold R.collectQ
  split
  · exact h
  · exact h.reach

theorem RRow.handle {s : R} (h : RRow s) {o : Nat} (ho : o ∈ s.row) (c : Int) : RRow (s.handle o c).2.2 := by
  unfold R.handle
  split
  · exact h
  · refine ⟨h.nodup, ?_, h.closed, h.fits⟩
    intro g hg hl
    rcases List.mem_append.1 hg with h1 | h1
    · exact h.live g h1 hl
    · simp at h1; subst h1; exact ho
theorem RAll.handle {s : R} (h : RAll s) {o : Nat} (ho : o ∈ s.row) (c : Int) : RAll (s.handle o c).2.2 :=
  ⟨h.ok.handle (h.ok.inv.rows o ho) c, h.num.handle o c, h.row.handle ho c⟩
theorem getD_append {objs : List RObj} {o : RObj} {i : Nat} (h : i < objs.length) : (objs ++ [o]).getD i robj0 = objs.getD i robj0 := by
  simp [List.getD, List.getElem?_append_left h]
theorem used_append {objs : List RObj} {o : RObj} : ∀ {l : List Nat}, (∀ i ∈ l, i < objs.length) → usedOf (objs ++ [o]) l = usedOf objs l
  | [], _ => rfl
  | x :: r, h => by
    simp only [usedOf]
    rw [used_append (fun i hi => h i (List.mem_cons_of_mem _ hi)), getD_append (h x List.mem_cons_self)]
theorem RRow.push {s : R} (hi : RInv s) (h : RRow s) {o : RObj} (hv : ∀ v ∈ o.vals, v.1 = 2 → v.2.toNat ∈ s.row) (hf : usedOf s.objs s.row + oWords o ≤ s.limit) : RRow (s.push o) := by
  have hnot : s.objs.length ∉ s.row := fun hm => Nat.lt_irrefl _ (hi.rows _ hm)
  have e0 : (s.objs ++ [o]).getD s.objs.length robj0 = o := by simp [List.getD]
  refine ⟨?_, ?_, ?_, ?_⟩
  · show (s.row ++ [s.objs.length]).Nodup
    rw [List.nodup_append]
    refine ⟨h.nodup, by simp, ?_⟩
    intro a ha b hb e
    simp at hb
    subst hb
    exact hnot (e ▸ ha)
  · intro g hg hl
    exact List.mem_append.2 (.inl (h.live g hg hl))
  · intro i hi' v hv' h2
    show _ ∈ s.row ++ [s.objs.length]
    rcases List.mem_append.1 hi' with h1 | h1
    · have : (s.push o).objOf i = s.objOf i := by
        unfold R.objOf R.push
        exact getD_append (hi.rows i h1)
      rw [this] at hv'
      exact List.mem_append.2 (.inl (h.closed i h1 v hv' h2))
    · simp at h1
      subst h1
      have : (s.push o).objOf s.objs.length = o := e0
      rw [this] at hv'
      exact List.mem_append.2 (.inl (hv v hv' h2))
  · show usedOf (s.objs ++ [o]) (s.row ++ [s.objs.length]) ≤ s.limit
    rw [usedOf_snoc, used_append hi.rows, e0]
    exact hf
theorem RAll.make {s : R} (h : RAll s) {o : RObj} (ho : OSh s.objs.length o) (hv : ∀ v ∈ o.vals, v.1 = 2 → v.2.toNat ∈ (s.made3 (oWords o)).row) : RAll (s.make o).2.2 := by
  refine ⟨h.ok.make ho, h.num.make o, ?_⟩
  have e := made3_objs s (oWords o)
  have h3 := h.made3 (oWords o)
  unfold R.make
  split
  · exact h.row
  · split
    · exact ⟨h3.row.nodup, h3.row.live, h3.row.closed, h3.row.fits⟩
    · rename_i hf
      have hp : RRow ((s.made3 (oWords o)).push o) := h3.row.push h3.ok.inv hv (by rw [e.1, e.2.2.1]; omega)
      refine hp.handle ?_ _
      show s.objs.length ∈ (s.made3 (oWords o)).row ++ [(s.made3 (oWords o)).objs.length]
      rw [e.1]
      simp

/-! The calls -/
theorem look_live {s : R} {x : Int} {k v : Int × Int} {key : Bool} (h : (s.look x k v key).2 = 0) : ∃ g ∈ s.handles, g.live = true ∧ g.num = x ∧ g.obj = (s.look x k v key).1 := by
  unfold R.look at h ⊢
  split
  · simp_all
  · split
    · simp_all
    · split
      · simp_all
      · rename_i a ha
        split
        · simp_all
        · obtain ⟨g, h1, h2, h3⟩ := find_some ha
          obtain ⟨hlt, rfl⟩ := List.getElem?_eq_some_iff.1 h1
          exact ⟨_, List.getElem_mem hlt, h2, h3, by simp [List.getD, hlt]⟩
theorem look_row {s : R} (hr : RRow s) {x : Int} {k v : Int × Int} {key : Bool} (h : (s.look x k v key).2 = 0) : (s.look x k v key).1 ∈ s.row := by
  obtain ⟨g, h1, h2, _, h4⟩ := look_live h
  rw [← h4]
  exact hr.live g h1 h2
theorem inner_row {s : R} (hr : RRow s) {v : Int × Int} (h2 : v.1 = 2 → (s.find? v.2).isSome = true) (hi : (s.inner v).1 = 2) : (s.inner v).2.toNat ∈ s.row := by
  unfold R.inner at hi ⊢
  split
  · rename_i h0; rw [if_pos h0] at hi; simp at hi
  · rename_i h0
    rw [if_neg h0] at hi
    split
    · rename_i he
      have := h2 he
      cases hf : s.find? v.2 with
      | none => simp [hf] at this
      | some a =>
        obtain ⟨g, h1, h3, _⟩ := find_some hf
        obtain ⟨hlt, rfl⟩ := List.getElem?_eq_some_iff.1 h1
        simp [posOf, List.getD, hlt]
        exact hr.live _ (List.getElem_mem hlt) h3
    · rename_i he
      rw [if_neg he] at hi
      exact absurd hi he
theorem RAll.outer {s : R} (h : RAll s) {v : Int × Int} (hm : v.1 = 2 → v.2.toNat ∈ s.row) : RAll (s.outer v).2.2 := by
  unfold R.outer
  split
  · rename_i h2
    split
    · exact h.handle (hm h2) _
    · exact h
  · exact h
theorem objOf_set {s : R} {o i : Nat} {ob : RObj} (hi : i < s.objs.length) : (s.setObj o ob).objOf i = if i = o then ob else s.objOf i := by
  unfold R.setObj R.objOf
  simp only [List.getD, List.getElem?_set]
  by_cases h : o = i
  · subst h; simp [hi]
  · simp [h, Ne.symm h]
theorem used_set {objs : List RObj} {o : Nat} {ob : RObj} (hw : oWords ob = oWords (objs.getD o robj0)) : ∀ l, usedOf (objs.set o ob) l = usedOf objs l
  | [] => rfl
  | x :: r => by
    simp only [usedOf]
    rw [used_set hw r]
    congr 1
    simp only [List.getD, List.getElem?_set]
    by_cases h : o = x
    · subst h
      by_cases hx : o < objs.length
      · simp [hx, hw]
      · simp [hx]
    · simp [h]
theorem RRow.setObj {s : R} (hi : RInv s) (h : RRow s) {o : Nat} {ob : RObj} (hw : oWords ob = oWords (s.objOf o)) (hv : ∀ v ∈ ob.vals, v.1 = 2 → v.2.toNat ∈ s.row) : RRow (s.setObj o ob) := by
  refine ⟨h.nodup, h.live, ?_, ?_⟩
  · intro i hi' v hv' h2
    rw [objOf_set (hi.rows i hi')] at hv'
    split at hv'
    · exact hv v hv' h2
    · exact h.closed i hi' v hv' h2
  · show usedOf (s.objs.set o ob) s.row ≤ s.limit
    rw [used_set hw]
    exact h.fits
theorem RAll.array {s : R} (h : RAll s) (n : Int) : RAll (s.arrayQ n).2.2 := by
  unfold R.arrayQ
  split
  · exact h
  · split
    · exact h
    · rename_i hn
      refine h.make (osh_array hn) ?_
      intro v hv h2
      have := List.eq_of_mem_replicate hv
      subst this
      simp at h2
theorem RAll.bytes {s : R} (h : RAll s) (t : ByteArray) : RAll (s.bytesQ t).2.2 := by
  unfold R.bytesQ
  split
  · exact h
  · split
    · exact h
    · rename_i hn; exact h.make (osh_bytes hn) (by intro v hv; simp [mkBytes] at hv)
theorem RAll.table {s : R} (h : RAll s) (n : Int) : RAll (s.tableQ n).2.2 := by
  unfold R.tableQ
  split
  · exact h
  · split
    · exact h
    · rename_i hn; exact h.make (osh_table hn) (by intro v hv; simp [mkTable] at hv)
theorem RAll.join {s : R} (h : RAll s) (x y : Int) : RAll (s.joinQ x y).2.2 := by
  unfold R.joinQ
  split
  · split
    · split
      · exact h
      · rename_i hn; exact h.make (osh_bytes hn) (by intro v hv; simp [mkBytes] at hv)
    · exact h
  · exact h
theorem RAll.copy {s : R} (h : RAll s) (x : Int) : RAll (s.copyQ x).2.2 := by
  unfold R.copyQ
  split
  · rename_i h0
    refine h.make (h.ok.osh (objOf_mem (look_ok h.ok.inv h0))) ?_
    obtain ⟨g, h1, h2, _, h4⟩ := look_live h0
    intro v hv hv2
    have h3 := h.made3 (oWords (s.objOf (s.look1 x).1))
    have e := made3_objs s (oWords (s.objOf (s.look1 x).1))
    generalize hs3 : s.made3 (oWords (s.objOf (s.look1 x).1)) = s3 at *
    have hm : (s.look1 x).1 ∈ s3.row := by
      show (s.look x (0, 0) (0, 0) false).1 ∈ s3.row
      rw [← h4]
      exact h3.row.live g (by rw [e.2.1]; exact h1) h2
    refine h3.row.closed _ hm v ?_ hv2
    unfold R.objOf at hv ⊢
    rw [e.1]
    exact hv
  · exact h
theorem RAll.opens {s : R} (h : RAll s) : RAll s.openQ.2.2 := by
  refine ⟨h.ok.opens, ?_, ?_⟩
  · unfold R.openQ; repeat' split
    all_goals first | exact h.num | exact h.num.same rfl
  · unfold R.openQ; repeat' split
    all_goals first | exact h.row | exact ⟨h.row.nodup, h.row.live, h.row.closed, h.row.fits⟩
theorem RAll.close {s : R} (h : RAll s) (n : Int) : RAll (s.closeQ n).2 := by
  refine ⟨h.ok.close n, h.num.close n, ?_⟩
  unfold R.closeQ; repeat' split
  all_goals first | exact h.row | skip
  refine ⟨h.row.nodup, ?_, h.row.closed, h.row.fits⟩
  intro g hg hl
  obtain ⟨y, hy, rfl⟩ := List.mem_map.1 hg
  unfold RHan.shut at hl ⊢
  split at hl
  · simp [RHan.off] at hl
  · rename_i hne
    rw [if_neg hne]
    exact h.row.live y hy hl
theorem RAll.release {s : R} (h : RAll s) (x : Int) : RAll (s.releaseQ x).2 := by
  refine ⟨h.ok.release x, h.num.release x, ?_⟩
  unfold R.releaseQ; repeat' split
  all_goals first | exact h.row | skip
  refine ⟨h.row.nodup, ?_, h.row.closed, h.row.fits⟩
  intro g hg hl
  rcases List.mem_or_eq_of_mem_set hg with h1 | rfl
  · exact h.row.live g h1 hl
  · simp [RHan.off] at hl
theorem RAll.keep {s : R} (h : RAll s) (x : Int) : RAll (s.keepQ x).2.2 := by
  unfold R.keepQ
  split
  · rename_i h0; exact h.handle (look_row h.row h0) _
  · exact h
theorem RAll.escape {s : R} (h : RAll s) (x : Int) : RAll (s.escapeQ x).2.2 := by
  unfold R.escapeQ
  split
  · split
    · exact h
    · rename_i h0 _; exact h.handle (look_row h.row h0) _
  · exact h
theorem element_row {s : R} (hr : RRow s) {x i : Int} {v : Int × Int} (h : (s.element x i v).2 = 0) : (s.element x i v).1 ∈ s.row := by
  have h1 := element_look h
  unfold R.element at h ⊢
  rw [if_pos h1] at h ⊢
  split
  · rename_i h2
    rw [if_pos h2] at h
    split
    · rename_i h3; rw [if_pos h3] at h; simp at h
    · exact look_row hr h1
  · rename_i h2; rw [if_neg h2] at h; simp at h
theorem getD_val {l : List (Int × Int)} {j : Nat} (h : (l.getD j (0, 0)).1 = 2) : l.getD j (0, 0) ∈ l := by
  by_cases hj : j < l.length
  · rw [show l.getD j (0, 0) = l[j] from by simp [List.getD, hj]]
    exact List.getElem_mem hj
  · simp [List.getD, List.getElem?_eq_none (Nat.le_of_not_lt hj)] at h
theorem RAll.outOf {s : R} (h : RAll s) {i j : Nat} (hi : i ∈ s.row) : RAll (s.outer ((s.objOf i).vals.getD j (0, 0))).2.2 := by
  exact h.outer (fun h2 => h.row.closed i hi _ (getD_val h2) h2)
theorem RAll.get {s : R} (h : RAll s) (x i : Int) : RAll (s.getQ x i).2.2 := by
  unfold R.getQ
  split
  · rename_i h0; exact h.outOf (element_row h.row h0)
  · exact h
theorem RAll.key {s : R} (h : RAll s) (x i : Int) : RAll (s.keyQ x i).2.2 := by
  unfold R.keyQ
  split
  · rename_i h0
    split
    · split
      · exact h
      · exact h.outOf (look_row h.row h0)
    · exact h
  · exact h
theorem table_row {s : R} (hi : RInv s) (hr : RRow s) {x : Int} {k v : Int × Int} (h : (s.table x k v).2.2 = 0) : (s.table x k v).1 ∈ s.row := by
  obtain ⟨_, _, _, h4, h5⟩ := table_ok hi h
  rw [← h5]
  exact look_row hr h4
theorem RAll.finds {s : R} (h : RAll s) (x : Int) (k : Int × Int) : RAll (s.findQ x k).2.2 := by
  unfold R.findQ
  split
  · rename_i h0
    split
    · exact h
    · exact h.outOf (table_row h.ok.inv h.row h0)
  · exact h
theorem RAll.set {s : R} (h : RAll s) (x i : Int) (v : Int × Int) : RAll (s.setQ x i v).2 := by
  refine ⟨h.ok.set x i v, ?_, ?_⟩
  · unfold R.setQ; split
    · exact h.num.same rfl
    · exact h.num
  · unfold R.setQ
    split
    · rename_i h0
      have hm := element_row h.row h0
      have hl := look_vals (element_look h0)
      refine h.row.setObj h.ok.inv rfl ?_
      intro u hu h2
      rcases List.mem_or_eq_of_mem_set hu with h5 | rfl
      · exact h.row.closed _ hm u h5 h2
      · exact inner_row h.row hl.2.2.1 h2
    · exact h.row
theorem RAll.put {s : R} (h : RAll s) (x : Int) (k v : Int × Int) : RAll (s.putQ x k v).2 := by
  refine ⟨h.ok.put x k v, ?_, ?_⟩
  · unfold R.putQ; repeat' split
    all_goals first | exact h.num | exact h.num.same rfl
  · unfold R.putQ
    split
    · rename_i h0
      have hm := table_row h.ok.inv h.row h0
      obtain ⟨_, _, _, h4, _⟩ := table_ok h.ok.inv h0
      have hl := look_vals h4
      split
      · split
        · exact h.row
        · refine h.row.setObj h.ok.inv rfl ?_
          intro u hu h2
          rcases List.mem_append.1 hu with h5 | h5
          · exact h.row.closed _ hm u h5 h2
          · simp at h5
            rcases h5 with rfl | rfl
            · exact inner_row h.row hl.2.1 h2
            · exact inner_row h.row hl.2.2.1 h2
      · refine h.row.setObj h.ok.inv rfl ?_
        intro u hu h2
        rcases List.mem_or_eq_of_mem_set hu with h5 | rfl
        · exact h.row.closed _ hm u h5 h2
        · exact inner_row h.row hl.2.2.1 h2
    · exact h.row
theorem RAll.cut {s : R} (h : RAll s) (x : Int) (k : Int × Int) : RAll (s.cutQ x k).2 := by
  refine ⟨h.ok.cut x k, ?_, ?_⟩
  · unfold R.cutQ; repeat' split
    all_goals first | exact h.num | exact h.num.same rfl
  · unfold R.cutQ
    split
    · rename_i h0
      have hm := table_row h.ok.inv h.row h0
      split
      · exact h.row
      · refine h.row.setObj h.ok.inv rfl ?_
        intro u hu h2
        rcases List.mem_append.1 hu with h5 | h5
        · exact h.row.closed _ hm u (List.mem_of_mem_take h5) h2
        · exact h.row.closed _ hm u (List.mem_of_mem_drop h5) h2
    · exact h.row
end Go.Proofs.YtfoncalkgmeklaaGreat

/- How many words an object, and a row, takes in the words themselves. -/
namespace Go.Proofs.YtfoncalkgmeklaaGreat

theorem empty_size : (⟨#[]⟩ : ByteArray).size = 0 := rfl
theorem valWords_len2 (s : R) (l : List (Int × Int)) : (l.flatMap (valWords s)).length = 2 * l.length := by
  induction l with
  | nil => simp
  | cons v r ih => simp [valWords] at ih ⊢; omega
theorem full_le (s : R) {n : Nat} {o : RObj} (h : OSh n o) : ((fullWords s o).length : Int) ≤ oWords o := by
  have hv := valWords_len2 s o.vals
  have ht := textTo_len o.text ((o.text.size + 7) / 8)
  have hk := h.kind
  unfold fullWords headWords textWords oWords wordsOf
  simp only [List.length_append, List.length_cons, List.length_nil]
  rw [hv, ht]
  by_cases h1 : o.kind = 1
  · have := h.arr h1
    have h2 := h.notxt (by omega)
    rw [h2, empty_size]
    simp [h1]
    omega
  · by_cases h2 : o.kind = 2
    · have := h.txt h2
      rw [this.2]
      simp [h2]
      have := this.1
      split <;> omega
    · have h3 : o.kind = 3 := by omega
      have h4 := h.notxt h2
      have := h.tab h3
      rw [h4, empty_size]
      simp [h3]
      omega
theorem objWords_size (s : R) {n : Nat} {o : RObj} (h : OSh n o) : ((objWords s o).length : Int) = oWords o := by
  have h1 := full_le s h
  have h2 := (words_bd h.kind).1
  unfold objWords
  simp only [List.length_append, List.length_replicate]
  omega
theorem words_size_row {s : R} (h : ROk s) : ∀ (l : List Nat), (∀ i ∈ l, i < s.objs.length) → ((l.flatMap fun i => objWords s (s.objOf i)).length : Int) = usedOf s.objs l
  | [], _ => by simp [usedOf]
  | x :: r, hl => by
    have ih := words_size_row h r (fun i hi => hl i (List.mem_cons_of_mem _ hi))
    have hx := objWords_size s (h.osh (objOf_mem (hl x List.mem_cons_self)))
    simp only [List.flatMap_cons, List.length_append, usedOf]
    show _ = oWords (s.objOf x) + _
    omega
theorem words_size {s : R} (h : ROk s) : (s.words.length : Int) = usedOf s.objs s.row := words_size_row h _ h.inv.rows
theorem words_fit {s : R} (h : RAll s) : s.words.length ≤ 512 := by
  have h1 := words_size h.ok
  have h2 := h.row.fits
  have h3 := h.ok.inv.limit
  omega
theorem row_short {s : R} (h : RAll s) : s.row.length ≤ 512 := by
  have key : ∀ {l : List Nat}, (∀ x ∈ l, x < s.objs.length) → (l.length : Int) ≤ usedOf s.objs l := by
    intro l
    induction l with
    | nil => intro _; simp [usedOf]
    | cons x r ih =>
      intro hl
      have h1 := ih (fun y hy => hl y (List.mem_cons_of_mem _ hy))
      have h3 := (words_bd (h.ok.osh (objOf_mem (s := s) (x := x) (hl x List.mem_cons_self))).kind).1
      have e0 : oWords (s.objs.getD x robj0) = oWords (s.objOf x) := rfl
      simp only [usedOf, List.length_cons]
      push_cast
      omega
  have h1 := key h.ok.inv.rows
  have h2 := h.row.fits
  have h3 := h.ok.inv.limit
  omega
theorem text_fit {s : R} (h : ROk s) : ∀ o ∈ s.objs, o.text.size ≤ 64 := by
  intro o ho
  have h1 := h.osh ho
  have h2 := h1.kind
  by_cases hk : o.kind = 2
  · have := (h1.txt hk).1; omega
  · rw [h1.notxt hk, empty_size]; omega
end Go.Proofs.YtfoncalkgmeklaaGreat

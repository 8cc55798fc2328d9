import Derived.Test.YtfoncalkgmeklaaXwM45
import Derived.Test.YtfoncalkgmeklaaXwM42

/- Two heaps on which the same calls are made (pure): they have the same objects, handles and scopes. -/
namespace Go.Proofs.Ytfoncalkgmeklaa

/-- The same objects, handles and scopes, with another limit, flags, row. -/
def R.mix (s : R) (l : Int) (f : List Bool) (m : Nat) (r : List Nat) : R := ⟨l, f, m, s.dead, s.objs, r, s.handles, s.scopes⟩
def Core (s t : R) : Prop := ∃ l f m r, t = s.mix l f m r
theorem mix_mix (s : R) (l : Int) (f : List Bool) (m : Nat) (r : List Nat) (l' : Int) (f' : List Bool) (m' : Nat) (r' : List Nat) : Core (s.mix l f m r) (s.mix l' f' m' r') := ⟨l', f', m', r', rfl⟩
theorem Core.refl (s : R) : Core s s := ⟨s.limit, s.flags, s.made, s.row, rfl⟩
def Q2 (p q : Int × R) : Prop := p.1 = q.1 ∧ Core p.2 q.2
def Q3 {α : Type} (p q : α × Int × R) : Prop := p.1 = q.1 ∧ p.2.1 = q.2.1 ∧ Core p.2.2 q.2.2
def lift3 {α : Type} (p : α × Int × R) (l : Int) (f : List Bool) (m : Nat) (r : List Nat) : α × Int × R := (p.1, p.2.1, p.2.2.mix l f m r)
def lift2 (p : Int × R) (l : Int) (f : List Bool) (m : Nat) (r : List Nat) : Int × R := (p.1, p.2.mix l f m r)
theorem lift3_ite {α : Type} {c : Prop} [Decidable c] (a b : α × Int × R) (l : Int) (f : List Bool) (m : Nat) (r : List Nat) : lift3 (if c then a else b) l f m r = if c then lift3 a l f m r else lift3 b l f m r := by split <;> rfl
theorem lift2_ite {c : Prop} [Decidable c] (a b : Int × R) (l : Int) (f : List Bool) (m : Nat) (r : List Nat) : lift2 (if c then a else b) l f m r = if c then lift2 a l f m r else lift2 b l f m r := by split <;> rfl
theorem Q3.of {α : Type} {p q : α × Int × R} {l : Int} {f : List Bool} {m : Nat} {r : List Nat} (h : q = lift3 p l f m r) : Q3 p q := by subst h; exact ⟨rfl, rfl, l, f, m, r, rfl⟩
theorem Q2.of {p q : Int × R} {l : Int} {f : List Bool} {m : Nat} {r : List Nat} (h : q = lift2 p l f m r) : Q2 p q := by subst h; exact ⟨rfl, l, f, m, r, rfl⟩

section
variable (s : R) (l : Int) (f : List Bool) (m : Nat) (r : List Nat)
theorem mix_dead : (s.mix l f m r).dead = s.dead := rfl
theorem mix_handles : (s.mix l f m r).handles = s.handles := rfl
theorem mix_scopes : (s.mix l f m r).scopes = s.scopes := rfl
theorem mix_objs : (s.mix l f m r).objs = s.objs := rfl
theorem mix_find (x : Int) : (s.mix l f m r).find? x = s.find? x := rfl
theorem mix_free : (s.mix l f m r).free? = s.free? := rfl
theorem mix_past (x : Int) : (s.mix l f m r).past x = s.past x := rfl
theorem mix_look (x : Int) (k v : Int × Int) (b : Bool) : (s.mix l f m r).look x k v b = s.look x k v b := rfl
theorem mix_look1 (x : Int) : (s.mix l f m r).look1 x = s.look1 x := rfl
theorem mix_objOf (i : Nat) : (s.mix l f m r).objOf i = s.objOf i := rfl
theorem mix_element (x i : Int) (v : Int × Int) : (s.mix l f m r).element x i v = s.element x i v := rfl
theorem mix_inner (v : Int × Int) : (s.mix l f m r).inner v = s.inner v := rfl
theorem mix_table (x : Int) (k v : Int × Int) : (s.mix l f m r).table x k v = s.table x k v := rfl
theorem mix_two (x y : Int) : (s.mix l f m r).two x y = s.two x y := rfl
theorem mix_setObj (o : Nat) (ob : RObj) : (s.mix l f m r).setObj o ob = (s.setObj o ob).mix l f m r := rfl
theorem handle_core (o : Nat) (c : Int) : (s.mix l f m r).handle o c = lift3 (s.handle o c) l f m r := by
  unfold R.handle
  rw [mix_free]
  cases s.free? <;> rfl
theorem outer_core (v : Int × Int) : (s.mix l f m r).outer v = lift3 (s.outer v) l f m r := by
  unfold R.outer
  rw [handle_core, mix_scopes]
  split
  · show (if (s.handle _ _).2.1 = 0 then _ else _) = _
    split <;> rfl
  · rfl
theorem kind_core (x : Int) : (s.mix l f m r).kindQ x = s.kindQ x := rfl
theorem len_core (x : Int) : (s.mix l f m r).lenQ x = s.lenQ x := rfl
theorem text_core (x : Int) : (s.mix l f m r).textQ x = s.textQ x := rfl
theorem same_core (x y : Int) : (s.mix l f m r).sameQ x y = s.sameQ x y := rfl
theorem get_core (x i : Int) : (s.mix l f m r).getQ x i = lift3 (s.getQ x i) l f m r := by
  simp only [R.getQ, mix_element, mix_objOf, outer_core, lift3_ite]
  rfl
theorem key_core (x i : Int) : (s.mix l f m r).keyQ x i = lift3 (s.keyQ x i) l f m r := by
  simp only [R.keyQ, mix_look1, mix_objOf, outer_core, lift3_ite]
  rfl
theorem core_find (x : Int) (k : Int × Int) : (s.mix l f m r).findQ x k = lift3 (s.findQ x k) l f m r := by
  simp only [R.findQ, mix_table, mix_objOf, outer_core, lift3_ite]
  rfl
theorem set_core (x i : Int) (v : Int × Int) : (s.mix l f m r).setQ x i v = lift2 (s.setQ x i v) l f m r := by
  simp only [R.setQ, mix_element, mix_objOf, mix_inner, mix_setObj, lift2_ite]
  rfl
theorem put_core2 (x : Int) (k v : Int × Int) : (s.mix l f m r).putQ x k v = lift2 (s.putQ x k v) l f m r := by
  simp only [R.putQ, mix_table, mix_objOf, mix_inner, mix_setObj, lift2_ite]
  rfl
theorem cut_core2 (x : Int) (k : Int × Int) : (s.mix l f m r).cutQ x k = lift2 (s.cutQ x k) l f m r := by
  simp only [R.cutQ, mix_table, mix_objOf, mix_setObj, lift2_ite]
  rfl
theorem opens_core : (s.mix l f m r).openQ = lift3 s.openQ l f m r := by
  simp only [R.openQ, mix_dead, mix_scopes, lift3_ite]
  rfl
theorem close_core (n : Int) : (s.mix l f m r).closeQ n = lift2 (s.closeQ n) l f m r := by
  simp only [R.closeQ, mix_dead, mix_scopes, mix_handles, lift2_ite]
  rfl
theorem keep_core (x : Int) : (s.mix l f m r).keepQ x = lift3 (s.keepQ x) l f m r := by
  simp only [R.keepQ, mix_look1, handle_core, lift3_ite]
  rfl
theorem escape_core (x : Int) : (s.mix l f m r).escapeQ x = lift3 (s.escapeQ x) l f m r := by
  simp only [R.escapeQ, mix_look1, mix_scopes, handle_core, lift3_ite]
  rfl
theorem release_core (x : Int) : (s.mix l f m r).releaseQ x = lift2 (s.releaseQ x) l f m r := by
  simp only [R.releaseQ, mix_look1, mix_handles, mix_find, lift2_ite]
  rfl
theorem collect_core : Q2 s.collectQ (s.mix l f m r).collectQ := by
  unfold R.collectQ
  rw [mix_dead]
  split
  · exact ⟨rfl, l, f, m, r, rfl⟩
  · exact ⟨rfl, l, f, m, (s.mix l f m r).reach, rfl⟩
end
/-- What make does, if memory doesn't run out. -/
theorem make_form {s : R} (o : RObj) (h : (s.make o).2.1 ≠ 12) : (s.free? = none ∧ s.make o = (0, 11, s)) ∨ (s.free? ≠ none ∧ ∃ l f m r, s.make o = lift3 ((s.push o).handle s.objs.length s.scopes) l f m r) := by
  unfold R.make at h ⊢
  cases hf : s.free? with
  | none => exact .inl ⟨rfl, rfl⟩
  | some k =>
    rw [hf] at h
    simp only at h ⊢
    refine .inr ⟨by simp, ?_⟩
    by_cases hu : usedOf s.objs (s.made3 (oWords o)).row + oWords o > s.limit
    · rw [if_pos hu] at h; exact absurd rfl h
    · rw [if_neg hu]
      have e : (s.made3 (oWords o)).push o = (s.push o).mix s.limit s.flags (s.made + 1) ((s.made3 (oWords o)).row ++ [s.objs.length]) := by
        have : s.made3 (oWords o) = s.mix s.limit s.flags (s.made + 1) (s.made3 (oWords o)).row := by
          unfold R.made3
          split
          · unfold R.made2; split <;> rfl
          · unfold R.made2; split <;> rfl
        rw [this]; rfl
      exact ⟨_, _, _, _, by rw [e, handle_core]⟩
theorem make_core {s t : R} (hc : Core s t) (o : RObj) (h1 : (s.make o).2.1 ≠ 12) (h2 : (t.make o).2.1 ≠ 12) : Q3 (s.make o) (t.make o) := by
  obtain ⟨l, f, m, r, rfl⟩ := hc
  have hp : (s.mix l f m r).push o = (s.push o).mix l f m (r ++ [s.objs.length]) := rfl
  rcases make_form o h1 with ⟨a1, a2⟩ | ⟨a1, la, fa, ma, ra, a2⟩
  · rcases make_form o h2 with ⟨b1, b2⟩ | ⟨b1, _⟩
    · rw [a2, b2]; exact ⟨rfl, rfl, l, f, m, r, rfl⟩
    · exact absurd a1 b1
  · rcases make_form o h2 with ⟨b1, _⟩ | ⟨_, lb, fb, mb, rb, b2⟩
    · exact absurd b1 a1
    · rw [a2, b2, hp, handle_core]
      exact ⟨rfl, rfl, mix_mix _ _ _ _ _ _ _ _ _⟩
theorem array_core {s t : R} (hc : Core s t) (n : Int) (h1 : (s.arrayQ n).2.1 ≠ 12) (h2 : (t.arrayQ n).2.1 ≠ 12) : Q3 (s.arrayQ n) (t.arrayQ n) := by
  have hc0 := hc
  obtain ⟨l, f, m, r, rfl⟩ := hc
  unfold R.arrayQ at h1 h2 ⊢
  rw [mix_dead] at h2 ⊢
  split
  · exact ⟨rfl, rfl, hc0⟩
  · rename_i hd
    rw [if_neg hd] at h1 h2
    split
    · exact ⟨rfl, rfl, hc0⟩
    · rename_i hn
      rw [if_neg hn] at h1 h2
      exact make_core hc0 _ h1 h2
theorem table_core {s t : R} (hc : Core s t) (n : Int) (h1 : (s.tableQ n).2.1 ≠ 12) (h2 : (t.tableQ n).2.1 ≠ 12) : Q3 (s.tableQ n) (t.tableQ n) := by
  have hc0 := hc
  obtain ⟨l, f, m, r, rfl⟩ := hc
  unfold R.tableQ at h1 h2 ⊢
  rw [mix_dead] at h2 ⊢
  split
  · exact ⟨rfl, rfl, hc0⟩
  · rename_i hd
    rw [if_neg hd] at h1 h2
    split
    · exact ⟨rfl, rfl, hc0⟩
    · rename_i hn
      rw [if_neg hn] at h1 h2
      exact make_core hc0 _ h1 h2
theorem bytes_core {s t : R} (hc : Core s t) (b : ByteArray) (h1 : (s.bytesQ b).2.1 ≠ 12) (h2 : (t.bytesQ b).2.1 ≠ 12) : Q3 (s.bytesQ b) (t.bytesQ b) := by
  have hc0 := hc
  obtain ⟨l, f, m, r, rfl⟩ := hc
  unfold R.bytesQ at h1 h2 ⊢
  rw [mix_dead] at h2 ⊢
  split
  · exact ⟨rfl, rfl, hc0⟩
  · rename_i hd
    rw [if_neg hd] at h1 h2
    split
    · exact ⟨rfl, rfl, hc0⟩
    · rename_i hn
      rw [if_neg hn] at h1 h2
      exact make_core hc0 _ h1 h2
theorem copy_core {s t : R} (hc : Core s t) (x : Int) (h1 : (s.copyQ x).2.1 ≠ 12) (h2 : (t.copyQ x).2.1 ≠ 12) : Q3 (s.copyQ x) (t.copyQ x) := by
  have hc0 := hc
  obtain ⟨l, f, m, r, rfl⟩ := hc
  unfold R.copyQ at h1 h2 ⊢
  rw [mix_look1, mix_objOf] at h2 ⊢
  split
  · rename_i hd
    rw [if_pos hd] at h1 h2
    exact make_core hc0 _ h1 h2
  · exact ⟨rfl, rfl, hc0⟩
theorem join_core {s t : R} (hc : Core s t) (x y : Int) (h1 : (s.joinQ x y).2.1 ≠ 12) (h2 : (t.joinQ x y).2.1 ≠ 12) : Q3 (s.joinQ x y) (t.joinQ x y) := by
  have hc0 := hc
  obtain ⟨l, f, m, r, rfl⟩ := hc
  unfold R.joinQ at h1 h2 ⊢
  rw [mix_two, mix_objOf, mix_objOf] at h2 ⊢
  split
  · rename_i q1
    rw [if_pos q1] at h1 h2
    split
    · rename_i q2
      rw [if_pos q2] at h1 h2
      split
      · exact ⟨rfl, rfl, hc0⟩
      · rename_i q3
        rw [if_neg q3] at h1 h2
        exact make_core hc0 _ h1 h2
    · exact ⟨rfl, rfl, hc0⟩
  · exact ⟨rfl, rfl, hc0⟩
/-- An answer without what tells places. -/
def Ans.blind (k : Int) (a : Ans) : Ans := if k = 7 ∨ k = 8 then { a with n := 0 } else a
theorem twin_step {s t : R} (hc : Core s t) (o : LOp) (h1 : (s.askQ o).e ≠ 12) (h2 : (t.askQ o).e ≠ 12) : Core (s.stepQ o) (t.stepQ o) ∧ (s.askQ o).blind o.kind = (t.askQ o).blind o.kind := by
  obtain ⟨kind, x, y, k, v, b⟩ := o
  have hc0 := hc
  by_cases k1 : kind = 1
  · subst k1
    have q := array_core hc x h1 h2
    exact ⟨q.2.2, by show Ans.mk _ _ _ _ _ = Ans.mk _ _ _ _ _; rw [q.1, q.2.1]⟩
  by_cases k2 : kind = 2
  · subst k2
    have q := bytes_core hc b h1 h2
    exact ⟨q.2.2, by show Ans.mk _ _ _ _ _ = Ans.mk _ _ _ _ _; rw [q.1, q.2.1]⟩
  by_cases k3 : kind = 3
  · subst k3
    have q := table_core hc x h1 h2
    exact ⟨q.2.2, by show Ans.mk _ _ _ _ _ = Ans.mk _ _ _ _ _; rw [q.1, q.2.1]⟩
  by_cases k22 : kind = 22
  · subst k22
    have q := join_core hc x y h1 h2
    exact ⟨q.2.2, by show Ans.mk _ _ _ _ _ = Ans.mk _ _ _ _ _; rw [q.1, q.2.1]⟩
  by_cases k23 : kind = 23
  · subst k23
    have q := copy_core hc x h1 h2
    exact ⟨q.2.2, by show Ans.mk _ _ _ _ _ = Ans.mk _ _ _ _ _; rw [q.1, q.2.1]⟩
  clear h1 h2
  obtain ⟨l, f, m, r, rfl⟩ := hc
  by_cases k9 : kind = 9
  · subst k9
    have q := Q3.of (get_core s l f m r x y)
    exact ⟨q.2.2, by show Ans.mk _ _ _ _ _ = Ans.mk _ _ _ _ _; rw [q.1, q.2.1]⟩
  by_cases k12 : kind = 12
  · subst k12
    have q := Q3.of (core_find s l f m r x k)
    exact ⟨q.2.2, by show Ans.mk _ _ _ _ _ = Ans.mk _ _ _ _ _; rw [q.1, q.2.1]⟩
  by_cases k15 : kind = 15
  · subst k15
    have q := Q3.of (key_core s l f m r x y)
    exact ⟨q.2.2, by show Ans.mk _ _ _ _ _ = Ans.mk _ _ _ _ _; rw [q.1, q.2.1]⟩
  by_cases k16 : kind = 16
  · subst k16
    have q := Q3.of (opens_core s l f m r)
    exact ⟨q.2.2, by show Ans.mk _ _ _ _ _ = Ans.mk _ _ _ _ _; rw [q.1, q.2.1]⟩
  by_cases k18 : kind = 18
  · subst k18
    have q := Q3.of (escape_core s l f m r x)
    exact ⟨q.2.2, by show Ans.mk _ _ _ _ _ = Ans.mk _ _ _ _ _; rw [q.1, q.2.1]⟩
  by_cases k19 : kind = 19
  · subst k19
    have q := Q3.of (keep_core s l f m r x)
    exact ⟨q.2.2, by show Ans.mk _ _ _ _ _ = Ans.mk _ _ _ _ _; rw [q.1, q.2.1]⟩
  by_cases k10 : kind = 10
  · subst k10
    have q := Q2.of (set_core s l f m r x y v)
    exact ⟨q.2, by show Ans.mk _ _ _ _ _ = Ans.mk _ _ _ _ _; rw [q.1]⟩
  by_cases k13 : kind = 13
  · subst k13
    have q := Q2.of (put_core2 s l f m r x k v)
    exact ⟨q.2, by show Ans.mk _ _ _ _ _ = Ans.mk _ _ _ _ _; rw [q.1]⟩
  by_cases k14 : kind = 14
  · subst k14
    have q := Q2.of (cut_core2 s l f m r x k)
    exact ⟨q.2, by show Ans.mk _ _ _ _ _ = Ans.mk _ _ _ _ _; rw [q.1]⟩
  by_cases k17 : kind = 17
  · subst k17
    have q := Q2.of (close_core s l f m r x)
    exact ⟨q.2, by show Ans.mk _ _ _ _ _ = Ans.mk _ _ _ _ _; rw [q.1]⟩
  by_cases k20 : kind = 20
  · subst k20
    have q := Q2.of (release_core s l f m r x)
    exact ⟨q.2, by show Ans.mk _ _ _ _ _ = Ans.mk _ _ _ _ _; rw [q.1]⟩
  by_cases k21 : kind = 21
  · subst k21
    have q := collect_core s l f m r
    exact ⟨q.2, by show Ans.mk _ _ _ _ _ = Ans.mk _ _ _ _ _; rw [q.1]⟩
  have e2 : ∀ u : R, u.stepQ ⟨kind, x, y, k, v, b⟩ = u := fun u => by simp [R.stepQ, k1, k2, k3, k22, k23, k9, k12, k15, k10, k13, k14, k16, k17, k18, k19, k20, k21]
  rw [e2, e2]
  refine ⟨hc0, ?_⟩
  by_cases k4 : kind = 4
  · subst k4; rfl
  by_cases k5 : kind = 5
  · subst k5; rfl
  by_cases k6 : kind = 6
  · subst k6; rfl
  by_cases k11 : kind = 11
  · subst k11; rfl
  by_cases k7 : kind = 7
  · subst k7
    show Ans.mk _ _ _ _ _ = Ans.mk _ _ _ _ _
    congr 1
    show (s.placeQ x).2 = ((s.mix l f m r).placeQ x).2
    unfold R.placeQ
    rw [mix_look1]
    split <;> rfl
  by_cases k8 : kind = 8
  · subst k8; rfl
  have e3 : ∀ u : R, u.askQ ⟨kind, x, y, k, v, b⟩ = ⟨0, 0, false, ⟨#[]⟩, (0, 0)⟩ := fun u => by simp [R.askQ, k1, k2, k3, k22, k23, k9, k12, k15, k10, k13, k14, k16, k17, k18, k19, k20, k21, k4, k5, k6, k7, k8, k11]
  rw [e3, e3]
/-- What a heap that has run out of memory answers. -/
theorem dead_ask {s : R} (hd : s.dead = true) (o : LOp) (hk : 1 ≤ o.kind ∧ o.kind ≤ 23) : s.askQ o = ⟨2, 0, false, ⟨#[]⟩, (0, 0)⟩ ∧ s.stepQ o = s := by
  obtain ⟨kind, x, y, k, v, b⟩ := o
  have hl : ∀ x k v b, s.look x k v b = (0, 2) := fun x k v b => by unfold R.look; rw [if_pos hd]
  have hl1 : ∀ x, s.look1 x = (0, 2) := fun x => hl _ _ _ _
  have hkk : kind = 1 ∨ kind = 2 ∨ kind = 3 ∨ kind = 4 ∨ kind = 5 ∨ kind = 6 ∨ kind = 7 ∨ kind = 8 ∨ kind = 9 ∨ kind = 10 ∨ kind = 11 ∨ kind = 12 ∨ kind = 13 ∨ kind = 14 ∨ kind = 15 ∨ kind = 16 ∨ kind = 17 ∨ kind = 18 ∨ kind = 19 ∨ kind = 20 ∨ kind = 21 ∨ kind = 22 ∨ kind = 23 := by simp only at hk; omega
  rcases hkk with h | h | h | h | h | h | h | h | h | h | h | h | h | h | h | h | h | h | h | h | h | h | h <;> subst h <;>
    simp [R.askQ, R.stepQ, R.arrayQ, R.bytesQ, R.tableQ, R.kindQ, R.lenQ, R.textQ, R.placeQ, R.wordsE, R.wordsQ, R.getQ, R.setQ, R.sameQ, R.findQ, R.putQ, R.cutQ, R.keyQ, R.openQ, R.closeQ, R.escapeQ, R.keepQ, R.releaseQ, R.collectQ, R.joinQ, R.copyQ, R.element, R.table, R.two, hl, hl1, hd]
end Go.Proofs.Ytfoncalkgmeklaa

/- ErrMemory is answered just when memory runs out (pure); and gripkeep's nothing. -/
namespace Go.Proofs.Ytfoncalkgmeklaa
open Go.RowKit

theorem look_e (s : R) (x : Int) (k v : Int × Int) (b : Bool) : (s.look x k v b).2 ≤ 4 := by
  unfold R.look
  split
  · simp
  · split
    · simp
    · split
      · simp
      · split <;> simp
theorem look1_e (s : R) (x : Int) : (s.look1 x).2 ≤ 4 := look_e s x _ _ _
theorem handle_e (s : R) (o : Nat) (c : Int) : (s.handle o c).2.1 ≤ 11 := by
  unfold R.handle; split <;> simp
theorem outer_e (s : R) (v : Int × Int) : (s.outer v).2.1 ≤ 11 := by
  unfold R.outer
  have := handle_e s v.2.toNat s.scopes
  split
  · split <;> simp; omega
  · simp
theorem element_e (s : R) (x i : Int) (v : Int × Int) : (s.element x i v).2 ≤ 7 := by
  have := look_e s x (0, 0) v false
  unfold R.element
  split
  · split
    · split <;> simp
    · simp
  · simp only; omega
theorem table_e (s : R) (x : Int) (k v : Int × Int) : (s.table x k v).2.2 ≤ 5 := by
  have := look_e s x k v true
  unfold R.table
  split
  · split <;> simp
  · simp only; omega
theorem two_e (s : R) (x y : Int) : (s.two x y).2.2 ≤ 4 := by
  have := look_e s x (0, 0) (2, y) false
  unfold R.two
  split
  · simp
  · simp only; omega
theorem make_e {s : R} {o : RObj} (h : (s.make o).2.1 = 12) : (s.make o).2.2.dead = true := by
  unfold R.make at h ⊢
  split
  · rename_i hf; rw [hf] at h; simp at h
  · rename_i hf
    rw [hf] at h
    simp only at h
    split
    · rfl
    · rename_i hu
      rw [if_neg hu] at h
      have := handle_e ((s.made3 (oWords o)).push o) s.objs.length s.scopes
      omega
/-- The answer ErrMemory: memory has run out. -/
theorem mem_dead {s : R} (o : LOp) (h : (s.askQ o).e = 12) : (s.stepQ o).dead = true := by
  obtain ⟨kind, x, y, k, v, b⟩ := o
  by_cases k1 : kind = 1
  · subst k1
    have h' : (s.arrayQ x).2.1 = 12 := h
    show (s.arrayQ x).2.2.dead = true
    unfold R.arrayQ at h' ⊢
    split at h'
    · simp at h'
    · split at h'
      · simp at h'
      · rename_i a1 a2; rw [if_neg a1, if_neg a2]; exact make_e h'
  by_cases k2 : kind = 2
  · subst k2
    have h' : (s.bytesQ b).2.1 = 12 := h
    show (s.bytesQ b).2.2.dead = true
    unfold R.bytesQ at h' ⊢
    split at h'
    · simp at h'
    · split at h'
      · simp at h'
      · rename_i a1 a2; rw [if_neg a1, if_neg a2]; exact make_e h'
  by_cases k3 : kind = 3
  · subst k3
    have h' : (s.tableQ x).2.1 = 12 := h
    show (s.tableQ x).2.2.dead = true
    unfold R.tableQ at h' ⊢
    split at h'
    · simp at h'
    · split at h'
      · simp at h'
      · rename_i a1 a2; rw [if_neg a1, if_neg a2]; exact make_e h'
  by_cases k22 : kind = 22
  · subst k22
    have h' : (s.joinQ x y).2.1 = 12 := h
    show (s.joinQ x y).2.2.dead = true
    have := two_e s x y
    unfold R.joinQ at h' ⊢
    split at h'
    · rename_i a1
      rw [if_pos a1]
      split at h'
      · rename_i a2
        rw [if_pos a2]
        split at h'
        · simp at h'
        · rename_i a3; rw [if_neg a3]; exact make_e h'
      · simp at h'
    · simp only at h'; omega
  by_cases k23 : kind = 23
  · subst k23
    have h' : (s.copyQ x).2.1 = 12 := h
    show (s.copyQ x).2.2.dead = true
    have := look1_e s x
    unfold R.copyQ at h' ⊢
    split at h'
    · rename_i a1; rw [if_pos a1]; exact make_e h'
    · simp only at h'; omega
  exfalso
  have hl := look1_e s x
  have ht := table_e s x k v
  have ht0 := table_e s x k (0, 0)
  have he := element_e s x y v
  have he0 := element_e s x y (0, 0)
  have h2 := two_e s x y
  by_cases k4 : kind = 4
  · subst k4
    have h' : (s.kindQ x).2 = 12 := h
    unfold R.kindQ at h'; split at h' <;> simp at h'; omega
  by_cases k5 : kind = 5
  · subst k5
    have h' : (s.lenQ x).2 = 12 := h
    unfold R.lenQ at h'; repeat' split at h'
    all_goals simp at h'
    omega
  by_cases k6 : kind = 6
  · subst k6
    have h' : (s.textQ x).2 = 12 := h
    unfold R.textQ at h'; repeat' split at h'
    all_goals simp at h'
    omega
  by_cases k7 : kind = 7
  · subst k7
    have h' : (s.placeQ x).2 = 12 := h
    unfold R.placeQ at h'; split at h' <;> simp at h'; omega
  by_cases k11 : kind = 11
  · subst k11
    have h' : (s.two x y).2.2 = 12 := h
    omega
  by_cases k9 : kind = 9
  · subst k9
    have h' : (s.getQ x y).2.1 = 12 := h
    have ho := outer_e s ((s.objOf (s.element x y (0, 0)).1).vals.getD y.toNat (0, 0))
    unfold R.getQ at h'; split at h'
    · omega
    · simp only at h'; omega
  by_cases k12 : kind = 12
  · subst k12
    have h' : (s.findQ x k).2.1 = 12 := h
    have ho := outer_e s ((s.objOf (s.table x k (0, 0)).1).vals.getD ((s.table x k (0, 0)).2.1 + 1) (0, 0))
    unfold R.findQ at h'; split at h'
    · split at h'
      · simp at h'
      · omega
    · simp only at h'; omega
  by_cases k15 : kind = 15
  · subst k15
    have h' : (s.keyQ x y).2.1 = 12 := h
    have ho := outer_e s ((s.objOf (s.look1 x).1).vals.getD (2 * y.toNat) (0, 0))
    unfold R.keyQ at h'; split at h'
    · split at h'
      · split at h'
        · simp at h'
        · omega
      · simp at h'
    · simp only at h'; omega
  by_cases k16 : kind = 16
  · subst k16
    have h' : s.openQ.2.1 = 12 := h
    unfold R.openQ at h'; repeat' split at h'
    all_goals simp at h'
  by_cases k18 : kind = 18
  · subst k18
    have h' : (s.escapeQ x).2.1 = 12 := h
    have ho := handle_e s (s.look1 x).1 (s.scopes - 1)
    unfold R.escapeQ at h'; split at h'
    · split at h'
      · simp at h'
      · omega
    · simp only at h'; omega
  by_cases k19 : kind = 19
  · subst k19
    have h' : (s.keepQ x).2.1 = 12 := h
    have ho := handle_e s (s.look1 x).1 (-1)
    unfold R.keepQ at h'; split at h'
    · omega
    · simp only at h'; omega
  by_cases k8 : kind = 8
  · subst k8
    have h' : s.wordsE = 12 := h
    unfold R.wordsE at h'; split at h' <;> simp at h'
  by_cases k10 : kind = 10
  · subst k10
    have h' : (s.setQ x y v).1 = 12 := h
    unfold R.setQ at h'; split at h'
    · simp at h'
    · simp only at h'; omega
  by_cases k13 : kind = 13
  · subst k13
    have h' : (s.putQ x k v).1 = 12 := h
    unfold R.putQ at h'; split at h'
    · split at h'
      · split at h' <;> simp at h'
      · simp at h'
    · simp only at h'; omega
  by_cases k14 : kind = 14
  · subst k14
    have h' : (s.cutQ x k).1 = 12 := h
    unfold R.cutQ at h'; split at h'
    · split at h' <;> simp at h'
    · simp only at h'; omega
  by_cases k17 : kind = 17
  · subst k17
    have h' : (s.closeQ x).1 = 12 := h
    unfold R.closeQ at h'; repeat' split at h'
    all_goals simp at h'
  by_cases k20 : kind = 20
  · subst k20
    have h' : (s.releaseQ x).1 = 12 := h
    unfold R.releaseQ at h'; split at h'
    · split at h' <;> simp at h'
    · simp only at h'; omega
  by_cases k21 : kind = 21
  · subst k21
    have h' : s.collectQ.1 = 12 := h
    unfold R.collectQ at h'; split at h' <;> simp at h'
  have e3 : s.askQ ⟨kind, x, y, k, v, b⟩ = ⟨0, 0, false, ⟨#[]⟩, (0, 0)⟩ := by simp [R.askQ, k1, k2, k3, k22, k23, k9, k12, k15, k10, k13, k14, k16, k17, k18, k19, k20, k21, k4, k5, k6, k7, k8, k11]
  rw [e3] at h
  simp at h
/-- Whether memory has run out behind a step of a living heap. -/
theorem mem_iff {s : R} (o : LOp) (hd : s.dead = false) : (s.stepQ o).dead = ((s.askQ o).e == 12) := by
  by_cases h : (s.askQ o).e = 12
  · rw [mem_dead o h]; simp [h]
  · rw [dead_step o hd h]; simp [h]
/-- A step that is no call. -/
theorem step_unknown (s : R) {o : LOp} (h : ¬ (1 ≤ o.kind ∧ o.kind ≤ 23)) : s.stepQ o = s ∧ s.askQ o = ⟨0, 0, false, ⟨#[]⟩, (0, 0)⟩ := by
  obtain ⟨kind, x, y, k, v, b⟩ := o
  simp only at h
  have hn : ∀ j : Int, 1 ≤ j → j ≤ 23 → kind ≠ j := fun j h1 h2 e => h (by omega)
  simp [R.stepQ, R.askQ, hn]
theorem dead_stays {s : R} (hd : s.dead = true) (o : LOp) : (s.stepQ o).dead = true := by
  by_cases h : 1 ≤ o.kind ∧ o.kind ≤ 23
  · rw [(dead_ask hd o h).2]; exact hd
  · rw [(step_unknown s h).1]; exact hd
/-- What answers when memory has run out before. -/
def Ans.none (e : Int) : Ans := ⟨e, 0, false, ⟨#[]⟩, (0, 0)⟩
end Go.Proofs.Ytfoncalkgmeklaa

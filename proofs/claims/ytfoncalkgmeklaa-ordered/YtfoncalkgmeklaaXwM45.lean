import Derived.Test.YtfoncalkgmeklaaXwM42
import Derived.Test.YtfoncalkgmeklaaXwM44

/- A heap is dead just behind ErrMemory (pure). -/
namespace Go.Proofs.Ytfoncalkgmeklaa
open Go.RowKit

theorem dead_handle {s : R} {o : Nat} {c : Int} (hd : s.dead = false) : (s.handle o c).2.2.dead = false := by
  unfold R.handle
  split
  · exact hd
  · exact hd
theorem dead_outer {s : R} {v : Int × Int} (hd : s.dead = false) : (s.outer v).2.2.dead = false := by
  unfold R.outer
  split
  · split
    · exact dead_handle hd
    · exact hd
  · exact hd
theorem dead_made1 (s : R) : s.made1.dead = s.dead := rfl
theorem dead_made2 (s : R) : s.made2.dead = s.dead := by unfold R.made2; split <;> rfl
theorem dead_made3 (s : R) (n : Int) : (s.made3 n).dead = s.dead := by
  unfold R.made3
  split
  · exact dead_made2 s
  · exact dead_made2 s
theorem dead_make {s : R} {o : RObj} (hd : s.dead = false) (he : (s.make o).2.1 ≠ 12) : (s.make o).2.2.dead = false := by
  unfold R.make at he ⊢
  split
  · exact hd
  · rename_i k hk
    rw [hk] at he
    simp only at he
    split
    · rename_i hc
      rw [if_pos hc] at he
      exact absurd rfl he
    · exact dead_handle (by show (s.made3 (oWords o)).dead = false; rw [dead_made3, hd])
theorem dead_array {s : R} {n : Int} (hd : s.dead = false) (he : (s.arrayQ n).2.1 ≠ 12) : (s.arrayQ n).2.2.dead = false := by
  unfold R.arrayQ at he ⊢
  rw [if_neg (by simp [hd])] at he ⊢
  by_cases h : n < 0 ∨ 16 < n
  · rw [if_pos h]; exact hd
  · rw [if_neg h] at he ⊢; exact dead_make hd he
theorem dead_table {s : R} {n : Int} (hd : s.dead = false) (he : (s.tableQ n).2.1 ≠ 12) : (s.tableQ n).2.2.dead = false := by
  unfold R.tableQ at he ⊢
  rw [if_neg (by simp [hd])] at he ⊢
  by_cases h : n < 0 ∨ 8 < n
  · rw [if_pos h]; exact hd
  · rw [if_neg h] at he ⊢; exact dead_make hd he
theorem dead_bytes {s : R} {t : ByteArray} (hd : s.dead = false) (he : (s.bytesQ t).2.1 ≠ 12) : (s.bytesQ t).2.2.dead = false := by
  unfold R.bytesQ at he ⊢
  rw [if_neg (by simp [hd])] at he ⊢
  by_cases h : 64 < t.size
  · rw [if_pos h]; exact hd
  · rw [if_neg h] at he ⊢; exact dead_make hd he
theorem dead_copy {s : R} {x : Int} (hd : s.dead = false) (he : (s.copyQ x).2.1 ≠ 12) : (s.copyQ x).2.2.dead = false := by
  unfold R.copyQ at he ⊢
  by_cases h : (s.look1 x).2 = 0
  · rw [if_pos h] at he ⊢; exact dead_make hd he
  · rw [if_neg h]; exact hd
theorem dead_join {s : R} {x y : Int} (hd : s.dead = false) (he : (s.joinQ x y).2.1 ≠ 12) : (s.joinQ x y).2.2.dead = false := by
  unfold R.joinQ at he ⊢
  by_cases h : (s.two x y).2.2 = 0
  · rw [if_pos h] at he ⊢
    by_cases h2 : (s.objOf (s.two x y).1).kind = 2 ∧ (s.objOf (s.two x y).2.1).kind = 2
    · rw [if_pos h2] at he ⊢
      by_cases h3 : 64 < ((s.objOf (s.two x y).1).text ++ (s.objOf (s.two x y).2.1).text).size
      · rw [if_pos h3]; exact hd
      · rw [if_neg h3] at he ⊢; exact dead_make hd he
    · rw [if_neg h2]; exact hd
  · rw [if_neg h]; exact hd
theorem dead_get {s : R} {x i : Int} (hd : s.dead = false) : (s.getQ x i).2.2.dead = false := by
  unfold R.getQ; split
  · exact dead_outer hd
  · exact hd
theorem dead_key {s : R} {x i : Int} (hd : s.dead = false) : (s.keyQ x i).2.2.dead = false := by
  unfold R.keyQ; split
  · split
    · split
      · exact hd
      · exact dead_outer hd
    · exact hd
  · exact hd
theorem dead_find {s : R} {x : Int} {k : Int × Int} (hd : s.dead = false) : (s.findQ x k).2.2.dead = false := by
  unfold R.findQ; split
  · split
    · exact hd
    · exact dead_outer hd
  · exact hd
theorem dead_set {s : R} {x i : Int} {v : Int × Int} (hd : s.dead = false) : (s.setQ x i v).2.dead = false := by
  unfold R.setQ; split <;> exact hd
theorem dead_put {s : R} {x : Int} {k v : Int × Int} (hd : s.dead = false) : (s.putQ x k v).2.dead = false := by
  unfold R.putQ; split
  · split
    · split <;> exact hd
    · exact hd
  · exact hd
theorem dead_cut {s : R} {x : Int} {k : Int × Int} (hd : s.dead = false) : (s.cutQ x k).2.dead = false := by
  unfold R.cutQ; split
  · split <;> exact hd
  · exact hd
theorem dead_opens {s : R} (hd : s.dead = false) : s.openQ.2.2.dead = false := by
  unfold R.openQ; split
  · exact hd
  · split <;> exact hd
theorem dead_close {s : R} {n : Int} (hd : s.dead = false) : (s.closeQ n).2.dead = false := by
  unfold R.closeQ; split
  · exact hd
  · split <;> exact hd
theorem dead_escape {s : R} {x : Int} (hd : s.dead = false) : (s.escapeQ x).2.2.dead = false := by
  unfold R.escapeQ; split
  · split
    · exact hd
    · exact dead_handle hd
  · exact hd
theorem dead_keep {s : R} {x : Int} (hd : s.dead = false) : (s.keepQ x).2.2.dead = false := by
  unfold R.keepQ; split
  · exact dead_handle hd
  · exact hd
theorem dead_release {s : R} {x : Int} (hd : s.dead = false) : (s.releaseQ x).2.dead = false := by
  unfold R.releaseQ; split
  · split <;> exact hd
  · exact hd
theorem dead_collect {s : R} (hd : s.dead = false) : s.collectQ.2.dead = false := by
  unfold R.collectQ; split <;> exact hd
/-- A heap that lives lives behind a step that isn't answered by ErrMemory. -/
theorem dead_step {s : R} (o : LOp) (hd : s.dead = false) (he : (s.askQ o).e ≠ 12) : (s.stepQ o).dead = false := by
  obtain ⟨kind, x, y, k, v, t⟩ := o
  by_cases k1 : kind = 1
  · subst k1; exact dead_array hd he
  by_cases k2 : kind = 2
  · subst k2; exact dead_bytes hd he
  by_cases k3 : kind = 3
  · subst k3; exact dead_table hd he
  by_cases k22 : kind = 22
  · subst k22; exact dead_join hd he
  by_cases k23 : kind = 23
  · subst k23; exact dead_copy hd he
  by_cases k9 : kind = 9
  · subst k9; exact dead_get hd
  by_cases k12 : kind = 12
  · subst k12; exact dead_find hd
  by_cases k15 : kind = 15
  · subst k15; exact dead_key hd
  by_cases k10 : kind = 10
  · subst k10; exact dead_set hd
  by_cases k13 : kind = 13
  · subst k13; exact dead_put hd
  by_cases k14 : kind = 14
  · subst k14; exact dead_cut hd
  by_cases k16 : kind = 16
  · subst k16; exact dead_opens hd
  by_cases k17 : kind = 17
  · subst k17; exact dead_close hd
  by_cases k18 : kind = 18
  · subst k18; exact dead_escape hd
  by_cases k19 : kind = 19
  · subst k19; exact dead_keep hd
  by_cases k20 : kind = 20
  · subst k20; exact dead_release hd
  by_cases k21 : kind = 21
  · subst k21; exact dead_collect hd
  have e2 : s.stepQ ⟨kind, x, y, k, v, t⟩ = s := by simp [R.stepQ, k1, k2, k3, k22, k23, k9, k12, k15, k10, k13, k14, k16, k17, k18, k19, k20, k21]
  rw [e2]; exact hd
end Go.Proofs.Ytfoncalkgmeklaa

/- The number of a handle that a step makes is one that a word can hold (pure). -/
namespace Go.Proofs.Ytfoncalkgmeklaa
open Go.RowKit

theorem handle_i64 {s : R} {m : Nat} (hl : s.handles.length ≤ m) (hm : m ≤ 1125899906842624) (o : Nat) (c : Int) : I64 (s.handle o c).1 := by
  unfold R.handle
  split
  · exact i64_0
  · rename_i k hk
    have h1 : k < 32 := by
      unfold R.free? at hk
      exact List.mem_range.1 (List.mem_of_find?_eq_some hk)
    have h2 : s.past k ≤ s.handles.length := by unfold R.past; exact List.countP_le_length
    constructor <;> (simp only; omega)
theorem handles_made3 (s : R) (n : Int) : (s.made3 n).handles = s.handles := by
  unfold R.made3 R.made2
  split <;> split <;> rfl
theorem make_i64 {s : R} {m : Nat} (hl : s.handles.length ≤ m) (hm : m ≤ 1125899906842624) (o : RObj) : I64 (s.make o).1 := by
  unfold R.make
  split
  · exact i64_0
  · split
    · exact i64_0
    · exact handle_i64 (by show (s.made3 (oWords o)).handles.length ≤ m; rw [handles_made3]; exact hl) hm _ _
theorem outer_i64 {s : R} {m : Nat} (hl : s.handles.length ≤ m) (hm : m ≤ 1125899906842624) (v : Int × Int) (h : (s.outer v).1.1 = 2) : I64 (s.outer v).1.2 := by
  unfold R.outer at h ⊢
  split
  · split
    · exact handle_i64 hl hm _ _
    · exact i64_0
  · rename_i hv
    rw [if_neg hv] at h
    exact absurd h hv
theorem array_i64 {s : R} {m : Nat} (hl : s.handles.length ≤ m) (hm : m ≤ 1125899906842624) (n : Int) : I64 (s.arrayQ n).1 := by
  unfold R.arrayQ; split
  · exact i64_0
  · split
    · exact i64_0
    · exact make_i64 hl hm _
theorem table_i64 {s : R} {m : Nat} (hl : s.handles.length ≤ m) (hm : m ≤ 1125899906842624) (n : Int) : I64 (s.tableQ n).1 := by
  unfold R.tableQ; split
  · exact i64_0
  · split
    · exact i64_0
    · exact make_i64 hl hm _
theorem bytes_i64 {s : R} {m : Nat} (hl : s.handles.length ≤ m) (hm : m ≤ 1125899906842624) (t : ByteArray) : I64 (s.bytesQ t).1 := by
  unfold R.bytesQ; split
  · exact i64_0
  · split
    · exact i64_0
    · exact make_i64 hl hm _
theorem copy_i64 {s : R} {m : Nat} (hl : s.handles.length ≤ m) (hm : m ≤ 1125899906842624) (x : Int) : I64 (s.copyQ x).1 := by
  unfold R.copyQ; split
  · exact make_i64 hl hm _
  · exact i64_0
theorem join_i64 {s : R} {m : Nat} (hl : s.handles.length ≤ m) (hm : m ≤ 1125899906842624) (x y : Int) : I64 (s.joinQ x y).1 := by
  unfold R.joinQ; split
  · split
    · split
      · exact i64_0
      · exact make_i64 hl hm _
    · exact i64_0
  · exact i64_0
theorem escape_i64 {s : R} {m : Nat} (hl : s.handles.length ≤ m) (hm : m ≤ 1125899906842624) (x : Int) : I64 (s.escapeQ x).1 := by
  unfold R.escapeQ; split
  · split
    · exact i64_0
    · exact handle_i64 hl hm _ _
  · exact i64_0
theorem keep_i64 {s : R} {m : Nat} (hl : s.handles.length ≤ m) (hm : m ≤ 1125899906842624) (x : Int) : I64 (s.keepQ x).1 := by
  unfold R.keepQ; split
  · exact handle_i64 hl hm _ _
  · exact i64_0
theorem get_i64 {s : R} {m : Nat} (hl : s.handles.length ≤ m) (hm : m ≤ 1125899906842624) (x i : Int) (h : (s.getQ x i).1.1 = 2) : I64 (s.getQ x i).1.2 := by
  unfold R.getQ at h ⊢; split
  · rename_i hc
    rw [if_pos hc] at h
    exact outer_i64 hl hm _ h
  · exact i64_0
theorem find_i64 {s : R} {m : Nat} (hl : s.handles.length ≤ m) (hm : m ≤ 1125899906842624) (x : Int) (k : Int × Int) (h : (s.findQ x k).1.1 = 2) : I64 (s.findQ x k).1.2 := by
  unfold R.findQ at h ⊢; split
  · rename_i hc
    rw [if_pos hc] at h
    split
    · exact i64_0
    · rename_i hc2
      rw [if_neg hc2] at h
      exact outer_i64 hl hm _ h
  · exact i64_0
theorem key_i64 {s : R} {m : Nat} (hl : s.handles.length ≤ m) (hm : m ≤ 1125899906842624) (x i : Int) (h : (s.keyQ x i).1.1 = 2) : I64 (s.keyQ x i).1.2 := by
  unfold R.keyQ at h ⊢; split
  · rename_i hc
    rw [if_pos hc] at h
    split
    · rename_i hc2
      rw [if_pos hc2] at h
      split
      · exact i64_0
      · rename_i hc3
        rw [if_neg hc3] at h
        exact outer_i64 hl hm _ h
    · exact i64_0
  · exact i64_0
/-- What a step makes is a number that can be handed in again. -/
theorem made_i64 {s : R} {m : Nat} (hu : RUp m s) (hm : m ≤ 1125899906842624) (o : LOp) (h : (handlesQ o (s.askQ o)).2 = true) : I64 (handlesQ o (s.askQ o)).1 := by
  have hl := hu.handles
  obtain ⟨kind, x, y, k, v, t⟩ := o
  by_cases he : (s.askQ ⟨kind, x, y, k, v, t⟩).e = 0
  · by_cases hk : kind = 1 ∨ kind = 2 ∨ kind = 3 ∨ kind = 22 ∨ kind = 23 ∨ kind = 18 ∨ kind = 19
    · have e : (handlesQ ⟨kind, x, y, k, v, t⟩ (s.askQ ⟨kind, x, y, k, v, t⟩)).1 = (s.askQ ⟨kind, x, y, k, v, t⟩).n := by
        simp only [handlesQ]
        rw [if_neg (by simp [he]), if_pos hk]
      rw [e]
      rcases hk with rfl | rfl | rfl | rfl | rfl | rfl | rfl
      · exact array_i64 hl hm x
      · exact bytes_i64 hl hm t
      · exact table_i64 hl hm x
      · exact join_i64 hl hm x y
      · exact copy_i64 hl hm x
      · exact escape_i64 hl hm x
      · exact keep_i64 hl hm x
    by_cases hv : kind = 9 ∨ kind = 12 ∨ kind = 15
    · have e : handlesQ ⟨kind, x, y, k, v, t⟩ (s.askQ ⟨kind, x, y, k, v, t⟩) = ((s.askQ ⟨kind, x, y, k, v, t⟩).v.2, (s.askQ ⟨kind, x, y, k, v, t⟩).v.1 == 2) := by
        simp only [handlesQ]
        rw [if_neg (by simp [he]), if_neg hk, if_pos hv]
      rw [e] at h ⊢
      have h2 : (s.askQ ⟨kind, x, y, k, v, t⟩).v.1 = 2 := by simpa using h
      rcases hv with rfl | rfl | rfl
      · exact get_i64 hl hm x y h2
      · exact find_i64 hl hm x k h2
      · exact key_i64 hl hm x y h2
    · have e : handlesQ ⟨kind, x, y, k, v, t⟩ (s.askQ ⟨kind, x, y, k, v, t⟩) = (0, false) := by
        simp only [handlesQ]
        rw [if_neg (by simp [he]), if_neg hk, if_neg hv]
      rw [e]; exact i64_0
  · have e : handlesQ ⟨kind, x, y, k, v, t⟩ (s.askQ ⟨kind, x, y, k, v, t⟩) = (0, false) := by simp [handlesQ, he]
    rw [e]; exact i64_0
end Go.Proofs.Ytfoncalkgmeklaa

/- Lists of a statement's own, beside the heap that it plays on. -/
namespace Go.Proofs.Ytfoncalkgmeklaa
open Go.RowKit

theorem Newer.chgS {w w1 w2 : World} {F S : List Nat} (h : Newer w w1 F) (k : Chg S w1 w2) (hS : ∀ x ∈ S, w.heap.size ≤ x) : Newer w w2 F := ⟨h.1.trans_new k (fun x hx => .inr (hS x hx)), h.2⟩
/-- A list of numbers that was made since w0, and is no part of the heap. -/
structure Lst (w0 w : World) (a : Option Addr) (n c : Nat) (l : List Int) (F : List Nat) : Prop where
  own : w.ownsRow 0 3 1 (.slice a n c) n (ints l)
  len : l.length = n
  out : ∀ x ∈ ab a, x ∉ F ∧ w0.heap.size ≤ x
theorem Lst.nil (w0 w : World) (F : List Nat) : Lst w0 w none 0 0 [] F := ⟨World.ownsRow_nil _ _ _ _, rfl, by simp [ab]⟩
theorem Lst.chg {w0 w w' : World} {a : Option Addr} {n c : Nat} {l : List Int} {F S : List Nat} (h : Lst w0 w a n c l F) (k : Chg S w w') (hS : ∀ x ∈ ab a, x ∉ S) : Lst w0 w' a n c l F :=
  ⟨owns_chg h.own k (fun g hg => hS g (ownBlock_ab hg)), h.len, h.out⟩
theorem Lst.stp {w0 w w' : World} {a : Option Addr} {n c : Nat} {l : List Int} {F F' : List Nat} (h : Lst w0 w a n c l F) (st : Stp F w F' w') : Lst w0 w' a n c l F' :=
  ⟨owns_chg h.own st.chg (fun g hg => (h.out g (ownBlock_ab hg)).1), h.len, fun x hx => ⟨fun hm => by
    rcases st.foot x hm with h8 | h8
    · exact (h.out x hx).1 h8
    · have := own_lt h.own x hx; omega, (h.out x hx).2⟩⟩
theorem Lst.at {w0 w : World} {a : Option Addr} {n c : Nat} {l : List Int} {F : List Nat} (h : Lst w0 w a n c l F) : IntsAt w a l := fun h0 => by
  have ho := h.own
  obtain ⟨ad, e, hl, hc⟩ := owns_src ho (by rw [← h.len]; exact h0)
  subst e
  rcases ho.2 with ⟨h2, _⟩ | ⟨g, cap, cur, hv, _⟩
  · cases h2
  · cases hv
    exact ⟨g, 0, rfl, hl, fun j x hj => by
      have := hc j (.int .i64 x) (by simp [ints, hj])
      simpa [addr_add] using this⟩
theorem Lst.foot {w0 w : World} {a : Option Addr} {n c : Nat} {l : List Int} {F : List Nat} (h : Lst w0 w a n c l F) : ∀ ad, a = some ad → ad.block ∉ F := fun ad e => (h.out ad.block (by rw [e]; simp [ab])).1
/-- A number more. -/
theorem Lst.push {w0 w w1 : World} {a : Option Addr} {n c : Nat} {l : List Int} {F : List Nat} (h : Lst w0 w a n c l F) (hF : ∀ b ∈ F, b < w.heap.size) (h0 : w0.heap.size ≤ w.heap.size) (o : Obj) {x : Int} {va : Option Addr} {cap H : Nat}
    (ho : w1.ownsRow 0 3 1 (.slice va (n + 1) cap) (n + 1) (ints l ++ ints [x])) (hg : (w.alloc o).grownBy w1 (Value.slice a n c).ownBlock) (hH : w.heap.size ≤ H)
    (hat : (Value.slice va (n + 1) cap).ownBlock = (Value.slice a n c).ownBlock ∨ (Value.slice va (n + 1) cap).ownBlock = some H) :
    Lst w0 w1 va (n + 1) cap (l ++ [x]) F ∧ Chg (ab a) w w1 := by
  have k1 : Chg (ab a) w w1 := grown_ab (S := []) ((Chg.refl [] w).alloc o) hg
  refine ⟨⟨by rw [ints_append]; exact ho, by simp [h.len], fun y hy => ?_⟩, k1⟩
  rcases at_ab hH hat y hy with h1 | h1
  · exact h.out y h1
  · exact ⟨fun hm => by have := hF y hm; omega, by omega⟩
end Go.Proofs.Ytfoncalkgmeklaa

import Derived.Test.YtfoncalkgmeklaaXwM15

/- changed: the calls that answer an error alone. (Written by wip/genkeep.py.) -/
namespace Go.Proofs.Ytfoncalkgmeklaa
open Go.RowKit

/-- A function of a heap and a step that answers an error alone. -/
def KCall1 (G : World → Nat → R → List Nat → Prop) (f : FuncId) (bh : Nat) (o : LOp) (s : R) (er : Int) (s' : R) : Prop :=
  ∀ w F, G w bh s F → (∀ b ∈ F, b < w.heap.size) → Calls Try.prog f #[.pointer (some ⟨bh, 0, none⟩), o.val] w fun e w' => ∃ F', e = .returned (.int .i64 er) ∧ G w' bh s' F' ∧ (∀ b ∈ F', b < w'.heap.size) ∧ Stp F w F' w'
theorem Stp.pre {F F' : List Nat} {w w1 w' : World} (k : Chg [] w w1) (h : Stp F w1 F' w') : Stp F w F' w' := (Stp.of_chg k).trans h

set_option maxRecDepth 100000 in
set_option maxHeartbeats 4000000 in
theorem changed_set {G : World → Nat → R → List Nat → Prop} (hG : Stays G) {bh : Nat} {s : R} (x y : Int) (k v : Int × Int) (t : ByteArray) (er : Int) (s' : R) (hp : PCall1 G 62 bh [.int .i64 x, .int .i64 y, .agg #[.int .i64 v.1, .int .i64 v.2]] s er s') : KCall1 G 44 bh ⟨10, x, y, k, v, t⟩ s er s' := by
  intro w F hg hlt
  unfold LOp.val
  have hch : Chg [] w (w.alloc (.cells (LOp.cells ⟨10, x, y, k, v, t⟩).toArray 35)) := ((Chg.refl [] w).alloc _)
  have hbx : Blk (w.alloc (.cells (LOp.cells ⟨10, x, y, k, v, t⟩).toArray 35)) w.heap.size (LOp.cells ⟨10, x, y, k, v, t⟩) 35 := (Blk.new w _ _)
  have hpc : Hid (Calls Try.prog 62 #[.pointer (some ⟨bh, 0, none⟩), .int .i64 x, .int .i64 y, .agg #[.int .i64 v.1, .int .i64 v.2]] (w.alloc (.cells (LOp.cells ⟨10, x, y, k, v, t⟩).toArray 35)) fun e w' => ∃ F', e = .returned (.int .i64 er) ∧ G w' bh s' F' ∧ (∀ b ∈ F', b < w'.heap.size) ∧ Stp F (w.alloc (.cells (LOp.cells ⟨10, x, y, k, v, t⟩).toArray 35)) F' w') := hp _ _ (hG [] _ _ _ _ _ hg hch (by simp))
  have HG := hide hg; have HLT := hide hlt; have HCH := hide hch; have HBX := hide hbx; clear hg hlt hch hbx hp
  go_enter Try.func44, Try.ntmps44
  go_wp2_with (go_at_call 62; refine (unhide hpc).mono ?_; rintro e w2 ⟨F2, rfl, hg2, hl2, st2⟩; have hc2 := st2.chg; have HG2 := hide hg2; have HL2 := hide hl2; have ST2 := hide st2; clear hg2 hl2 st2)
  go_ret
  exact ⟨F2, by simp, unhide HG2, unhide HL2, (unhide ST2).pre (unhide HCH)⟩

set_option maxRecDepth 100000 in
set_option maxHeartbeats 4000000 in
theorem changed_put {G : World → Nat → R → List Nat → Prop} (hG : Stays G) {bh : Nat} {s : R} (x y : Int) (k v : Int × Int) (t : ByteArray) (er : Int) (s' : R) (hp : PCall1 G 25 bh [.int .i64 x, .agg #[.int .i64 k.1, .int .i64 k.2], .agg #[.int .i64 v.1, .int .i64 v.2]] s er s') : KCall1 G 44 bh ⟨13, x, y, k, v, t⟩ s er s' := by
  intro w F hg hlt
  unfold LOp.val
  have hch : Chg [] w (w.alloc (.cells (LOp.cells ⟨13, x, y, k, v, t⟩).toArray 35)) := ((Chg.refl [] w).alloc _)
  have hbx : Blk (w.alloc (.cells (LOp.cells ⟨13, x, y, k, v, t⟩).toArray 35)) w.heap.size (LOp.cells ⟨13, x, y, k, v, t⟩) 35 := (Blk.new w _ _)
  have hpc : Hid (Calls Try.prog 25 #[.pointer (some ⟨bh, 0, none⟩), .int .i64 x, .agg #[.int .i64 k.1, .int .i64 k.2], .agg #[.int .i64 v.1, .int .i64 v.2]] (w.alloc (.cells (LOp.cells ⟨13, x, y, k, v, t⟩).toArray 35)) fun e w' => ∃ F', e = .returned (.int .i64 er) ∧ G w' bh s' F' ∧ (∀ b ∈ F', b < w'.heap.size) ∧ Stp F (w.alloc (.cells (LOp.cells ⟨13, x, y, k, v, t⟩).toArray 35)) F' w') := hp _ _ (hG [] _ _ _ _ _ hg hch (by simp))
  have HG := hide hg; have HLT := hide hlt; have HCH := hide hch; have HBX := hide hbx; clear hg hlt hch hbx hp
  go_enter Try.func44, Try.ntmps44
  go_wp2_with (go_at_call 25; refine (unhide hpc).mono ?_; rintro e w2 ⟨F2, rfl, hg2, hl2, st2⟩; have hc2 := st2.chg; have HG2 := hide hg2; have HL2 := hide hl2; have ST2 := hide st2; clear hg2 hl2 st2)
  go_ret
  exact ⟨F2, by simp, unhide HG2, unhide HL2, (unhide ST2).pre (unhide HCH)⟩

set_option maxRecDepth 100000 in
set_option maxHeartbeats 4000000 in
theorem changed_cut {G : World → Nat → R → List Nat → Prop} (hG : Stays G) {bh : Nat} {s : R} (x y : Int) (k v : Int × Int) (t : ByteArray) (er : Int) (s' : R) (hp : PCall1 G 27 bh [.int .i64 x, .agg #[.int .i64 k.1, .int .i64 k.2]] s er s') : KCall1 G 44 bh ⟨14, x, y, k, v, t⟩ s er s' := by
  intro w F hg hlt
  unfold LOp.val
  have hch : Chg [] w (w.alloc (.cells (LOp.cells ⟨14, x, y, k, v, t⟩).toArray 35)) := ((Chg.refl [] w).alloc _)
  have hbx : Blk (w.alloc (.cells (LOp.cells ⟨14, x, y, k, v, t⟩).toArray 35)) w.heap.size (LOp.cells ⟨14, x, y, k, v, t⟩) 35 := (Blk.new w _ _)
  have hpc : Hid (Calls Try.prog 27 #[.pointer (some ⟨bh, 0, none⟩), .int .i64 x, .agg #[.int .i64 k.1, .int .i64 k.2]] (w.alloc (.cells (LOp.cells ⟨14, x, y, k, v, t⟩).toArray 35)) fun e w' => ∃ F', e = .returned (.int .i64 er) ∧ G w' bh s' F' ∧ (∀ b ∈ F', b < w'.heap.size) ∧ Stp F (w.alloc (.cells (LOp.cells ⟨14, x, y, k, v, t⟩).toArray 35)) F' w') := hp _ _ (hG [] _ _ _ _ _ hg hch (by simp))
  have HG := hide hg; have HLT := hide hlt; have HCH := hide hch; have HBX := hide hbx; clear hg hlt hch hbx hp
  go_enter Try.func44, Try.ntmps44
  go_wp2_with (go_at_call 27; refine (unhide hpc).mono ?_; rintro e w2 ⟨F2, rfl, hg2, hl2, st2⟩; have hc2 := st2.chg; have HG2 := hide hg2; have HL2 := hide hl2; have ST2 := hide st2; clear hg2 hl2 st2)
  go_ret
  exact ⟨F2, by simp, unhide HG2, unhide HL2, (unhide ST2).pre (unhide HCH)⟩

set_option maxRecDepth 100000 in
set_option maxHeartbeats 4000000 in
theorem changed_close {G : World → Nat → R → List Nat → Prop} (hG : Stays G) {bh : Nat} {s : R} (x y : Int) (k v : Int × Int) (t : ByteArray) (er : Int) (s' : R) (hp : PCall1 G 19 bh [.int .i64 x] s er s') : KCall1 G 44 bh ⟨17, x, y, k, v, t⟩ s er s' := by
  intro w F hg hlt
  unfold LOp.val
  have hch : Chg [] w (w.alloc (.cells (LOp.cells ⟨17, x, y, k, v, t⟩).toArray 35)) := ((Chg.refl [] w).alloc _)
  have hbx : Blk (w.alloc (.cells (LOp.cells ⟨17, x, y, k, v, t⟩).toArray 35)) w.heap.size (LOp.cells ⟨17, x, y, k, v, t⟩) 35 := (Blk.new w _ _)
  have hpc : Hid (Calls Try.prog 19 #[.pointer (some ⟨bh, 0, none⟩), .int .i64 x] (w.alloc (.cells (LOp.cells ⟨17, x, y, k, v, t⟩).toArray 35)) fun e w' => ∃ F', e = .returned (.int .i64 er) ∧ G w' bh s' F' ∧ (∀ b ∈ F', b < w'.heap.size) ∧ Stp F (w.alloc (.cells (LOp.cells ⟨17, x, y, k, v, t⟩).toArray 35)) F' w') := hp _ _ (hG [] _ _ _ _ _ hg hch (by simp))
  have HG := hide hg; have HLT := hide hlt; have HCH := hide hch; have HBX := hide hbx; clear hg hlt hch hbx hp
  go_enter Try.func44, Try.ntmps44
  go_wp2_with (go_at_call 19; refine (unhide hpc).mono ?_; rintro e w2 ⟨F2, rfl, hg2, hl2, st2⟩; have hc2 := st2.chg; have HG2 := hide hg2; have HL2 := hide hl2; have ST2 := hide st2; clear hg2 hl2 st2)
  go_ret
  exact ⟨F2, by simp, unhide HG2, unhide HL2, (unhide ST2).pre (unhide HCH)⟩

set_option maxRecDepth 100000 in
set_option maxHeartbeats 4000000 in
theorem changed_release {G : World → Nat → R → List Nat → Prop} (hG : Stays G) {bh : Nat} {s : R} (x y : Int) (k v : Int × Int) (t : ByteArray) (er : Int) (s' : R) (hp : PCall1 G 78 bh [.int .i64 x] s er s') : KCall1 G 44 bh ⟨20, x, y, k, v, t⟩ s er s' := by
  intro w F hg hlt
  unfold LOp.val
  have hch : Chg [] w (w.alloc (.cells (LOp.cells ⟨20, x, y, k, v, t⟩).toArray 35)) := ((Chg.refl [] w).alloc _)
  have hbx : Blk (w.alloc (.cells (LOp.cells ⟨20, x, y, k, v, t⟩).toArray 35)) w.heap.size (LOp.cells ⟨20, x, y, k, v, t⟩) 35 := (Blk.new w _ _)
  have hpc : Hid (Calls Try.prog 78 #[.pointer (some ⟨bh, 0, none⟩), .int .i64 x] (w.alloc (.cells (LOp.cells ⟨20, x, y, k, v, t⟩).toArray 35)) fun e w' => ∃ F', e = .returned (.int .i64 er) ∧ G w' bh s' F' ∧ (∀ b ∈ F', b < w'.heap.size) ∧ Stp F (w.alloc (.cells (LOp.cells ⟨20, x, y, k, v, t⟩).toArray 35)) F' w') := hp _ _ (hG [] _ _ _ _ _ hg hch (by simp))
  have HG := hide hg; have HLT := hide hlt; have HCH := hide hch; have HBX := hide hbx; clear hg hlt hch hbx hp
  go_enter Try.func44, Try.ntmps44
  go_wp2_with (go_at_call 78; refine (unhide hpc).mono ?_; rintro e w2 ⟨F2, rfl, hg2, hl2, st2⟩; have hc2 := st2.chg; have HG2 := hide hg2; have HL2 := hide hl2; have ST2 := hide st2; clear hg2 hl2 st2)
  go_ret
  exact ⟨F2, by simp, unhide HG2, unhide HL2, (unhide ST2).pre (unhide HCH)⟩

set_option maxRecDepth 100000 in
set_option maxHeartbeats 4000000 in
theorem changed_collect {G : World → Nat → R → List Nat → Prop} (hG : Stays G) {bh : Nat} {s : R} (x y : Int) (k v : Int × Int) (t : ByteArray) (er : Int) (s' : R) (hp : PCall1 G 28 bh [] s er s') : KCall1 G 44 bh ⟨21, x, y, k, v, t⟩ s er s' := by
  intro w F hg hlt
  unfold LOp.val
  have hch : Chg [] w (w.alloc (.cells (LOp.cells ⟨21, x, y, k, v, t⟩).toArray 35)) := ((Chg.refl [] w).alloc _)
  have hbx : Blk (w.alloc (.cells (LOp.cells ⟨21, x, y, k, v, t⟩).toArray 35)) w.heap.size (LOp.cells ⟨21, x, y, k, v, t⟩) 35 := (Blk.new w _ _)
  have hpc : Hid (Calls Try.prog 28 #[.pointer (some ⟨bh, 0, none⟩)] (w.alloc (.cells (LOp.cells ⟨21, x, y, k, v, t⟩).toArray 35)) fun e w' => ∃ F', e = .returned (.int .i64 er) ∧ G w' bh s' F' ∧ (∀ b ∈ F', b < w'.heap.size) ∧ Stp F (w.alloc (.cells (LOp.cells ⟨21, x, y, k, v, t⟩).toArray 35)) F' w') := hp _ _ (hG [] _ _ _ _ _ hg hch (by simp))
  have HG := hide hg; have HLT := hide hlt; have HCH := hide hch; have HBX := hide hbx; clear hg hlt hch hbx hp
  go_enter Try.func44, Try.ntmps44
  go_wp2_with (go_at_call 28; refine (unhide hpc).mono ?_; rintro e w2 ⟨F2, rfl, hg2, hl2, st2⟩; have hc2 := st2.chg; have HG2 := hide hg2; have HL2 := hide hl2; have ST2 := hide st2; clear hg2 hl2 st2)
  go_ret
  exact ⟨F2, by simp, unhide HG2, unhide HL2, (unhide ST2).pre (unhide HCH)⟩

end Go.Proofs.Ytfoncalkgmeklaa

/- made and ask: each step plays the document. (Written by wip/genkeep.py.) -/
namespace Go.Proofs.Ytfoncalkgmeklaa
open Go.RowKit

/-- An answer: the error, a number, a bool, bytes, a value. -/
structure Ans where
  e : Int
  n : Int
  b : Bool
  s : ByteArray
  v : Int × Int
def Ans.cells (a : Ans) : List Value := [.int .i64 a.e, .int .i64 a.n, .bool a.b, .string a.s, .int .i64 a.v.1, .int .i64 a.v.2]
def Ans.val (a : Ans) : Value := .agg #[.int .i64 a.e, .int .i64 a.n, .bool a.b, .string a.s, .int .i64 a.v.1, .int .i64 a.v.2]
def Ans.nil : Ans := ⟨0, 0, false, ⟨#[]⟩, (0, 0)⟩
/-- A function of a heap and a step that answers an answer. -/
def KCallA (G : World → Nat → R → List Nat → Prop) (f : FuncId) (bh : Nat) (o : LOp) (s : R) (a : Ans) (s' : R) : Prop :=
  ∀ w F, G w bh s F → (∀ b ∈ F, b < w.heap.size) → Calls Try.prog f #[.pointer (some ⟨bh, 0, none⟩), o.val] w fun e w' => ∃ F', e = .returned a.val ∧ G w' bh s' F' ∧ (∀ b ∈ F', b < w'.heap.size) ∧ Stp F w F' w'
def Ans.put (w : World) (g : Nat) (a : Ans) : World := (((((w.setCell ⟨g, 0, none⟩ (.int .i64 a.e)).setCell ⟨g, 1, none⟩ (.int .i64 a.n)).setCell ⟨g, 2, none⟩ (.bool a.b)).setCell ⟨g, 3, none⟩ (.string a.s)).setCell ⟨g, 4, none⟩ (.int .i64 a.v.1)).setCell ⟨g, 5, none⟩ (.int .i64 a.v.2)
theorem Ans.put_chg (w : World) (g : Nat) (a : Ans) : Chg [g] w (a.put w g) := by
  unfold Ans.put
  exact ((((((Chg.refl _ w).setCell (.inl (by simp)) _).setCell (.inl (by simp)) _).setCell (.inl (by simp)) _).setCell (.inl (by simp)) _).setCell (.inl (by simp)) _).setCell (.inl (by simp)) _
set_option maxHeartbeats 1000000 in
theorem Ans.put_blk {w : World} {g : Nat} {a c : Ans} {T : TypeId} (h : Blk w g c.cells T) : Blk (a.put w g) g a.cells T := by
  have := (((((h.setCell 0 (.int .i64 a.e)).setCell 1 (.int .i64 a.n)).setCell 2 (.bool a.b)).setCell 3 (.string a.s)).setCell 4 (.int .i64 a.v.1)).setCell 5 (.int .i64 a.v.2)
  exact this
/-- The answer is laid into the result. -/
theorem ans_fin {G : World → Nat → R → List Nat → Prop} (hG : Stays G) {w w1 w2 wx : World} {bh : Nat} {s' : R} {F F2 : List Nat} {T : TypeId} (hch : Chg [] w w1) (h3 : w.heap.size + 1 + 1 < w1.heap.size) (hlt : ∀ b ∈ F, b < w.heap.size) (b1 : Blk w2 (w.heap.size + 1) Ans.nil.cells T) (hg : G w2 bh s' F2) (hl2 : ∀ b ∈ F2, b < w2.heap.size) (st : Stp F w1 F2 w2) (kx : Chg [w.heap.size + 1 + 1] w2 wx) (a : Ans) :
    Blk (a.put wx (w.heap.size + 1)) (w.heap.size + 1) a.cells T ∧ G (a.put wx (w.heap.size + 1)) bh s' F2 ∧ (∀ b ∈ F2, b < (a.put wx (w.heap.size + 1)).heap.size) ∧ Stp F w F2 (a.put wx (w.heap.size + 1)) := by
  have hn : ∀ b ∈ F2, b ≠ w.heap.size + 1 ∧ b ≠ w.heap.size + 1 + 1 := fun b hb => by
    rcases st.foot b hb with h8 | h8
    · have := hlt b h8; omega
    · omega
  have k := a.put_chg wx (w.heap.size + 1)
  have s0 := st.pre hch
  have c2 : Chg F w wx := s0.chg.trans_new kx (fun x hx => .inr (by simp at hx; omega))
  exact ⟨Ans.put_blk (b1.chg kx (by simp)), hG _ _ _ _ _ _ (hG _ _ _ _ _ _ hg kx (fun b hb hm => (hn b hb).2 (by simpa using hm))) k (fun b hb hm => (hn b hb).1 (by simpa using hm)), fun b hb => Nat.lt_of_lt_of_le (hl2 b hb) (Nat.le_trans kx.size k.size), c2.trans_new k (fun x hx => .inr (by simp at hx; omega)), s0.foot⟩
theorem ans_at {w : World} {g : Nat} {a : Ans} {T : TypeId} (h : Blk w g a.cells T) : w.cell? ⟨g, 0, none⟩ = some (.int .i64 a.e) ∧ w.cell? ⟨g, 1, none⟩ = some (.int .i64 a.n) ∧ w.cell? ⟨g, 2, none⟩ = some (.bool a.b) ∧ w.cell? ⟨g, 3, none⟩ = some (.string a.s) ∧ w.cell? ⟨g, 4, none⟩ = some (.int .i64 a.v.1) ∧ w.cell? ⟨g, 5, none⟩ = some (.int .i64 a.v.2) :=
  ⟨h.cell_of rfl, h.cell_of rfl, h.cell_of rfl, h.cell_of rfl, h.cell_of rfl, h.cell_of rfl⟩
/-- The step's box, the result, the variable. -/
def kw (w : World) (o : LOp) : World := (((w.alloc (.cells o.cells.toArray 35)).alloc (.cells Ans.nil.cells.toArray 32)).alloc (.cells Ans.nil.cells.toArray 32))
theorem kw_chg (w : World) (o : LOp) : Chg [] w (kw w o) := (((Chg.refl [] w).alloc _).alloc _).alloc _
theorem kw_box (w : World) (o : LOp) : Blk (kw w o) w.heap.size o.cells 35 := ((Blk.new w _ _).alloc _).alloc _
theorem kw_res (w : World) (o : LOp) : Blk (kw w o) (w.heap.size + 1) Ans.nil.cells 32 := by
  have := (Blk.new (w.alloc (.cells o.cells.toArray 35)) Ans.nil.cells 32).alloc (.cells Ans.nil.cells.toArray 32)
  rw [size_alloc] at this
  exact this
theorem kw_var (w : World) (o : LOp) : Blk (kw w o) (w.heap.size + 1 + 1) Ans.nil.cells 32 := by
  have := Blk.new ((w.alloc (.cells o.cells.toArray 35)).alloc (.cells Ans.nil.cells.toArray 32)) Ans.nil.cells 32
  rw [size_alloc, size_alloc] at this
  exact this
theorem kw_size (w : World) (o : LOp) : w.heap.size + 1 + 1 < (kw w o).heap.size := (kw_var w o).lt

set_option maxRecDepth 100000 in
set_option maxHeartbeats 4000000 in
theorem made_array {G : World → Nat → R → List Nat → Prop} (hG : Stays G) {bh : Nat} {s : R} (x y : Int) (k v : Int × Int) (t : ByteArray) (a : Int) (er : Int) (s' : R) (hp : PCall G 61 bh [.int .i64 x] s (.int .i64 a) er s') : KCallA G 33 bh ⟨1, x, y, k, v, t⟩ s ⟨er, a, false, ⟨#[]⟩, (0, 0)⟩ s' := by
  intro w F hg hlt
  unfold LOp.val
  have hpc : Hid (Calls Try.prog 61 #[.pointer (some ⟨bh, 0, none⟩), .int .i64 x] (kw w ⟨1, x, y, k, v, t⟩) fun e w' => ∃ F', e = .returned (.tuple #[.int .i64 a, .int .i64 er]) ∧ G w' bh s' F' ∧ (∀ b ∈ F', b < w'.heap.size) ∧ Stp F (kw w ⟨1, x, y, k, v, t⟩) F' w') := hp _ _ (hG [] _ _ _ _ _ hg (kw_chg w _) (by simp))
  have HLT := hide hlt; have HCH := hide (kw_chg w ⟨1, x, y, k, v, t⟩); have HSZ := hide (kw_size w ⟨1, x, y, k, v, t⟩); have HV1 := hide (kw_res w ⟨1, x, y, k, v, t⟩); have HV2 := hide (kw_var w ⟨1, x, y, k, v, t⟩); clear hg hlt hp
  go_enter Try.func33, Try.ntmps33
  go_wp2_with (go_at_call 61; refine (unhide hpc).mono ?_; rintro e w2 ⟨F2, rfl, hg2, hl2, st2⟩; have HG2 := hide hg2; have HL2 := hide hl2; have ST2 := hide st2; have b2 := (unhide HV2).chg st2.chg (fun hm => by have := unhide HLT _ hm; omega); have b1 := (unhide HV1).chg st2.chg (fun hm => by have := unhide HLT _ hm; omega); obtain ⟨cu0, cu1, cu2, cu3, cu4, cu5⟩ := ans_at b2; obtain ⟨cr0, cr1, cr2, cr3, cr4, cr5⟩ := ans_at b1; have fu0 := b2.frozen 0; have fu1 := b2.frozen 1; have fu2 := b2.frozen 2; have fu3 := b2.frozen 3; have fu4 := b2.frozen 4; have fu5 := b2.frozen 5; have fr0 := b1.frozen 0; have fr1 := b1.frozen 1; have fr2 := b1.frozen 2; have fr3 := b1.frozen 3; have fr4 := b1.frozen 4; have fr5 := b1.frozen 5; have B1 := hide b1; clear hg2 hl2 st2 b1 b2)
  have kx : Chg [w.heap.size + 1 + 1] w2 ((w2.setCell ⟨w.heap.size + 1 + 1, 1, none⟩ (.int .i64 a)).setCell ⟨w.heap.size + 1 + 1, 0, none⟩ (.int .i64 er)) := (((Chg.refl _ w2).setCell (.inl (by simp)) _).setCell (.inl (by simp)) _)
  obtain ⟨rb, rg, rl, rs⟩ := ans_fin hG (unhide HCH) (unhide HSZ) (unhide HLT) (unhide B1) (unhide HG2) (unhide HL2) (unhide ST2) kx ⟨er, a, false, ⟨#[]⟩, (0, 0)⟩
  obtain ⟨q0, q1, q2, q3, q4, q5⟩ := ans_at rb
  simp only [Ans.put] at q0 q1 q2 q3 q4 q5
  exact bodyPost_ret (v := Ans.val ⟨er, a, false, ⟨#[]⟩, (0, 0)⟩) (by simp [results, Try.results33, go_sem, Ans.val, Ans.nil, q0, q1, q2, q3, q4, q5]) rfl ⟨F2, rfl, rg, rl, rs⟩

set_option maxRecDepth 100000 in
set_option maxHeartbeats 4000000 in
theorem made_bytes {G : World → Nat → R → List Nat → Prop} (hG : Stays G) {bh : Nat} {s : R} (x y : Int) (k v : Int × Int) (t : ByteArray) (a : Int) (er : Int) (s' : R) (hp : PCall G 64 bh [.string t] s (.int .i64 a) er s') : KCallA G 33 bh ⟨2, x, y, k, v, t⟩ s ⟨er, a, false, ⟨#[]⟩, (0, 0)⟩ s' := by
  intro w F hg hlt
  unfold LOp.val
  have hpc : Hid (Calls Try.prog 64 #[.pointer (some ⟨bh, 0, none⟩), .string t] (kw w ⟨2, x, y, k, v, t⟩) fun e w' => ∃ F', e = .returned (.tuple #[.int .i64 a, .int .i64 er]) ∧ G w' bh s' F' ∧ (∀ b ∈ F', b < w'.heap.size) ∧ Stp F (kw w ⟨2, x, y, k, v, t⟩) F' w') := hp _ _ (hG [] _ _ _ _ _ hg (kw_chg w _) (by simp))
  have HLT := hide hlt; have HCH := hide (kw_chg w ⟨2, x, y, k, v, t⟩); have HSZ := hide (kw_size w ⟨2, x, y, k, v, t⟩); have HV1 := hide (kw_res w ⟨2, x, y, k, v, t⟩); have HV2 := hide (kw_var w ⟨2, x, y, k, v, t⟩); clear hg hlt hp
  go_enter Try.func33, Try.ntmps33
  go_wp2_with (go_at_call 64; refine (unhide hpc).mono ?_; rintro e w2 ⟨F2, rfl, hg2, hl2, st2⟩; have HG2 := hide hg2; have HL2 := hide hl2; have ST2 := hide st2; have b2 := (unhide HV2).chg st2.chg (fun hm => by have := unhide HLT _ hm; omega); have b1 := (unhide HV1).chg st2.chg (fun hm => by have := unhide HLT _ hm; omega); obtain ⟨cu0, cu1, cu2, cu3, cu4, cu5⟩ := ans_at b2; obtain ⟨cr0, cr1, cr2, cr3, cr4, cr5⟩ := ans_at b1; have fu0 := b2.frozen 0; have fu1 := b2.frozen 1; have fu2 := b2.frozen 2; have fu3 := b2.frozen 3; have fu4 := b2.frozen 4; have fu5 := b2.frozen 5; have fr0 := b1.frozen 0; have fr1 := b1.frozen 1; have fr2 := b1.frozen 2; have fr3 := b1.frozen 3; have fr4 := b1.frozen 4; have fr5 := b1.frozen 5; have B1 := hide b1; clear hg2 hl2 st2 b1 b2)
  have kx : Chg [w.heap.size + 1 + 1] w2 ((w2.setCell ⟨w.heap.size + 1 + 1, 1, none⟩ (.int .i64 a)).setCell ⟨w.heap.size + 1 + 1, 0, none⟩ (.int .i64 er)) := (((Chg.refl _ w2).setCell (.inl (by simp)) _).setCell (.inl (by simp)) _)
  obtain ⟨rb, rg, rl, rs⟩ := ans_fin hG (unhide HCH) (unhide HSZ) (unhide HLT) (unhide B1) (unhide HG2) (unhide HL2) (unhide ST2) kx ⟨er, a, false, ⟨#[]⟩, (0, 0)⟩
  obtain ⟨q0, q1, q2, q3, q4, q5⟩ := ans_at rb
  simp only [Ans.put] at q0 q1 q2 q3 q4 q5
  exact bodyPost_ret (v := Ans.val ⟨er, a, false, ⟨#[]⟩, (0, 0)⟩) (by simp [results, Try.results33, go_sem, Ans.val, Ans.nil, q0, q1, q2, q3, q4, q5]) rfl ⟨F2, rfl, rg, rl, rs⟩

set_option maxRecDepth 100000 in
set_option maxHeartbeats 4000000 in
theorem made_table {G : World → Nat → R → List Nat → Prop} (hG : Stays G) {bh : Nat} {s : R} (x y : Int) (k v : Int × Int) (t : ByteArray) (a : Int) (er : Int) (s' : R) (hp : PCall G 23 bh [.int .i64 x] s (.int .i64 a) er s') : KCallA G 33 bh ⟨3, x, y, k, v, t⟩ s ⟨er, a, false, ⟨#[]⟩, (0, 0)⟩ s' := by
  intro w F hg hlt
  unfold LOp.val
  have hpc : Hid (Calls Try.prog 23 #[.pointer (some ⟨bh, 0, none⟩), .int .i64 x] (kw w ⟨3, x, y, k, v, t⟩) fun e w' => ∃ F', e = .returned (.tuple #[.int .i64 a, .int .i64 er]) ∧ G w' bh s' F' ∧ (∀ b ∈ F', b < w'.heap.size) ∧ Stp F (kw w ⟨3, x, y, k, v, t⟩) F' w') := hp _ _ (hG [] _ _ _ _ _ hg (kw_chg w _) (by simp))
  have HLT := hide hlt; have HCH := hide (kw_chg w ⟨3, x, y, k, v, t⟩); have HSZ := hide (kw_size w ⟨3, x, y, k, v, t⟩); have HV1 := hide (kw_res w ⟨3, x, y, k, v, t⟩); have HV2 := hide (kw_var w ⟨3, x, y, k, v, t⟩); clear hg hlt hp
  go_enter Try.func33, Try.ntmps33
  go_wp2_with (go_at_call 23; refine (unhide hpc).mono ?_; rintro e w2 ⟨F2, rfl, hg2, hl2, st2⟩; have HG2 := hide hg2; have HL2 := hide hl2; have ST2 := hide st2; have b2 := (unhide HV2).chg st2.chg (fun hm => by have := unhide HLT _ hm; omega); have b1 := (unhide HV1).chg st2.chg (fun hm => by have := unhide HLT _ hm; omega); obtain ⟨cu0, cu1, cu2, cu3, cu4, cu5⟩ := ans_at b2; obtain ⟨cr0, cr1, cr2, cr3, cr4, cr5⟩ := ans_at b1; have fu0 := b2.frozen 0; have fu1 := b2.frozen 1; have fu2 := b2.frozen 2; have fu3 := b2.frozen 3; have fu4 := b2.frozen 4; have fu5 := b2.frozen 5; have fr0 := b1.frozen 0; have fr1 := b1.frozen 1; have fr2 := b1.frozen 2; have fr3 := b1.frozen 3; have fr4 := b1.frozen 4; have fr5 := b1.frozen 5; have B1 := hide b1; clear hg2 hl2 st2 b1 b2)
  have kx : Chg [w.heap.size + 1 + 1] w2 ((w2.setCell ⟨w.heap.size + 1 + 1, 1, none⟩ (.int .i64 a)).setCell ⟨w.heap.size + 1 + 1, 0, none⟩ (.int .i64 er)) := (((Chg.refl _ w2).setCell (.inl (by simp)) _).setCell (.inl (by simp)) _)
  obtain ⟨rb, rg, rl, rs⟩ := ans_fin hG (unhide HCH) (unhide HSZ) (unhide HLT) (unhide B1) (unhide HG2) (unhide HL2) (unhide ST2) kx ⟨er, a, false, ⟨#[]⟩, (0, 0)⟩
  obtain ⟨q0, q1, q2, q3, q4, q5⟩ := ans_at rb
  simp only [Ans.put] at q0 q1 q2 q3 q4 q5
  exact bodyPost_ret (v := Ans.val ⟨er, a, false, ⟨#[]⟩, (0, 0)⟩) (by simp [results, Try.results33, go_sem, Ans.val, Ans.nil, q0, q1, q2, q3, q4, q5]) rfl ⟨F2, rfl, rg, rl, rs⟩

set_option maxRecDepth 100000 in
set_option maxHeartbeats 4000000 in
theorem made_join {G : World → Nat → R → List Nat → Prop} (hG : Stays G) {bh : Nat} {s : R} (x y : Int) (k v : Int × Int) (t : ByteArray) (a : Int) (er : Int) (s' : R) (hp : PCall G 65 bh [.int .i64 x, .int .i64 y] s (.int .i64 a) er s') : KCallA G 33 bh ⟨22, x, y, k, v, t⟩ s ⟨er, a, false, ⟨#[]⟩, (0, 0)⟩ s' := by
  intro w F hg hlt
  unfold LOp.val
  have hpc : Hid (Calls Try.prog 65 #[.pointer (some ⟨bh, 0, none⟩), .int .i64 x, .int .i64 y] (kw w ⟨22, x, y, k, v, t⟩) fun e w' => ∃ F', e = .returned (.tuple #[.int .i64 a, .int .i64 er]) ∧ G w' bh s' F' ∧ (∀ b ∈ F', b < w'.heap.size) ∧ Stp F (kw w ⟨22, x, y, k, v, t⟩) F' w') := hp _ _ (hG [] _ _ _ _ _ hg (kw_chg w _) (by simp))
  have HLT := hide hlt; have HCH := hide (kw_chg w ⟨22, x, y, k, v, t⟩); have HSZ := hide (kw_size w ⟨22, x, y, k, v, t⟩); have HV1 := hide (kw_res w ⟨22, x, y, k, v, t⟩); have HV2 := hide (kw_var w ⟨22, x, y, k, v, t⟩); clear hg hlt hp
  go_enter Try.func33, Try.ntmps33
  go_wp2_with (go_at_call 65; refine (unhide hpc).mono ?_; rintro e w2 ⟨F2, rfl, hg2, hl2, st2⟩; have HG2 := hide hg2; have HL2 := hide hl2; have ST2 := hide st2; have b2 := (unhide HV2).chg st2.chg (fun hm => by have := unhide HLT _ hm; omega); have b1 := (unhide HV1).chg st2.chg (fun hm => by have := unhide HLT _ hm; omega); obtain ⟨cu0, cu1, cu2, cu3, cu4, cu5⟩ := ans_at b2; obtain ⟨cr0, cr1, cr2, cr3, cr4, cr5⟩ := ans_at b1; have fu0 := b2.frozen 0; have fu1 := b2.frozen 1; have fu2 := b2.frozen 2; have fu3 := b2.frozen 3; have fu4 := b2.frozen 4; have fu5 := b2.frozen 5; have fr0 := b1.frozen 0; have fr1 := b1.frozen 1; have fr2 := b1.frozen 2; have fr3 := b1.frozen 3; have fr4 := b1.frozen 4; have fr5 := b1.frozen 5; have B1 := hide b1; clear hg2 hl2 st2 b1 b2)
  have kx : Chg [w.heap.size + 1 + 1] w2 ((w2.setCell ⟨w.heap.size + 1 + 1, 1, none⟩ (.int .i64 a)).setCell ⟨w.heap.size + 1 + 1, 0, none⟩ (.int .i64 er)) := (((Chg.refl _ w2).setCell (.inl (by simp)) _).setCell (.inl (by simp)) _)
  obtain ⟨rb, rg, rl, rs⟩ := ans_fin hG (unhide HCH) (unhide HSZ) (unhide HLT) (unhide B1) (unhide HG2) (unhide HL2) (unhide ST2) kx ⟨er, a, false, ⟨#[]⟩, (0, 0)⟩
  obtain ⟨q0, q1, q2, q3, q4, q5⟩ := ans_at rb
  simp only [Ans.put] at q0 q1 q2 q3 q4 q5
  exact bodyPost_ret (v := Ans.val ⟨er, a, false, ⟨#[]⟩, (0, 0)⟩) (by simp [results, Try.results33, go_sem, Ans.val, Ans.nil, q0, q1, q2, q3, q4, q5]) rfl ⟨F2, rfl, rg, rl, rs⟩

set_option maxRecDepth 100000 in
set_option maxHeartbeats 4000000 in
theorem made_copy {G : World → Nat → R → List Nat → Prop} (hG : Stays G) {bh : Nat} {s : R} (x y : Int) (k v : Int × Int) (t : ByteArray) (a : Int) (er : Int) (s' : R) (hp : PCall G 66 bh [.int .i64 x] s (.int .i64 a) er s') : KCallA G 33 bh ⟨23, x, y, k, v, t⟩ s ⟨er, a, false, ⟨#[]⟩, (0, 0)⟩ s' := by
  intro w F hg hlt
  unfold LOp.val
  have hpc : Hid (Calls Try.prog 66 #[.pointer (some ⟨bh, 0, none⟩), .int .i64 x] (kw w ⟨23, x, y, k, v, t⟩) fun e w' => ∃ F', e = .returned (.tuple #[.int .i64 a, .int .i64 er]) ∧ G w' bh s' F' ∧ (∀ b ∈ F', b < w'.heap.size) ∧ Stp F (kw w ⟨23, x, y, k, v, t⟩) F' w') := hp _ _ (hG [] _ _ _ _ _ hg (kw_chg w _) (by simp))
  have HLT := hide hlt; have HCH := hide (kw_chg w ⟨23, x, y, k, v, t⟩); have HSZ := hide (kw_size w ⟨23, x, y, k, v, t⟩); have HV1 := hide (kw_res w ⟨23, x, y, k, v, t⟩); have HV2 := hide (kw_var w ⟨23, x, y, k, v, t⟩); clear hg hlt hp
  go_enter Try.func33, Try.ntmps33
  go_wp2_with (go_at_call 66; refine (unhide hpc).mono ?_; rintro e w2 ⟨F2, rfl, hg2, hl2, st2⟩; have HG2 := hide hg2; have HL2 := hide hl2; have ST2 := hide st2; have b2 := (unhide HV2).chg st2.chg (fun hm => by have := unhide HLT _ hm; omega); have b1 := (unhide HV1).chg st2.chg (fun hm => by have := unhide HLT _ hm; omega); obtain ⟨cu0, cu1, cu2, cu3, cu4, cu5⟩ := ans_at b2; obtain ⟨cr0, cr1, cr2, cr3, cr4, cr5⟩ := ans_at b1; have fu0 := b2.frozen 0; have fu1 := b2.frozen 1; have fu2 := b2.frozen 2; have fu3 := b2.frozen 3; have fu4 := b2.frozen 4; have fu5 := b2.frozen 5; have fr0 := b1.frozen 0; have fr1 := b1.frozen 1; have fr2 := b1.frozen 2; have fr3 := b1.frozen 3; have fr4 := b1.frozen 4; have fr5 := b1.frozen 5; have B1 := hide b1; clear hg2 hl2 st2 b1 b2)
  have kx : Chg [w.heap.size + 1 + 1] w2 ((w2.setCell ⟨w.heap.size + 1 + 1, 1, none⟩ (.int .i64 a)).setCell ⟨w.heap.size + 1 + 1, 0, none⟩ (.int .i64 er)) := (((Chg.refl _ w2).setCell (.inl (by simp)) _).setCell (.inl (by simp)) _)
  obtain ⟨rb, rg, rl, rs⟩ := ans_fin hG (unhide HCH) (unhide HSZ) (unhide HLT) (unhide B1) (unhide HG2) (unhide HL2) (unhide ST2) kx ⟨er, a, false, ⟨#[]⟩, (0, 0)⟩
  obtain ⟨q0, q1, q2, q3, q4, q5⟩ := ans_at rb
  simp only [Ans.put] at q0 q1 q2 q3 q4 q5
  exact bodyPost_ret (v := Ans.val ⟨er, a, false, ⟨#[]⟩, (0, 0)⟩) (by simp [results, Try.results33, go_sem, Ans.val, Ans.nil, q0, q1, q2, q3, q4, q5]) rfl ⟨F2, rfl, rg, rl, rs⟩

end Go.Proofs.Ytfoncalkgmeklaa

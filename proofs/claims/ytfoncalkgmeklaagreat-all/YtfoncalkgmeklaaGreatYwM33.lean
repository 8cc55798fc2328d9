import Derived.Test.YtfoncalkgmeklaaGreatYwM27
import Derived.Test.YtfoncalkgmeklaaGreatYwM28
import Derived.Test.YtfoncalkgmeklaaGreatYwM24
import Derived.Test.YtfoncalkgmeklaaGreatYwM32

/- Memory has run out: every call answers ErrPoisoned, and nothing is changed. -/
namespace Go.Proofs.YtfoncalkgmeklaaGreat
open Go.RowKit
variable {fx : Fx} {w : World} {bh : Nat}

theorem G_dead {s : R} {F : List Nat} (h : (G fx) w bh s F) (hd : s.dead = true) : w.cell? ⟨bh, 0, none⟩ = some (.bool true) := by
  obtain ⟨sl, a, c, ws, lim, op, hmb, _⟩ := h
  rw [hd] at hmb
  exact hmb.blk.cell_of (i := 0) rfl
/-- A call that answers an error alone, and makes what nobody holds. -/
theorem pcall1_quiet {f : FuncId} {rest : List Value} {s : R} {er : Int} (h : ∀ w F, (G fx) w bh s F → Calls Tryz.prog f ((Value.pointer (some ⟨bh, 0, none⟩) :: rest).toArray) w fun e w' => e = .returned (.int .i64 er) ∧ Chg [] w w') : PCall1 (G fx) f bh rest s er s := by
  intro w F hg
  refine (h w F hg).mono ?_
  rintro e w' ⟨rfl, hc⟩
  have hg' := stays_G [] w w' bh s F hg hc (by simp)
  exact ⟨F, rfl, hg', G_lt hg', ⟨hc.mono (by simp), fun _ h => .inl h⟩⟩

theorem d_find (x : Int) (c0 : w.cell? ⟨bh, 0, none⟩ = some (.bool true)) : Calls Tryz.prog 77 #[.pointer (some ⟨bh, 0, none⟩), .int .i64 x] w fun e w' => e = .returned (.tuple #[.int .i64 0, .int .i64 2]) ∧ w' = w := by
  go_enter Tryz.func77, Tryz.ntmps77
  go_wp2
  go_ret2
  exact ⟨rfl, rfl⟩
theorem d_add (k n most : Int) (c0 : w.cell? ⟨bh, 0, none⟩ = some (.bool true)) : Calls Tryz.prog 75 #[.pointer (some ⟨bh, 0, none⟩), .int .i64 k, .int .i64 n, .int .i64 most] w fun e w' => e = .returned (.tuple #[.int .i64 0, .int .i64 2]) ∧ w' = w := by
  go_enter Tryz.func75, Tryz.ntmps75
  go_wp2
  go_ret2
  exact ⟨rfl, rfl⟩
theorem d_open  (c0 : w.cell? ⟨bh, 0, none⟩ = some (.bool true)) : Calls Tryz.prog 60 #[.pointer (some ⟨bh, 0, none⟩)] w fun e w' => e = .returned (.tuple #[.int .i64 0, .int .i64 2]) ∧ w' = w := by
  go_enter Tryz.func60, Tryz.ntmps60
  go_wp2
  go_ret2
  exact ⟨rfl, rfl⟩
theorem d_close (n : Int) (c0 : w.cell? ⟨bh, 0, none⟩ = some (.bool true)) : Calls Tryz.prog 62 #[.pointer (some ⟨bh, 0, none⟩), .int .i64 n] w fun e w' => e = .returned (.int .i64 2) ∧ w' = w := by
  go_enter Tryz.func62, Tryz.ntmps62
  go_wp2
  go_ret
  exact ⟨rfl, rfl⟩
theorem d_collect  (c0 : w.cell? ⟨bh, 0, none⟩ = some (.bool true)) : Calls Tryz.prog 70 #[.pointer (some ⟨bh, 0, none⟩)] w fun e w' => e = .returned (.int .i64 2) ∧ w' = w := by
  go_enter Tryz.func70, Tryz.ntmps70
  go_wp2
  go_ret
  exact ⟨rfl, rfl⟩
theorem d_words  (c0 : w.cell? ⟨bh, 0, none⟩ = some (.bool true)) : Calls Tryz.prog 72 #[.pointer (some ⟨bh, 0, none⟩)] w fun e w' => e = .returned (.tuple #[.slice none 0 0, .int .i64 2]) ∧ w' = w := by
  go_enter Tryz.func72, Tryz.ntmps72
  go_wp2
  go_ret2
  exact ⟨rfl, rfl⟩
theorem d_findKind (x k : Int) (c0 : w.cell? ⟨bh, 0, none⟩ = some (.bool true)) : Calls Tryz.prog 87 #[.pointer (some ⟨bh, 0, none⟩), .int .i64 x, .int .i64 k] w fun e w' => e = .returned (.tuple #[.int .i64 0, .int .i64 2]) ∧ w' = w := by
  have HF := hide (d_find x c0)
  clear c0
  go_enter Tryz.func87, Tryz.ntmps87
  go_wp2_with fail
  refine (unhide HF).mono ?_
  rintro e w1 ⟨rfl, rfl⟩
  go_wp2
  go_ret2
  exact ⟨rfl, rfl⟩
theorem d_array (n : Int) (c0 : w.cell? ⟨bh, 0, none⟩ = some (.bool true)) : Calls Tryz.prog 27 #[.pointer (some ⟨bh, 0, none⟩), .int .i64 n] w fun e w' => e = .returned (.tuple #[.int .i64 0, .int .i64 2]) ∧ w' = w := by
  have HF := hide (d_add 1 n 16 c0)
  clear c0
  go_enter Tryz.func27, Tryz.ntmps27
  go_wp2_with fail
  refine (unhide HF).mono ?_
  rintro e w1 ⟨rfl, rfl⟩
  go_wp2
  go_ret2
  exact ⟨rfl, rfl⟩
theorem d_table (n : Int) (c0 : w.cell? ⟨bh, 0, none⟩ = some (.bool true)) : Calls Tryz.prog 31 #[.pointer (some ⟨bh, 0, none⟩), .int .i64 n] w fun e w' => e = .returned (.tuple #[.int .i64 0, .int .i64 2]) ∧ w' = w := by
  have HF := hide (d_add 3 n 8 c0)
  clear c0
  go_enter Tryz.func31, Tryz.ntmps31
  go_wp2_with fail
  refine (unhide HF).mono ?_
  rintro e w1 ⟨rfl, rfl⟩
  go_wp2
  go_ret2
  exact ⟨rfl, rfl⟩
theorem d_bytes (t : ByteArray) (c0 : w.cell? ⟨bh, 0, none⟩ = some (.bool true)) : Calls Tryz.prog 29 #[.pointer (some ⟨bh, 0, none⟩), .string t] w fun e w' => e = .returned (.tuple #[.int .i64 0, .int .i64 2]) ∧ w' = w := by
  have HF := hide (d_add 2 t.size 64 c0)
  clear c0
  go_enter Tryz.func29, Tryz.ntmps29
  go_wp2_with fail
  refine (unhide HF).mono ?_
  rintro e w1 ⟨rfl, rfl⟩
  go_wp2
  go_ret2
  exact ⟨rfl, rfl⟩
theorem d_kind (x : Int) (c0 : w.cell? ⟨bh, 0, none⟩ = some (.bool true)) : Calls Tryz.prog 37 #[.pointer (some ⟨bh, 0, none⟩), .int .i64 x] w fun e w' => e = .returned (.tuple #[.int .i64 0, .int .i64 2]) ∧ w' = w := by
  have HF := hide (d_find x c0)
  clear c0
  go_enter Tryz.func37, Tryz.ntmps37
  go_wp2_with fail
  refine (unhide HF).mono ?_
  rintro e w1 ⟨rfl, rfl⟩
  go_wp2
  go_ret2
  exact ⟨rfl, rfl⟩
theorem d_len (x : Int) (c0 : w.cell? ⟨bh, 0, none⟩ = some (.bool true)) : Calls Tryz.prog 39 #[.pointer (some ⟨bh, 0, none⟩), .int .i64 x] w fun e w' => e = .returned (.tuple #[.int .i64 0, .int .i64 2]) ∧ w' = w := by
  have HF := hide (d_find x c0)
  clear c0
  go_enter Tryz.func39, Tryz.ntmps39
  go_wp2_with fail
  refine (unhide HF).mono ?_
  rintro e w1 ⟨rfl, rfl⟩
  go_wp2
  go_ret2
  exact ⟨rfl, rfl⟩
theorem d_place (x : Int) (c0 : w.cell? ⟨bh, 0, none⟩ = some (.bool true)) : Calls Tryz.prog 41 #[.pointer (some ⟨bh, 0, none⟩), .int .i64 x] w fun e w' => e = .returned (.tuple #[.int .i64 0, .int .i64 2]) ∧ w' = w := by
  have HF := hide (d_find x c0)
  clear c0
  go_enter Tryz.func41, Tryz.ntmps41
  go_wp2_with fail
  refine (unhide HF).mono ?_
  rintro e w1 ⟨rfl, rfl⟩
  go_wp2
  go_ret2
  exact ⟨rfl, rfl⟩
theorem d_text (x : Int) (c0 : w.cell? ⟨bh, 0, none⟩ = some (.bool true)) : Calls Tryz.prog 43 #[.pointer (some ⟨bh, 0, none⟩), .int .i64 x] w fun e w' => e = .returned (.tuple #[.string ⟨#[]⟩, .int .i64 2]) ∧ w' = w := by
  have HF := hide (d_findKind x 2 c0)
  clear c0
  go_enter Tryz.func43, Tryz.ntmps43
  go_wp2_with fail
  refine (unhide HF).mono ?_
  rintro e w1 ⟨rfl, rfl⟩
  go_wp2
  go_ret2
  exact ⟨rfl, rfl⟩
theorem d_same (x y : Int) (c0 : w.cell? ⟨bh, 0, none⟩ = some (.bool true)) : Calls Tryz.prog 45 #[.pointer (some ⟨bh, 0, none⟩), .int .i64 x, .int .i64 y] w fun e w' => e = .returned (.tuple #[.bool false, .int .i64 2]) ∧ w' = w := by
  have HF := hide (d_find x c0)
  clear c0
  go_enter Tryz.func45, Tryz.ntmps45
  go_wp2_with fail
  refine (unhide HF).mono ?_
  rintro e w1 ⟨rfl, rfl⟩
  go_wp2
  go_ret2
  exact ⟨rfl, rfl⟩
theorem d_escape (x : Int) (c0 : w.cell? ⟨bh, 0, none⟩ = some (.bool true)) : Calls Tryz.prog 64 #[.pointer (some ⟨bh, 0, none⟩), .int .i64 x] w fun e w' => e = .returned (.tuple #[.int .i64 0, .int .i64 2]) ∧ w' = w := by
  have HF := hide (d_find x c0)
  clear c0
  go_enter Tryz.func64, Tryz.ntmps64
  go_wp2_with fail
  refine (unhide HF).mono ?_
  rintro e w1 ⟨rfl, rfl⟩
  go_wp2
  go_ret2
  exact ⟨rfl, rfl⟩
theorem d_keep (x : Int) (c0 : w.cell? ⟨bh, 0, none⟩ = some (.bool true)) : Calls Tryz.prog 66 #[.pointer (some ⟨bh, 0, none⟩), .int .i64 x] w fun e w' => e = .returned (.tuple #[.int .i64 0, .int .i64 2]) ∧ w' = w := by
  have HF := hide (d_find x c0)
  clear c0
  go_enter Tryz.func66, Tryz.ntmps66
  go_wp2_with fail
  refine (unhide HF).mono ?_
  rintro e w1 ⟨rfl, rfl⟩
  go_wp2
  go_ret2
  exact ⟨rfl, rfl⟩
theorem d_release (x : Int) (c0 : w.cell? ⟨bh, 0, none⟩ = some (.bool true)) : Calls Tryz.prog 68 #[.pointer (some ⟨bh, 0, none⟩), .int .i64 x] w fun e w' => e = .returned (.int .i64 2) ∧ w' = w := by
  have HF := hide (d_find x c0)
  clear c0
  go_enter Tryz.func68, Tryz.ntmps68
  go_wp2_with fail
  refine (unhide HF).mono ?_
  rintro e w1 ⟨rfl, rfl⟩
  go_wp2
  go_ret
  exact ⟨rfl, rfl⟩
theorem d_join (x y : Int) (c0 : w.cell? ⟨bh, 0, none⟩ = some (.bool true)) : Calls Tryz.prog 33 #[.pointer (some ⟨bh, 0, none⟩), .int .i64 x, .int .i64 y] w fun e w' => e = .returned (.tuple #[.int .i64 0, .int .i64 2]) ∧ w' = w := by
  have HF := hide (d_find y c0)
  clear c0
  go_enter Tryz.func33, Tryz.ntmps33
  go_wp2_with fail
  refine (unhide HF).mono ?_
  rintro e w1 ⟨rfl, rfl⟩
  go_wp2
  go_ret2
  exact ⟨rfl, rfl⟩
theorem d_copy (x : Int) (c0 : w.cell? ⟨bh, 0, none⟩ = some (.bool true)) : Calls Tryz.prog 35 #[.pointer (some ⟨bh, 0, none⟩), .int .i64 x] w fun e w' => e = .returned (.tuple #[.int .i64 0, .int .i64 2]) ∧ w' = w := by
  have HF := hide (d_find x c0)
  clear c0
  go_enter Tryz.func35, Tryz.ntmps35
  go_wp2_with fail
  refine (unhide HF).mono ?_
  rintro e w1 ⟨rfl, rfl⟩
  go_wp2
  go_ret2
  exact ⟨rfl, rfl⟩
theorem d_get (x i : Int) (c0 : w.cell? ⟨bh, 0, none⟩ = some (.bool true)) : Calls Tryz.prog 48 #[.pointer (some ⟨bh, 0, none⟩), .int .i64 x, .int .i64 i] w fun e w' => e = .returned (.tuple #[.agg #[.int .i64 0, .int .i64 0], .int .i64 2]) ∧ Chg [] w w' := by
  have hc0 : Chg [] w (w.alloc (.cells #[.int .i64 0, .int .i64 0] 33)) := (Chg.refl [] w).alloc _
  have HF := hide (d_findKind x 1 (cell_chgS hc0 c0 (by simp)))
  have HC0 := hide hc0; clear c0 hc0
  go_enter Tryz.func48, Tryz.ntmps48
  go_wp2_with fail
  refine (unhide HF).mono ?_
  rintro e w1 ⟨rfl, rfl⟩
  go_wp2
  exact bodyPost_ret (v := .tuple #[.agg #[.int .i64 0, .int .i64 0], .int .i64 2]) (by simp [results, Tryz.results48, go_sem]) rfl ⟨rfl, unhide HC0⟩
theorem d_key (x i : Int) (c0 : w.cell? ⟨bh, 0, none⟩ = some (.bool true)) : Calls Tryz.prog 52 #[.pointer (some ⟨bh, 0, none⟩), .int .i64 x, .int .i64 i] w fun e w' => e = .returned (.tuple #[.agg #[.int .i64 0, .int .i64 0], .int .i64 2]) ∧ Chg [] w w' := by
  have hc0 : Chg [] w (w.alloc (.cells #[.int .i64 0, .int .i64 0] 33)) := (Chg.refl [] w).alloc _
  have HF := hide (d_findKind x 3 (cell_chgS hc0 c0 (by simp)))
  have HC0 := hide hc0; clear c0 hc0
  go_enter Tryz.func52, Tryz.ntmps52
  go_wp2_with fail
  refine (unhide HF).mono ?_
  rintro e w1 ⟨rfl, rfl⟩
  go_wp2
  exact bodyPost_ret (v := .tuple #[.agg #[.int .i64 0, .int .i64 0], .int .i64 2]) (by simp [results, Tryz.results52, go_sem]) rfl ⟨rfl, unhide HC0⟩
theorem d_set (x i : Int) (v : Int × Int) (c0 : w.cell? ⟨bh, 0, none⟩ = some (.bool true)) : Calls Tryz.prog 54 #[.pointer (some ⟨bh, 0, none⟩), .int .i64 x, .int .i64 i, .agg #[.int .i64 v.1, .int .i64 v.2]] w fun e w' => e = .returned (.int .i64 2) ∧ Chg [] w w' := by
  have hc1 : Chg [] w (w.alloc (.cells #[.int .i64 v.1, .int .i64 v.2] 33)) := (Chg.refl [] w).alloc _
  have c1 := cell_chgS hc1 c0 (by simp)
  have HC1 := hide hc1; clear hc1
  go_enter Tryz.func54, Tryz.ntmps54
  go_wp2
  go_ret
  exact ⟨rfl, unhide HC1⟩
theorem d_put (x : Int) (k v : Int × Int) (c0 : w.cell? ⟨bh, 0, none⟩ = some (.bool true)) : Calls Tryz.prog 56 #[.pointer (some ⟨bh, 0, none⟩), .int .i64 x, .agg #[.int .i64 k.1, .int .i64 k.2], .agg #[.int .i64 v.1, .int .i64 v.2]] w fun e w' => e = .returned (.int .i64 2) ∧ Chg [] w w' := by
  have hc1 : Chg [] w ((w.alloc (.cells #[.int .i64 k.1, .int .i64 k.2] 33)).alloc (.cells #[.int .i64 v.1, .int .i64 v.2] 33)) := ((Chg.refl [] w).alloc _).alloc _
  have c1 := cell_chgS hc1 c0 (by simp)
  have HC1 := hide hc1; clear hc1
  go_enter Tryz.func56, Tryz.ntmps56
  go_wp2
  go_ret
  exact ⟨rfl, unhide HC1⟩
theorem d_findTable (x : Int) (k : Int × Int) (c0 : w.cell? ⟨bh, 0, none⟩ = some (.bool true)) : Calls Tryz.prog 93 #[.pointer (some ⟨bh, 0, none⟩), .int .i64 x, .agg #[.int .i64 k.1, .int .i64 k.2]] w fun e w' => e = .returned (.tuple #[.int .i64 0, .agg #[.int .i64 0, .int .i64 0], .int .i64 2]) ∧ Chg [] w w' := by
  have hc1 : Chg [] w ((w.alloc (.cells #[.int .i64 k.1, .int .i64 k.2] 33)).alloc (.cells #[.int .i64 0, .int .i64 0] 121)) := ((Chg.refl [] w).alloc _).alloc _
  have c1 := cell_chgS hc1 c0 (by simp)
  have HC1 := hide hc1; clear hc1
  go_enter Tryz.func93, Tryz.ntmps93
  go_wp2
  exact bodyPost_ret (v := .tuple #[.int .i64 0, .agg #[.int .i64 0, .int .i64 0], .int .i64 2]) (by simp [results, Tryz.results93, go_sem]) rfl ⟨rfl, unhide HC1⟩
end Go.Proofs.YtfoncalkgmeklaaGreat

/- add of the program; the program's heap with its flags. -/
namespace Go.Proofs.YtfoncalkgmeklaaGreat
open Go.RowKit
variable {fx : Fx}

theorem MB.setDead {w : World} {bh : Nat} {lim : Int} {ws : List Int} {post : List Value} {T : TypeId} {a : Option Addr} {c : Nat} {b0 : Bool} (h : MB w bh [.bool b0] lim ws post T a c) : MB (w.setCell ⟨bh, 0, none⟩ (.bool true)) bh [.bool true] lim ws post T a c := by
  refine ⟨h.blk.setCell 0 (.bool true), ownsRow_setCell_other' h.own (fun g hg e => ?_) _, h.ty⟩
  simp at e
  subst e
  exact h.nin (ownBlock_ab hg)
/-- What add leaves where memory runs out, and where an object was made. -/
def AddNo (fx : Fx) (s : R) (a : Option Addr) (w : World) (bh : Nat) (k n : Int) (w' : World) : Prop :=
  usedOf s.objs (s.made3 (wordsOf k n)).row + wordsOf k n > s.limit ∧ ∃ F', (G (fx.to fx.after)) w' bh { s.made3 (wordsOf k n) with dead := true } F' ∧ Stp (bh :: ab a) w F' w'
def AddOk (fx : Fx) (s : R) (a : Option Addr) (w : World) (bh : Nat) (k n : Int) (w' : World) : Prop :=
  usedOf s.objs (s.made3 (wordsOf k n)).row + wordsOf k n ≤ s.limit ∧ ∃ sl' a' c', sl'.length = 32 ∧ (∀ k' x, sl'[k']? = some x → SlotOk (s.made3 (wordsOf k n)) k' x) ∧ Stp (bh :: ab a) w (bh :: ab a') w' ∧
    MB w' bh [.bool false] s.limit ((s.made3 (wordsOf k n)).words ++ (k * 65536 + n) :: List.replicate ((wordsOf k n).toNat - 1) 0) (holdCells (fx.to fx.after) (slotAdd sl' (s.made3 (wordsOf k n)).words.length s.scopes) s.scopes) 67 a' c'
theorem made3_free (s : R) (n : Int) : (s.made3 n).free? = s.free? ∧ ∀ k, (s.made3 n).past k = s.past k := by
  have h := (made3_objs s n).2.1
  constructor
  · unfold R.free? R.at?
    rw [h]
  · intro k
    unfold R.past
    rw [h]

section
variable {w : World} {bh : Nat} {sl : List Slot} {a : Option Addr} {c : Nat} {s : R}
set_option maxRecDepth 100000 in
set_option maxHeartbeats 2000000 in
theorem gripAdd_take (k n most : Int) {j : Nat} (h : MB w bh [.bool false] s.limit s.words (holdCells fx sl s.scopes) 67 a c) (hl : sl.length = 32) (hs : ∀ k x, sl[k]? = some x → SlotOk s k x) (ha : RAll s) {m : Nat} (hu : RUp m s) (hm : m ≤ 3298534883328) (ho : FlagsOwn w fx) (hf : FxOk fx s) (hk : 1 ≤ k ∧ k ≤ 3) (h0 : 0 ≤ n) (h1 : n ≤ most) (h64 : n ≤ 64) (hfr : s.free? = some j) :
    Calls Tryz.prog 75 #[.pointer (some ⟨bh, 0, none⟩), .int .i64 k, .int .i64 n, .int .i64 most] w fun e w' => (e = .returned (.tuple #[.int .i64 0, .int .i64 12]) ∧ AddNo fx s a w bh k n w') ∨ (e = .returned (.tuple #[.int .i64 (32 * s.past (j : Int) + j), .int .i64 0]) ∧ AddOk fx s a w bh k n w') := by
  have c0 := h.blk.cell_of (i := 0) rfl
  have hj := free_lt hfr
  have hfree : slotFree sl = j := by rw [slotFree_ok hl hs, hfr]; rfl
  have hfu := slotsFull_any (h.slots hl)
  rw [hfree, show ((j : Nat) == 32) = false from by simp; omega] at hfu
  have htk := take_any k n h hl hs ha ho hf hk h0 h64
  have hpast := past_le s (j : Int)
  have hhl := hu.handles
  have h0' : ¬ n < 0 := by omega
  have h1' : ¬ n > most := by omega
  have hsl : ∀ w2 sl2 a2 c2, sl2.length = 32 → (∀ k' x, sl2[k']? = some x → SlotOk (s.made3 (wordsOf k n)) k' x) → MB w2 bh [.bool false] s.limit ((s.made3 (wordsOf k n)).words ++ (k * 65536 + n) :: List.replicate ((wordsOf k n).toNat - 1) 0) (holdCells (fx.to fx.after) sl2 s.scopes) 67 a2 c2 →
      Calls Tryz.prog 107 #[.pointer (some ⟨bh, 0, none⟩), .int .i64 ((s.made3 (wordsOf k n)).words.length : Int), .int .i64 s.scopes] w2 fun e w' => e = .returned (.tuple #[.int .i64 (32 * s.past (j : Int) + j), .int .i64 0]) ∧ MB w' bh [.bool false] s.limit ((s.made3 (wordsOf k n)).words ++ (k * 65536 + n) :: List.replicate ((wordsOf k n).toNat - 1) 0) (holdCells (fx.to fx.after) (slotAdd sl2 (s.made3 (wordsOf k n)).words.length s.scopes) s.scopes) 67 a2 c2 ∧ Chg [bh] w2 w' := by
    intro w2 sl2 a2 c2 hl2 hs2 hm2
    have hfree2 : slotFree sl2 = j := by rw [slotFree_ok hl2 hs2, (made3_free s _).1, hfr]; rfl
    have hg2 := (hs2 j _ (slots_get hl2 hj)).2.1
    rw [(made3_free s _).2] at hg2
    exact newHandle_ok hm2 hl2 hfree2 hj hg2 (by omega) (by omega)
  have HF := hide hfu; have HT := hide htk; have HS := hide hsl; clear hfu htk hsl h hs ho hf hfree
  go_enter Tryz.func75, Tryz.ntmps75
  go_wp2_with fail
  refine (unhide HF).mono ?_
  rintro e w1 ⟨rfl, rfl⟩
  go_wp2_with fail
  refine (unhide HT).mono ?_
  rintro e w2 (⟨rfl, hno⟩ | ⟨rfl, hok⟩)
  · obtain ⟨hx, sl2, a2, c2, hl2, hs2, st2, hm2⟩ := hno
    have q0 := hm2.blk.cell_of (i := 0) rfl
    have f0 := hm2.blk.frozen 0
    have hfin : AddNo fx s a w1 bh k n (w2.setCell ⟨bh, 0, none⟩ (.bool true)) := by
      refine ⟨hx, bh :: ab a2, ⟨sl2, a2, c2, _, _, _, hm2.setDead, rfl, hl2, fun h => by cases h⟩, st2.trans ⟨(Chg.refl _ w2).setCell (.inl (by simp)) _, fun _ h => .inl h⟩⟩
    have HFIN := hide hfin; clear hfin hx hs2 st2 hm2 c0
    go_wp2
    go_ret2
    exact .inl ⟨rfl, unhide HFIN⟩
  · obtain ⟨hx, sl2, a2, c2, hl2, hs2, st2, hm2⟩ := hok
    have hin := slotsInner_mb hm2 hl2
    have hcall := unhide HS w2 sl2 a2 c2 hl2 hs2 hm2
    have HI := hide hin; have HC := hide hcall; have ST2 := hide st2; have HX := hide hx; have HS2 := hide hs2; clear hin hcall hm2 st2 c0 hx hs2
    go_wp2_with fail
    refine (unhide HI).mono ?_
    rintro e w9 ⟨rfl, h9⟩
    subst h9
    go_wp2_with fail
    refine (unhide HC).mono ?_
    rintro e w3 ⟨rfl, hm3, hc3⟩
    have hfin : AddOk fx s a w1 bh k n w3 := ⟨unhide HX, sl2, a2, c2, hl2, unhide HS2, (unhide ST2).trans ⟨hc3.mono (by simp), fun _ h => .inl h⟩, hm3⟩
    have HFIN := hide hfin; clear hfin hm3 hc3
    go_wp2
    go_ret2
    exact .inr ⟨rfl, unhide HFIN⟩
end

/-! The heap with its flags -/
def GG : World → Nat → R → List Nat → Prop := fun w bh s F => ∃ fx F0, (G fx) w bh s F0 ∧ F = F0 ++ ab fx.fa ∧ FlagsOwn w fx ∧ (s.dead = false → FxOk fx s)
theorem flags_apart {w : World} {bh : Nat} {s : R} {F : List Nat} (h : (G fx) w bh s F) (ho : FlagsOwn w fx) : ∀ x ∈ ab fx.fa, x ∉ F := by
  obtain ⟨sl, a, c, ws, lim, op, hmb, rfl, hl, hd⟩ := h
  intro x hx hy
  have ht := owns_ty ho x hx
  rcases List.mem_cons.1 hy with rfl | hy
  · exact ht.ne (T' := 67) (by decide) hmb.blk.ty
  · exact ht.ne (T' := 3) (by decide) (owns_ty hmb.own x hy)
theorem flags_stp {w w' : World} {bh : Nat} {s : R} {F F' : List Nat} (h : (G fx) w bh s F) (ho : FlagsOwn w fx) (st : Stp F w F' w') : FlagsOwn w' fx := owns_chg ho st.chg (fun _ hg => flags_apart h ho _ (ownBlock_ab hg))
theorem stays_GG : Stays GG := by
  rintro S w w' bh s F ⟨fx, F0, hg, rfl, ho, hf⟩ k hs
  exact ⟨fx, F0, stays_G S w w' bh s F0 hg k (fun b hb => hs b (List.mem_append_left _ hb)), rfl, owns_chg ho k (fun _ hg => hs _ (List.mem_append_right _ (ownBlock_ab hg))), hf⟩
theorem FxOk.same {s s' : R} (h : FxOk fx s) (h1 : s'.flags = s.flags) (h2 : s'.made = s.made) : FxOk fx s' := by
  refine ⟨by rw [h1]; exact h.fl, ?_⟩
  rw [h.nx]
  unfold R.nxOf
  rw [h1, h2]
/-- A call's end, in the heap with its flags. -/
theorem gg_end {w w' : World} {bh : Nat} {s s' : R} {F F' : List Nat} {fx' : Fx} (hg : (G fx) w bh s F) (ho : FlagsOwn w fx) (hs : fx'.fa = fx.fa ∧ fx'.fl = fx.fl ∧ fx'.fc = fx.fc) (hg' : (G fx') w' bh s' F') (st : Stp F w F' w') (hf : s'.dead = false → FxOk fx' s') :
    GG w' bh s' (F' ++ ab fx.fa) ∧ (∀ b ∈ F' ++ ab fx.fa, b < w'.heap.size) ∧ Stp (F ++ ab fx.fa) w (F' ++ ab fx.fa) w' := by
  have ho' := flags_stp hg ho st
  have hown : FlagsOwn w' fx' := by unfold FlagsOwn at ho' ⊢; rw [hs.1, hs.2.1, hs.2.2]; exact ho'
  refine ⟨⟨fx', F', hg', by rw [hs.1], hown, hf⟩, fun b hb => ?_, st.lift⟩
  rcases List.mem_append.1 hb with h1 | h1
  · exact G_lt hg' b h1
  · exact own_lt ho' b h1
theorem lift_call {f : FuncId} {bh : Nat} {rest : List Value} {s s' : R} {v : Value} {er : Int} (h : ∀ fx, PCall (G fx) f bh rest s v er s') (h1 : s'.flags = s.flags) (h2 : s'.made = s.made) (h3 : s'.dead = s.dead) : PCall GG f bh rest s v er s' := by
  rintro w F ⟨fx, F0, hg, rfl, ho, hf⟩
  refine (h fx w F0 hg).mono ?_
  rintro e w' ⟨F', rfl, hg', _, st⟩
  exact ⟨_, rfl, gg_end hg ho ⟨rfl, rfl, rfl⟩ hg' st (fun hd => (hf (by rw [← h3]; exact hd)).same h1 h2)⟩
theorem lift_call1 {f : FuncId} {bh : Nat} {rest : List Value} {s s' : R} {er : Int} (h : ∀ fx, PCall1 (G fx) f bh rest s er s') (h1 : s'.flags = s.flags) (h2 : s'.made = s.made) (h3 : s'.dead = s.dead) : PCall1 GG f bh rest s er s' := by
  rintro w F ⟨fx, F0, hg, rfl, ho, hf⟩
  refine (h fx w F0 hg).mono ?_
  rintro e w' ⟨F', rfl, hg', _, st⟩
  exact ⟨_, rfl, gg_end hg ho ⟨rfl, rfl, rfl⟩ hg' st (fun hd => (hf (by rw [← h3]; exact hd)).same h1 h2)⟩
theorem lift_words {bh : Nat} {s : R} (h : ∀ fx, PWords (G fx) bh s) : PWords GG bh s := by
  rintro w F ⟨fx, F0, hg, rfl, ho, hf⟩
  exact h fx w F0 hg

/-! What is made -/
/-- The document's make, where there is a slot. -/
theorem make_some {s : R} {o : RObj} {j : Nat} (hf : s.free? = some j) : s.make o = if usedOf s.objs (s.made3 (oWords o)).row + oWords o > s.limit then ((0 : Int), (12 : Int), { s.made3 (oWords o) with dead := true }) else ((32 * (s.past (j : Int) : Int) + (j : Int) : Int), 0, (((s.made3 (oWords o)).push o).handle s.objs.length s.scopes).2.2) := by
  unfold R.make
  rw [hf]
  simp only
  split
  · rfl
  · have hf' : ((s.made3 (oWords o)).push o).free? = some j := by
      have := (made3_free s (oWords o)).1
      rw [hf] at this
      exact this
    rw [handle_eq hf']
    have : ((s.made3 (oWords o)).push o).past (j : Int) = s.past (j : Int) := (made3_free s (oWords o)).2 _
    rw [this]
theorem make_none {s : R} {o : RObj} (hf : s.free? = none) : s.make o = (0, 11, s) := by
  unfold R.make
  rw [hf]
/-- The flags behind a make. -/
theorem made3_fx {s : R} (h : FxOk fx s) (n : Int) {s' : R} (h1 : s'.flags = (s.made3 n).flags) (h2 : s'.made = (s.made3 n).made) : FxOk (fx.to fx.after) s' := by
  have e := made3_objs s n
  exact h.next.same (by rw [h1, e.2.2.2.1]; rfl) (by rw [h2, e.2.2.2.2.2.2]; rfl)
theorem made3_dead (s : R) (n : Int) : (s.made3 n).dead = s.dead ∧ (s.made3 n).limit = s.limit ∧ (s.made3 n).scopes = s.scopes ∧ (s.made3 n).objs = s.objs := by
  have e := made3_objs s n
  exact ⟨e.2.2.2.2.2.1, e.2.2.1, e.2.2.2.2.1, e.1⟩
theorem handle_fm (s : R) (o : Nat) (c : Int) : (s.handle o c).2.2.flags = s.flags ∧ (s.handle o c).2.2.made = s.made ∧ (s.handle o c).2.2.dead = s.dead := by
  unfold R.handle
  split <;> exact ⟨rfl, rfl, rfl⟩
/-- The heap behind a new object, whose words stand. -/
theorem G_new {w : World} {bh : Nat} {s : R} {sl : List Slot} {a : Option Addr} {c j : Nat} {o : RObj} (hl : sl.length = 32) (hs : ∀ k x, sl[k]? = some x → SlotOk (s.made3 (oWords o)) k x) (ha : RAll s) (hd : s.dead = false) (hf : s.free? = some j)
    (h : MB w bh [.bool false] s.limit ((s.made3 (oWords o)).words ++ objWords ((s.made3 (oWords o)).push o) o) (holdCells fx (slotAdd sl (s.made3 (oWords o)).words.length s.scopes) s.scopes) 67 a c) :
    (G fx) w bh (((s.made3 (oWords o)).push o).handle s.objs.length s.scopes).2.2 (bh :: ab a) := by
  obtain ⟨e1, e2, e3, e4⟩ := made3_dead s (oWords o)
  have := G_made (s := s.made3 (oWords o)) (o := o) (j := j) (c := c) (a := a) hl hs (ha.made3 _) (by rw [e1]; exact hd) (by rw [(made3_free s _).1]; exact hf) (by rw [e2, e3]; exact h)
  rw [e3, e4] at this
  exact this
end Go.Proofs.YtfoncalkgmeklaaGreat

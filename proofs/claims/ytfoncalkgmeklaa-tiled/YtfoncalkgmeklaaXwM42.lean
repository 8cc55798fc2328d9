import Derived.Test.YtfoncalkgmeklaaXwM41
import Derived.Test.YtfoncalkgmeklaaXwM15
import Derived.Test.YtfoncalkgmeklaaXwM16

/- The program as gripkeep needs it (KP), a heap that plays (KS), and each of its calls. (Written by wip/genkeep.py.) -/
namespace Go.Proofs.Ytfoncalkgmeklaa
open Go.RowKit

/-- The program keeps the document: New, and every step. -/
structure KP (G : World → Nat → R → List Nat → Prop) (J : R → Prop) : Prop where
  stays : Stays G
  new : ∀ (l : Int) (a : Option Addr) (n c : Nat) (fs : List Bool) (w : World), 1 ≤ l → l ≤ 512 → n ≤ 64 → fs.length = n → (0 < n → ∃ b off, a = some ⟨b, off, none⟩ ∧ b < w.heap.size ∧ ∀ j x, fs[j]? = some x → w.cell? ⟨b, off + j, none⟩ = some (.bool x)) →
    Calls Try.prog 32 #[.int .i64 l, .slice a n c] w fun e w' => ∃ bh F, e = .returned (.tuple #[.pointer (some ⟨bh, 0, none⟩), .int .i64 0]) ∧ G w' bh (R.init l fs) F ∧ (∀ x ∈ F, w.heap.size ≤ x ∧ x < w'.heap.size) ∧ Chg [] w w'
  bad : ∀ (l : Int) (a : Option Addr) (n c : Nat) (w : World), (l < 1 ∨ 512 < l ∨ 64 < n) → Calls Try.prog 32 #[.int .i64 l, .slice a n c] w fun e w' => e = .returned (.tuple #[.pointer none, .int .i64 1]) ∧ Chg [] w w'
  init : ∀ (l : Int) (fs : List Bool), 1 ≤ l → l ≤ 512 → fs.length ≤ 64 → J (R.init l fs)
  keep : ∀ s o, J s → RAll s → o.Ok → J (s.stepQ o)
  step : ∀ bh s m o, J s → RAll s → RUp m s → m ≤ 1125899906842624 → o.Ok → PStep G bh s o
/-- A heap that plays the state s, behind m steps. -/
structure KS (G : World → Nat → R → List Nat → Prop) (J : R → Prop) (w : World) (bh : Nat) (s : R) (F : List Nat) (m : Nat) : Prop where
  g : G w bh s F
  lt : ∀ b ∈ F, b < w.heap.size
  j : J s
  all : RAll s
  up : RUp m s
theorem KS.chg {G : World → Nat → R → List Nat → Prop} {J : R → Prop} {w w' : World} {bh m : Nat} {s : R} {F S : List Nat} (hP : KP G J) (h : KS G J w bh s F m) (k : Chg S w w') (hs : ∀ b ∈ F, b ∉ S) : KS G J w' bh s F m := ⟨hP.stays _ _ _ _ _ _ h.g k hs, fun b hb => Nat.lt_of_lt_of_le (h.lt b hb) k.size, h.j, h.all, h.up⟩
theorem KS.mono {G : World → Nat → R → List Nat → Prop} {J : R → Prop} {w : World} {bh m m' : Nat} {s : R} {F : List Nat} (h : KS G J w bh s F m) (hm : m ≤ m') : KS G J w bh s F m' := ⟨h.g, h.lt, h.j, h.all, h.up.mono hm⟩
theorem KS.ask {G : World → Nat → R → List Nat → Prop} {J : R → Prop} {w : World} {bh m : Nat} {s : R} {F : List Nat} (hP : KP G J) (h : KS G J w bh s F m) (hm : m ≤ 1125899906842624) (o : LOp) (ho : o.Ok) :
    Calls Try.prog 9 #[.pointer (some ⟨bh, 0, none⟩), o.val] w fun e w' => ∃ F', e = .returned (s.askQ o).val ∧ KS G J w' bh (s.stepQ o) F' (m + 1) ∧ Stp F w F' w' :=
  (ask_any hP.stays o (hP.step bh s m o h.j h.all h.up hm ho) w F h.g h.lt).mono fun _ _ ⟨F', e, g, l, st⟩ => ⟨F', e, ⟨g, l, hP.keep s o h.j h.all ho, h.all.step o, h.up.step o⟩, st⟩
theorem i64_0 : I64 0 := ⟨by omega, by omega⟩
theorem empty_le : (⟨#[]⟩ : ByteArray).size ≤ maxLen := Nat.zero_le _

theorem KS.array {G : World → Nat → R → List Nat → Prop} {J : R → Prop} {w : World} {bh m : Nat} {s : R} {F : List Nat} (hP : KP G J) (h : KS G J w bh s F m) (hm : m ≤ 1125899906842624) (x : Int) (hx : I64 x) {a : Int} {er : Int} {s' : R} (e : (s.arrayQ x) = (a, er, s')) :
    Calls Try.prog 61 #[.pointer (some ⟨bh, 0, none⟩), .int .i64 x] w fun e w' => ∃ F', e = .returned (.tuple #[.int .i64 a, .int .i64 er]) ∧ KS G J w' bh s' F' (m + 1) ∧ Stp F w F' w' := by
  have ho : LOp.Ok ⟨1, x, 0, (0, 0), (0, 0), ⟨#[]⟩⟩ := ⟨⟨by simp, by simp⟩, hx, i64_0, ⟨i64_0, i64_0⟩, ⟨i64_0, i64_0⟩, empty_le⟩
  have hc := (hP.step bh s m ⟨1, x, 0, (0, 0), (0, 0), ⟨#[]⟩⟩ h.j h.all h.up hm ho).array rfl w F h.g
  simp only [e] at hc
  have eS : s.stepQ ⟨1, x, 0, (0, 0), (0, 0), ⟨#[]⟩⟩ = s' := by
    have : s.stepQ ⟨1, x, 0, (0, 0), (0, 0), ⟨#[]⟩⟩ = (s.arrayQ x).2.2 := rfl
    rw [this, e]
  exact hc.mono fun _ _ ⟨F', e, g, l, st⟩ => ⟨F', e, ⟨g, l, by rw [← eS]; exact hP.keep s _ h.j h.all ho, by rw [← eS]; exact h.all.step _, by rw [← eS]; exact h.up.step _⟩, st⟩

theorem KS.bytes {G : World → Nat → R → List Nat → Prop} {J : R → Prop} {w : World} {bh m : Nat} {s : R} {F : List Nat} (hP : KP G J) (h : KS G J w bh s F m) (hm : m ≤ 1125899906842624) (t : ByteArray) (ht : t.size ≤ maxLen) {a : Int} {er : Int} {s' : R} (e : (s.bytesQ t) = (a, er, s')) :
    Calls Try.prog 64 #[.pointer (some ⟨bh, 0, none⟩), .string t] w fun e w' => ∃ F', e = .returned (.tuple #[.int .i64 a, .int .i64 er]) ∧ KS G J w' bh s' F' (m + 1) ∧ Stp F w F' w' := by
  have ho : LOp.Ok ⟨2, 0, 0, (0, 0), (0, 0), t⟩ := ⟨⟨by simp, by simp⟩, i64_0, i64_0, ⟨i64_0, i64_0⟩, ⟨i64_0, i64_0⟩, ht⟩
  have hc := (hP.step bh s m ⟨2, 0, 0, (0, 0), (0, 0), t⟩ h.j h.all h.up hm ho).bytes rfl w F h.g
  simp only [e] at hc
  have eS : s.stepQ ⟨2, 0, 0, (0, 0), (0, 0), t⟩ = s' := by
    have : s.stepQ ⟨2, 0, 0, (0, 0), (0, 0), t⟩ = (s.bytesQ t).2.2 := rfl
    rw [this, e]
  exact hc.mono fun _ _ ⟨F', e, g, l, st⟩ => ⟨F', e, ⟨g, l, by rw [← eS]; exact hP.keep s _ h.j h.all ho, by rw [← eS]; exact h.all.step _, by rw [← eS]; exact h.up.step _⟩, st⟩

theorem KS.table {G : World → Nat → R → List Nat → Prop} {J : R → Prop} {w : World} {bh m : Nat} {s : R} {F : List Nat} (hP : KP G J) (h : KS G J w bh s F m) (hm : m ≤ 1125899906842624) (x : Int) (hx : I64 x) {a : Int} {er : Int} {s' : R} (e : (s.tableQ x) = (a, er, s')) :
    Calls Try.prog 23 #[.pointer (some ⟨bh, 0, none⟩), .int .i64 x] w fun e w' => ∃ F', e = .returned (.tuple #[.int .i64 a, .int .i64 er]) ∧ KS G J w' bh s' F' (m + 1) ∧ Stp F w F' w' := by
  have ho : LOp.Ok ⟨3, x, 0, (0, 0), (0, 0), ⟨#[]⟩⟩ := ⟨⟨by simp, by simp⟩, hx, i64_0, ⟨i64_0, i64_0⟩, ⟨i64_0, i64_0⟩, empty_le⟩
  have hc := (hP.step bh s m ⟨3, x, 0, (0, 0), (0, 0), ⟨#[]⟩⟩ h.j h.all h.up hm ho).table rfl w F h.g
  simp only [e] at hc
  have eS : s.stepQ ⟨3, x, 0, (0, 0), (0, 0), ⟨#[]⟩⟩ = s' := by
    have : s.stepQ ⟨3, x, 0, (0, 0), (0, 0), ⟨#[]⟩⟩ = (s.tableQ x).2.2 := rfl
    rw [this, e]
  exact hc.mono fun _ _ ⟨F', e, g, l, st⟩ => ⟨F', e, ⟨g, l, by rw [← eS]; exact hP.keep s _ h.j h.all ho, by rw [← eS]; exact h.all.step _, by rw [← eS]; exact h.up.step _⟩, st⟩

theorem KS.join {G : World → Nat → R → List Nat → Prop} {J : R → Prop} {w : World} {bh m : Nat} {s : R} {F : List Nat} (hP : KP G J) (h : KS G J w bh s F m) (hm : m ≤ 1125899906842624) (x : Int) (y : Int) (hx : I64 x) (hy : I64 y) {a : Int} {er : Int} {s' : R} (e : (s.joinQ x y) = (a, er, s')) :
    Calls Try.prog 65 #[.pointer (some ⟨bh, 0, none⟩), .int .i64 x, .int .i64 y] w fun e w' => ∃ F', e = .returned (.tuple #[.int .i64 a, .int .i64 er]) ∧ KS G J w' bh s' F' (m + 1) ∧ Stp F w F' w' := by
  have ho : LOp.Ok ⟨22, x, y, (0, 0), (0, 0), ⟨#[]⟩⟩ := ⟨⟨by simp, by simp⟩, hx, hy, ⟨i64_0, i64_0⟩, ⟨i64_0, i64_0⟩, empty_le⟩
  have hc := (hP.step bh s m ⟨22, x, y, (0, 0), (0, 0), ⟨#[]⟩⟩ h.j h.all h.up hm ho).join rfl w F h.g
  simp only [e] at hc
  have eS : s.stepQ ⟨22, x, y, (0, 0), (0, 0), ⟨#[]⟩⟩ = s' := by
    have : s.stepQ ⟨22, x, y, (0, 0), (0, 0), ⟨#[]⟩⟩ = (s.joinQ x y).2.2 := rfl
    rw [this, e]
  exact hc.mono fun _ _ ⟨F', e, g, l, st⟩ => ⟨F', e, ⟨g, l, by rw [← eS]; exact hP.keep s _ h.j h.all ho, by rw [← eS]; exact h.all.step _, by rw [← eS]; exact h.up.step _⟩, st⟩

theorem KS.copy {G : World → Nat → R → List Nat → Prop} {J : R → Prop} {w : World} {bh m : Nat} {s : R} {F : List Nat} (hP : KP G J) (h : KS G J w bh s F m) (hm : m ≤ 1125899906842624) (x : Int) (hx : I64 x) {a : Int} {er : Int} {s' : R} (e : (s.copyQ x) = (a, er, s')) :
    Calls Try.prog 66 #[.pointer (some ⟨bh, 0, none⟩), .int .i64 x] w fun e w' => ∃ F', e = .returned (.tuple #[.int .i64 a, .int .i64 er]) ∧ KS G J w' bh s' F' (m + 1) ∧ Stp F w F' w' := by
  have ho : LOp.Ok ⟨23, x, 0, (0, 0), (0, 0), ⟨#[]⟩⟩ := ⟨⟨by simp, by simp⟩, hx, i64_0, ⟨i64_0, i64_0⟩, ⟨i64_0, i64_0⟩, empty_le⟩
  have hc := (hP.step bh s m ⟨23, x, 0, (0, 0), (0, 0), ⟨#[]⟩⟩ h.j h.all h.up hm ho).copy rfl w F h.g
  simp only [e] at hc
  have eS : s.stepQ ⟨23, x, 0, (0, 0), (0, 0), ⟨#[]⟩⟩ = s' := by
    have : s.stepQ ⟨23, x, 0, (0, 0), (0, 0), ⟨#[]⟩⟩ = (s.copyQ x).2.2 := rfl
    rw [this, e]
  exact hc.mono fun _ _ ⟨F', e, g, l, st⟩ => ⟨F', e, ⟨g, l, by rw [← eS]; exact hP.keep s _ h.j h.all ho, by rw [← eS]; exact h.all.step _, by rw [← eS]; exact h.up.step _⟩, st⟩

theorem KS.kind {G : World → Nat → R → List Nat → Prop} {J : R → Prop} {w : World} {bh m : Nat} {s : R} {F : List Nat} (hP : KP G J) (h : KS G J w bh s F m) (hm : m ≤ 1125899906842624) (x : Int) (hx : I64 x) {a : Int} {er : Int} (e : (s.kindQ x) = (a, er)) :
    Calls Try.prog 34 #[.pointer (some ⟨bh, 0, none⟩), .int .i64 x] w fun e w' => ∃ F', e = .returned (.tuple #[.int .i64 a, .int .i64 er]) ∧ KS G J w' bh s F' m ∧ Stp F w F' w' := by
  have ho : LOp.Ok ⟨4, x, 0, (0, 0), (0, 0), ⟨#[]⟩⟩ := ⟨⟨by simp, by simp⟩, hx, i64_0, ⟨i64_0, i64_0⟩, ⟨i64_0, i64_0⟩, empty_le⟩
  have hc := (hP.step bh s m ⟨4, x, 0, (0, 0), (0, 0), ⟨#[]⟩⟩ h.j h.all h.up hm ho).kind rfl w F h.g
  simp only [e] at hc
  exact hc.mono fun _ _ ⟨F', e, g, l, st⟩ => ⟨F', e, ⟨g, l, h.j, h.all, h.up⟩, st⟩

theorem KS.len {G : World → Nat → R → List Nat → Prop} {J : R → Prop} {w : World} {bh m : Nat} {s : R} {F : List Nat} (hP : KP G J) (h : KS G J w bh s F m) (hm : m ≤ 1125899906842624) (x : Int) (hx : I64 x) {a : Int} {er : Int} (e : (s.lenQ x) = (a, er)) :
    Calls Try.prog 35 #[.pointer (some ⟨bh, 0, none⟩), .int .i64 x] w fun e w' => ∃ F', e = .returned (.tuple #[.int .i64 a, .int .i64 er]) ∧ KS G J w' bh s F' m ∧ Stp F w F' w' := by
  have ho : LOp.Ok ⟨5, x, 0, (0, 0), (0, 0), ⟨#[]⟩⟩ := ⟨⟨by simp, by simp⟩, hx, i64_0, ⟨i64_0, i64_0⟩, ⟨i64_0, i64_0⟩, empty_le⟩
  have hc := (hP.step bh s m ⟨5, x, 0, (0, 0), (0, 0), ⟨#[]⟩⟩ h.j h.all h.up hm ho).len rfl w F h.g
  simp only [e] at hc
  exact hc.mono fun _ _ ⟨F', e, g, l, st⟩ => ⟨F', e, ⟨g, l, h.j, h.all, h.up⟩, st⟩

theorem KS.text {G : World → Nat → R → List Nat → Prop} {J : R → Prop} {w : World} {bh m : Nat} {s : R} {F : List Nat} (hP : KP G J) (h : KS G J w bh s F m) (hm : m ≤ 1125899906842624) (x : Int) (hx : I64 x) {a : ByteArray} {er : Int} (e : (s.textQ x) = (a, er)) :
    Calls Try.prog 36 #[.pointer (some ⟨bh, 0, none⟩), .int .i64 x] w fun e w' => ∃ F', e = .returned (.tuple #[.string a, .int .i64 er]) ∧ KS G J w' bh s F' m ∧ Stp F w F' w' := by
  have ho : LOp.Ok ⟨6, x, 0, (0, 0), (0, 0), ⟨#[]⟩⟩ := ⟨⟨by simp, by simp⟩, hx, i64_0, ⟨i64_0, i64_0⟩, ⟨i64_0, i64_0⟩, empty_le⟩
  have hc := (hP.step bh s m ⟨6, x, 0, (0, 0), (0, 0), ⟨#[]⟩⟩ h.j h.all h.up hm ho).text rfl w F h.g
  simp only [e] at hc
  exact hc.mono fun _ _ ⟨F', e, g, l, st⟩ => ⟨F', e, ⟨g, l, h.j, h.all, h.up⟩, st⟩

theorem KS.place {G : World → Nat → R → List Nat → Prop} {J : R → Prop} {w : World} {bh m : Nat} {s : R} {F : List Nat} (hP : KP G J) (h : KS G J w bh s F m) (hm : m ≤ 1125899906842624) (x : Int) (hx : I64 x) {a : Int} {er : Int} (e : (s.placeQ x) = (a, er)) :
    Calls Try.prog 37 #[.pointer (some ⟨bh, 0, none⟩), .int .i64 x] w fun e w' => ∃ F', e = .returned (.tuple #[.int .i64 a, .int .i64 er]) ∧ KS G J w' bh s F' m ∧ Stp F w F' w' := by
  have ho : LOp.Ok ⟨7, x, 0, (0, 0), (0, 0), ⟨#[]⟩⟩ := ⟨⟨by simp, by simp⟩, hx, i64_0, ⟨i64_0, i64_0⟩, ⟨i64_0, i64_0⟩, empty_le⟩
  have hc := (hP.step bh s m ⟨7, x, 0, (0, 0), (0, 0), ⟨#[]⟩⟩ h.j h.all h.up hm ho).place rfl w F h.g
  simp only [e] at hc
  exact hc.mono fun _ _ ⟨F', e, g, l, st⟩ => ⟨F', e, ⟨g, l, h.j, h.all, h.up⟩, st⟩

theorem KS.same {G : World → Nat → R → List Nat → Prop} {J : R → Prop} {w : World} {bh m : Nat} {s : R} {F : List Nat} (hP : KP G J) (h : KS G J w bh s F m) (hm : m ≤ 1125899906842624) (x : Int) (y : Int) (hx : I64 x) (hy : I64 y) {a : Bool} {er : Int} (e : (s.sameQ x y) = (a, er)) :
    Calls Try.prog 39 #[.pointer (some ⟨bh, 0, none⟩), .int .i64 x, .int .i64 y] w fun e w' => ∃ F', e = .returned (.tuple #[.bool a, .int .i64 er]) ∧ KS G J w' bh s F' m ∧ Stp F w F' w' := by
  have ho : LOp.Ok ⟨11, x, y, (0, 0), (0, 0), ⟨#[]⟩⟩ := ⟨⟨by simp, by simp⟩, hx, hy, ⟨i64_0, i64_0⟩, ⟨i64_0, i64_0⟩, empty_le⟩
  have hc := (hP.step bh s m ⟨11, x, y, (0, 0), (0, 0), ⟨#[]⟩⟩ h.j h.all h.up hm ho).same rfl w F h.g
  simp only [e] at hc
  exact hc.mono fun _ _ ⟨F', e, g, l, st⟩ => ⟨F', e, ⟨g, l, h.j, h.all, h.up⟩, st⟩

theorem KS.get {G : World → Nat → R → List Nat → Prop} {J : R → Prop} {w : World} {bh m : Nat} {s : R} {F : List Nat} (hP : KP G J) (h : KS G J w bh s F m) (hm : m ≤ 1125899906842624) (x : Int) (y : Int) (hx : I64 x) (hy : I64 y) {a : Int × Int} {er : Int} {s' : R} (e : (s.getQ x y) = (a, er, s')) :
    Calls Try.prog 38 #[.pointer (some ⟨bh, 0, none⟩), .int .i64 x, .int .i64 y] w fun e w' => ∃ F', e = .returned (.tuple #[.agg #[.int .i64 a.1, .int .i64 a.2], .int .i64 er]) ∧ KS G J w' bh s' F' (m + 1) ∧ Stp F w F' w' := by
  have ho : LOp.Ok ⟨9, x, y, (0, 0), (0, 0), ⟨#[]⟩⟩ := ⟨⟨by simp, by simp⟩, hx, hy, ⟨i64_0, i64_0⟩, ⟨i64_0, i64_0⟩, empty_le⟩
  have hc := (hP.step bh s m ⟨9, x, y, (0, 0), (0, 0), ⟨#[]⟩⟩ h.j h.all h.up hm ho).get rfl w F h.g
  simp only [e] at hc
  have eS : s.stepQ ⟨9, x, y, (0, 0), (0, 0), ⟨#[]⟩⟩ = s' := by
    have : s.stepQ ⟨9, x, y, (0, 0), (0, 0), ⟨#[]⟩⟩ = (s.getQ x y).2.2 := rfl
    rw [this, e]
  exact hc.mono fun _ _ ⟨F', e, g, l, st⟩ => ⟨F', e, ⟨g, l, by rw [← eS]; exact hP.keep s _ h.j h.all ho, by rw [← eS]; exact h.all.step _, by rw [← eS]; exact h.up.step _⟩, st⟩

theorem KS.find {G : World → Nat → R → List Nat → Prop} {J : R → Prop} {w : World} {bh m : Nat} {s : R} {F : List Nat} (hP : KP G J) (h : KS G J w bh s F m) (hm : m ≤ 1125899906842624) (x : Int) (k : Int × Int) (hx : I64 x) (hk : I64 k.1 ∧ I64 k.2) {a : Int × Int} {er : Int} {s' : R} (e : (s.findQ x k) = (a, er, s')) :
    Calls Try.prog 40 #[.pointer (some ⟨bh, 0, none⟩), .int .i64 x, .agg #[.int .i64 k.1, .int .i64 k.2]] w fun e w' => ∃ F', e = .returned (.tuple #[.agg #[.int .i64 a.1, .int .i64 a.2], .int .i64 er]) ∧ KS G J w' bh s' F' (m + 1) ∧ Stp F w F' w' := by
  have ho : LOp.Ok ⟨12, x, 0, k, (0, 0), ⟨#[]⟩⟩ := ⟨⟨by simp, by simp⟩, hx, i64_0, hk, ⟨i64_0, i64_0⟩, empty_le⟩
  have hc := (hP.step bh s m ⟨12, x, 0, k, (0, 0), ⟨#[]⟩⟩ h.j h.all h.up hm ho).find rfl w F h.g
  simp only [e] at hc
  have eS : s.stepQ ⟨12, x, 0, k, (0, 0), ⟨#[]⟩⟩ = s' := by
    have : s.stepQ ⟨12, x, 0, k, (0, 0), ⟨#[]⟩⟩ = (s.findQ x k).2.2 := rfl
    rw [this, e]
  exact hc.mono fun _ _ ⟨F', e, g, l, st⟩ => ⟨F', e, ⟨g, l, by rw [← eS]; exact hP.keep s _ h.j h.all ho, by rw [← eS]; exact h.all.step _, by rw [← eS]; exact h.up.step _⟩, st⟩

theorem KS.key {G : World → Nat → R → List Nat → Prop} {J : R → Prop} {w : World} {bh m : Nat} {s : R} {F : List Nat} (hP : KP G J) (h : KS G J w bh s F m) (hm : m ≤ 1125899906842624) (x : Int) (y : Int) (hx : I64 x) (hy : I64 y) {a : Int × Int} {er : Int} {s' : R} (e : (s.keyQ x y) = (a, er, s')) :
    Calls Try.prog 41 #[.pointer (some ⟨bh, 0, none⟩), .int .i64 x, .int .i64 y] w fun e w' => ∃ F', e = .returned (.tuple #[.agg #[.int .i64 a.1, .int .i64 a.2], .int .i64 er]) ∧ KS G J w' bh s' F' (m + 1) ∧ Stp F w F' w' := by
  have ho : LOp.Ok ⟨15, x, y, (0, 0), (0, 0), ⟨#[]⟩⟩ := ⟨⟨by simp, by simp⟩, hx, hy, ⟨i64_0, i64_0⟩, ⟨i64_0, i64_0⟩, empty_le⟩
  have hc := (hP.step bh s m ⟨15, x, y, (0, 0), (0, 0), ⟨#[]⟩⟩ h.j h.all h.up hm ho).key rfl w F h.g
  simp only [e] at hc
  have eS : s.stepQ ⟨15, x, y, (0, 0), (0, 0), ⟨#[]⟩⟩ = s' := by
    have : s.stepQ ⟨15, x, y, (0, 0), (0, 0), ⟨#[]⟩⟩ = (s.keyQ x y).2.2 := rfl
    rw [this, e]
  exact hc.mono fun _ _ ⟨F', e, g, l, st⟩ => ⟨F', e, ⟨g, l, by rw [← eS]; exact hP.keep s _ h.j h.all ho, by rw [← eS]; exact h.all.step _, by rw [← eS]; exact h.up.step _⟩, st⟩

theorem KS.set {G : World → Nat → R → List Nat → Prop} {J : R → Prop} {w : World} {bh m : Nat} {s : R} {F : List Nat} (hP : KP G J) (h : KS G J w bh s F m) (hm : m ≤ 1125899906842624) (x : Int) (y : Int) (v : Int × Int) (hx : I64 x) (hy : I64 y) (hv : I64 v.1 ∧ I64 v.2) {er : Int} {s' : R} (e : (s.setQ x y v) = (er, s')) :
    Calls Try.prog 62 #[.pointer (some ⟨bh, 0, none⟩), .int .i64 x, .int .i64 y, .agg #[.int .i64 v.1, .int .i64 v.2]] w fun e w' => ∃ F', e = .returned (.int .i64 er) ∧ KS G J w' bh s' F' (m + 1) ∧ Stp F w F' w' := by
  have ho : LOp.Ok ⟨10, x, y, (0, 0), v, ⟨#[]⟩⟩ := ⟨⟨by simp, by simp⟩, hx, hy, ⟨i64_0, i64_0⟩, hv, empty_le⟩
  have hc := (hP.step bh s m ⟨10, x, y, (0, 0), v, ⟨#[]⟩⟩ h.j h.all h.up hm ho).set rfl w F h.g
  simp only [e] at hc
  have eS : s.stepQ ⟨10, x, y, (0, 0), v, ⟨#[]⟩⟩ = s' := by
    have : s.stepQ ⟨10, x, y, (0, 0), v, ⟨#[]⟩⟩ = (s.setQ x y v).2 := rfl
    rw [this, e]
  exact hc.mono fun _ _ ⟨F', e, g, l, st⟩ => ⟨F', e, ⟨g, l, by rw [← eS]; exact hP.keep s _ h.j h.all ho, by rw [← eS]; exact h.all.step _, by rw [← eS]; exact h.up.step _⟩, st⟩

theorem KS.put {G : World → Nat → R → List Nat → Prop} {J : R → Prop} {w : World} {bh m : Nat} {s : R} {F : List Nat} (hP : KP G J) (h : KS G J w bh s F m) (hm : m ≤ 1125899906842624) (x : Int) (k : Int × Int) (v : Int × Int) (hx : I64 x) (hk : I64 k.1 ∧ I64 k.2) (hv : I64 v.1 ∧ I64 v.2) {er : Int} {s' : R} (e : (s.putQ x k v) = (er, s')) :
    Calls Try.prog 25 #[.pointer (some ⟨bh, 0, none⟩), .int .i64 x, .agg #[.int .i64 k.1, .int .i64 k.2], .agg #[.int .i64 v.1, .int .i64 v.2]] w fun e w' => ∃ F', e = .returned (.int .i64 er) ∧ KS G J w' bh s' F' (m + 1) ∧ Stp F w F' w' := by
  have ho : LOp.Ok ⟨13, x, 0, k, v, ⟨#[]⟩⟩ := ⟨⟨by simp, by simp⟩, hx, i64_0, hk, hv, empty_le⟩
  have hc := (hP.step bh s m ⟨13, x, 0, k, v, ⟨#[]⟩⟩ h.j h.all h.up hm ho).put rfl w F h.g
  simp only [e] at hc
  have eS : s.stepQ ⟨13, x, 0, k, v, ⟨#[]⟩⟩ = s' := by
    have : s.stepQ ⟨13, x, 0, k, v, ⟨#[]⟩⟩ = (s.putQ x k v).2 := rfl
    rw [this, e]
  exact hc.mono fun _ _ ⟨F', e, g, l, st⟩ => ⟨F', e, ⟨g, l, by rw [← eS]; exact hP.keep s _ h.j h.all ho, by rw [← eS]; exact h.all.step _, by rw [← eS]; exact h.up.step _⟩, st⟩

theorem KS.cut {G : World → Nat → R → List Nat → Prop} {J : R → Prop} {w : World} {bh m : Nat} {s : R} {F : List Nat} (hP : KP G J) (h : KS G J w bh s F m) (hm : m ≤ 1125899906842624) (x : Int) (k : Int × Int) (hx : I64 x) (hk : I64 k.1 ∧ I64 k.2) {er : Int} {s' : R} (e : (s.cutQ x k) = (er, s')) :
    Calls Try.prog 27 #[.pointer (some ⟨bh, 0, none⟩), .int .i64 x, .agg #[.int .i64 k.1, .int .i64 k.2]] w fun e w' => ∃ F', e = .returned (.int .i64 er) ∧ KS G J w' bh s' F' (m + 1) ∧ Stp F w F' w' := by
  have ho : LOp.Ok ⟨14, x, 0, k, (0, 0), ⟨#[]⟩⟩ := ⟨⟨by simp, by simp⟩, hx, i64_0, hk, ⟨i64_0, i64_0⟩, empty_le⟩
  have hc := (hP.step bh s m ⟨14, x, 0, k, (0, 0), ⟨#[]⟩⟩ h.j h.all h.up hm ho).cut rfl w F h.g
  simp only [e] at hc
  have eS : s.stepQ ⟨14, x, 0, k, (0, 0), ⟨#[]⟩⟩ = s' := by
    have : s.stepQ ⟨14, x, 0, k, (0, 0), ⟨#[]⟩⟩ = (s.cutQ x k).2 := rfl
    rw [this, e]
  exact hc.mono fun _ _ ⟨F', e, g, l, st⟩ => ⟨F', e, ⟨g, l, by rw [← eS]; exact hP.keep s _ h.j h.all ho, by rw [← eS]; exact h.all.step _, by rw [← eS]; exact h.up.step _⟩, st⟩

theorem KS.opens {G : World → Nat → R → List Nat → Prop} {J : R → Prop} {w : World} {bh m : Nat} {s : R} {F : List Nat} (hP : KP G J) (h : KS G J w bh s F m) (hm : m ≤ 1125899906842624)   {a : Int} {er : Int} {s' : R} (e : (s.openQ) = (a, er, s')) :
    Calls Try.prog 18 #[.pointer (some ⟨bh, 0, none⟩)] w fun e w' => ∃ F', e = .returned (.tuple #[.int .i64 a, .int .i64 er]) ∧ KS G J w' bh s' F' (m + 1) ∧ Stp F w F' w' := by
  have ho : LOp.Ok ⟨16, 0, 0, (0, 0), (0, 0), ⟨#[]⟩⟩ := ⟨⟨by simp, by simp⟩, i64_0, i64_0, ⟨i64_0, i64_0⟩, ⟨i64_0, i64_0⟩, empty_le⟩
  have hc := (hP.step bh s m ⟨16, 0, 0, (0, 0), (0, 0), ⟨#[]⟩⟩ h.j h.all h.up hm ho).opens rfl w F h.g
  simp only [e] at hc
  have eS : s.stepQ ⟨16, 0, 0, (0, 0), (0, 0), ⟨#[]⟩⟩ = s' := by
    have : s.stepQ ⟨16, 0, 0, (0, 0), (0, 0), ⟨#[]⟩⟩ = (s.openQ).2.2 := rfl
    rw [this, e]
  exact hc.mono fun _ _ ⟨F', e, g, l, st⟩ => ⟨F', e, ⟨g, l, by rw [← eS]; exact hP.keep s _ h.j h.all ho, by rw [← eS]; exact h.all.step _, by rw [← eS]; exact h.up.step _⟩, st⟩

theorem KS.close {G : World → Nat → R → List Nat → Prop} {J : R → Prop} {w : World} {bh m : Nat} {s : R} {F : List Nat} (hP : KP G J) (h : KS G J w bh s F m) (hm : m ≤ 1125899906842624) (x : Int) (hx : I64 x) {er : Int} {s' : R} (e : (s.closeQ x) = (er, s')) :
    Calls Try.prog 19 #[.pointer (some ⟨bh, 0, none⟩), .int .i64 x] w fun e w' => ∃ F', e = .returned (.int .i64 er) ∧ KS G J w' bh s' F' (m + 1) ∧ Stp F w F' w' := by
  have ho : LOp.Ok ⟨17, x, 0, (0, 0), (0, 0), ⟨#[]⟩⟩ := ⟨⟨by simp, by simp⟩, hx, i64_0, ⟨i64_0, i64_0⟩, ⟨i64_0, i64_0⟩, empty_le⟩
  have hc := (hP.step bh s m ⟨17, x, 0, (0, 0), (0, 0), ⟨#[]⟩⟩ h.j h.all h.up hm ho).close rfl w F h.g
  simp only [e] at hc
  have eS : s.stepQ ⟨17, x, 0, (0, 0), (0, 0), ⟨#[]⟩⟩ = s' := by
    have : s.stepQ ⟨17, x, 0, (0, 0), (0, 0), ⟨#[]⟩⟩ = (s.closeQ x).2 := rfl
    rw [this, e]
  exact hc.mono fun _ _ ⟨F', e, g, l, st⟩ => ⟨F', e, ⟨g, l, by rw [← eS]; exact hP.keep s _ h.j h.all ho, by rw [← eS]; exact h.all.step _, by rw [← eS]; exact h.up.step _⟩, st⟩

theorem KS.escape {G : World → Nat → R → List Nat → Prop} {J : R → Prop} {w : World} {bh m : Nat} {s : R} {F : List Nat} (hP : KP G J) (h : KS G J w bh s F m) (hm : m ≤ 1125899906842624) (x : Int) (hx : I64 x) {a : Int} {er : Int} {s' : R} (e : (s.escapeQ x) = (a, er, s')) :
    Calls Try.prog 42 #[.pointer (some ⟨bh, 0, none⟩), .int .i64 x] w fun e w' => ∃ F', e = .returned (.tuple #[.int .i64 a, .int .i64 er]) ∧ KS G J w' bh s' F' (m + 1) ∧ Stp F w F' w' := by
  have ho : LOp.Ok ⟨18, x, 0, (0, 0), (0, 0), ⟨#[]⟩⟩ := ⟨⟨by simp, by simp⟩, hx, i64_0, ⟨i64_0, i64_0⟩, ⟨i64_0, i64_0⟩, empty_le⟩
  have hc := (hP.step bh s m ⟨18, x, 0, (0, 0), (0, 0), ⟨#[]⟩⟩ h.j h.all h.up hm ho).escape rfl w F h.g
  simp only [e] at hc
  have eS : s.stepQ ⟨18, x, 0, (0, 0), (0, 0), ⟨#[]⟩⟩ = s' := by
    have : s.stepQ ⟨18, x, 0, (0, 0), (0, 0), ⟨#[]⟩⟩ = (s.escapeQ x).2.2 := rfl
    rw [this, e]
  exact hc.mono fun _ _ ⟨F', e, g, l, st⟩ => ⟨F', e, ⟨g, l, by rw [← eS]; exact hP.keep s _ h.j h.all ho, by rw [← eS]; exact h.all.step _, by rw [← eS]; exact h.up.step _⟩, st⟩

theorem KS.keep {G : World → Nat → R → List Nat → Prop} {J : R → Prop} {w : World} {bh m : Nat} {s : R} {F : List Nat} (hP : KP G J) (h : KS G J w bh s F m) (hm : m ≤ 1125899906842624) (x : Int) (hx : I64 x) {a : Int} {er : Int} {s' : R} (e : (s.keepQ x) = (a, er, s')) :
    Calls Try.prog 43 #[.pointer (some ⟨bh, 0, none⟩), .int .i64 x] w fun e w' => ∃ F', e = .returned (.tuple #[.int .i64 a, .int .i64 er]) ∧ KS G J w' bh s' F' (m + 1) ∧ Stp F w F' w' := by
  have ho : LOp.Ok ⟨19, x, 0, (0, 0), (0, 0), ⟨#[]⟩⟩ := ⟨⟨by simp, by simp⟩, hx, i64_0, ⟨i64_0, i64_0⟩, ⟨i64_0, i64_0⟩, empty_le⟩
  have hc := (hP.step bh s m ⟨19, x, 0, (0, 0), (0, 0), ⟨#[]⟩⟩ h.j h.all h.up hm ho).keep rfl w F h.g
  simp only [e] at hc
  have eS : s.stepQ ⟨19, x, 0, (0, 0), (0, 0), ⟨#[]⟩⟩ = s' := by
    have : s.stepQ ⟨19, x, 0, (0, 0), (0, 0), ⟨#[]⟩⟩ = (s.keepQ x).2.2 := rfl
    rw [this, e]
  exact hc.mono fun _ _ ⟨F', e, g, l, st⟩ => ⟨F', e, ⟨g, l, by rw [← eS]; exact hP.keep s _ h.j h.all ho, by rw [← eS]; exact h.all.step _, by rw [← eS]; exact h.up.step _⟩, st⟩

theorem KS.release {G : World → Nat → R → List Nat → Prop} {J : R → Prop} {w : World} {bh m : Nat} {s : R} {F : List Nat} (hP : KP G J) (h : KS G J w bh s F m) (hm : m ≤ 1125899906842624) (x : Int) (hx : I64 x) {er : Int} {s' : R} (e : (s.releaseQ x) = (er, s')) :
    Calls Try.prog 78 #[.pointer (some ⟨bh, 0, none⟩), .int .i64 x] w fun e w' => ∃ F', e = .returned (.int .i64 er) ∧ KS G J w' bh s' F' (m + 1) ∧ Stp F w F' w' := by
  have ho : LOp.Ok ⟨20, x, 0, (0, 0), (0, 0), ⟨#[]⟩⟩ := ⟨⟨by simp, by simp⟩, hx, i64_0, ⟨i64_0, i64_0⟩, ⟨i64_0, i64_0⟩, empty_le⟩
  have hc := (hP.step bh s m ⟨20, x, 0, (0, 0), (0, 0), ⟨#[]⟩⟩ h.j h.all h.up hm ho).release rfl w F h.g
  simp only [e] at hc
  have eS : s.stepQ ⟨20, x, 0, (0, 0), (0, 0), ⟨#[]⟩⟩ = s' := by
    have : s.stepQ ⟨20, x, 0, (0, 0), (0, 0), ⟨#[]⟩⟩ = (s.releaseQ x).2 := rfl
    rw [this, e]
  exact hc.mono fun _ _ ⟨F', e, g, l, st⟩ => ⟨F', e, ⟨g, l, by rw [← eS]; exact hP.keep s _ h.j h.all ho, by rw [← eS]; exact h.all.step _, by rw [← eS]; exact h.up.step _⟩, st⟩

theorem KS.collect {G : World → Nat → R → List Nat → Prop} {J : R → Prop} {w : World} {bh m : Nat} {s : R} {F : List Nat} (hP : KP G J) (h : KS G J w bh s F m) (hm : m ≤ 1125899906842624)   {er : Int} {s' : R} (e : (s.collectQ) = (er, s')) :
    Calls Try.prog 28 #[.pointer (some ⟨bh, 0, none⟩)] w fun e w' => ∃ F', e = .returned (.int .i64 er) ∧ KS G J w' bh s' F' (m + 1) ∧ Stp F w F' w' := by
  have ho : LOp.Ok ⟨21, 0, 0, (0, 0), (0, 0), ⟨#[]⟩⟩ := ⟨⟨by simp, by simp⟩, i64_0, i64_0, ⟨i64_0, i64_0⟩, ⟨i64_0, i64_0⟩, empty_le⟩
  have hc := (hP.step bh s m ⟨21, 0, 0, (0, 0), (0, 0), ⟨#[]⟩⟩ h.j h.all h.up hm ho).collect rfl w F h.g
  simp only [e] at hc
  have eS : s.stepQ ⟨21, 0, 0, (0, 0), (0, 0), ⟨#[]⟩⟩ = s' := by
    have : s.stepQ ⟨21, 0, 0, (0, 0), (0, 0), ⟨#[]⟩⟩ = (s.collectQ).2 := rfl
    rw [this, e]
  exact hc.mono fun _ _ ⟨F', e, g, l, st⟩ => ⟨F', e, ⟨g, l, by rw [← eS]; exact hP.keep s _ h.j h.all ho, by rw [← eS]; exact h.all.step _, by rw [← eS]; exact h.up.step _⟩, st⟩

theorem KS.words {G : World → Nat → R → List Nat → Prop} {J : R → Prop} {w : World} {bh m : Nat} {s : R} {F : List Nat} (hP : KP G J) (h : KS G J w bh s F m) (hm : m ≤ 1125899906842624) :
    Calls Try.prog 14 #[.pointer (some ⟨bh, 0, none⟩)] w fun e w' => ∃ a n c, e = .returned (.tuple #[.slice a n c, .int .i64 s.wordsE]) ∧ Out w w' a n c s.wordsQ ∧ KS G J w' bh s F m := by
  have ho : LOp.Ok ⟨8, 0, 0, (0, 0), (0, 0), ⟨#[]⟩⟩ := ⟨⟨by simp, by simp⟩, i64_0, i64_0, ⟨i64_0, i64_0⟩, ⟨i64_0, i64_0⟩, empty_le⟩
  exact ((hP.step bh s m ⟨8, 0, 0, (0, 0), (0, 0), ⟨#[]⟩⟩ h.j h.all h.up hm ho).words rfl w F h.g).mono fun _ _ ⟨a, n, c, e, o⟩ => ⟨a, n, c, e, o, h.chg hP o.chg (by simp)⟩

end Go.Proofs.Ytfoncalkgmeklaa

/- gripkeep's sure, begin and whole, of a program that keeps the document (KP). -/
namespace Go.Proofs.Ytfoncalkgmeklaa
open Go.RowKit

def sure0 : R := R.init 6 []
def sure1 : R := (sure0.arrayQ 1).2.2
def sure2 : R := (sure1.setQ 0 0 (1, 7)).2
def sure3 : R := sure2.collectQ.2
def sure4 : R := (sure3.getQ 0 0).2.2
def sure6 : R := (sure4.arrayQ 1).2.2
def sure8 : R := (sure6.arrayQ 0).2.2
theorem sure_1 : sure0.arrayQ 1 = (0, 0, sure1) := by kernel_rfl
theorem sure_2 : sure1.setQ 0 0 (1, 7) = (0, sure2) := by kernel_rfl
theorem sure_3 : sure2.collectQ = (0, sure3) := by kernel_rfl
theorem sure_4 : sure3.getQ 0 0 = ((1, 7), 0, sure4) := by kernel_rfl
theorem sure_5 : sure4.textQ 0 = (⟨#[]⟩, 5) := by kernel_rfl
theorem sure_6 : sure4.arrayQ 1 = (1, 0, sure6) := by kernel_rfl
theorem sure_7 : sure6.wordsQ.length = 6 ∧ sure6.wordsE = 0 := ⟨by kernel_rfl, by kernel_rfl⟩
theorem sure_8 : sure6.arrayQ 0 = (0, 12, sure8) := by kernel_rfl
/-- All that was changed is newer than w. -/
def Newer (w w' : World) (F : List Nat) : Prop := Chg [] w w' ∧ ∀ b ∈ F, w.heap.size ≤ b
theorem Newer.stp {w w1 w2 : World} {F F' : List Nat} (h : Newer w w1 F) (st : Stp F w1 F' w2) : Newer w w2 F' :=
  ⟨h.1.trans_new st.chg (fun x hx => .inr (h.2 x hx)), fun b hb => by
    rcases st.foot b hb with h8 | h8
    · exact h.2 b h8
    · exact Nat.le_trans h.1.size h8⟩
theorem Newer.chg {w w1 w2 : World} {F : List Nat} (h : Newer w w1 F) (k : Chg [] w1 w2) : Newer w w2 F := ⟨h.1.trans k, h.2⟩
/-- A block beside the heap stays. -/
def Beside (w : World) (g : Nat) (c : List Value) (T : TypeId) (F : List Nat) : Prop := Blk w g c T ∧ g ∉ F
theorem Beside.stp {w w' : World} {g : Nat} {c : List Value} {T : TypeId} {F F' : List Nat} (h : Beside w g c T F) (st : Stp F w F' w') : Beside w' g c T F' :=
  ⟨h.1.chg st.chg h.2, fun hm => by
    rcases st.foot g hm with h8 | h8
    · exact h.2 h8
    · have := h.1.lt; omega⟩
theorem Beside.chg {w w' : World} {g : Nat} {c : List Value} {T : TypeId} {F : List Nat} (h : Beside w g c T F) (k : Chg [] w w') : Beside w' g c T F := ⟨h.1.chg k (by simp), h.2⟩

set_option maxRecDepth 100000 in
set_option maxHeartbeats 4000000 in
theorem sure_any {G : World → Nat → R → List Nat → Prop} {J : R → Prop} (hP : KP G J) (w : World) : Calls Try.prog 31 #[] w fun e w' => e = .returned (.bool true) ∧ Chg [] w w' := by
  go_enter Try.func31, Try.ntmps31
  go_wp2_with fail
  refine (hP.new 6 none 0 0 [] w (by omega) (by omega) (by omega) rfl (by omega)).mono ?_
  rintro e w1 ⟨bh, F1, rfl, g1, f1, c1⟩
  have k1 : KS G J w1 bh sure0 F1 0 := ⟨g1, fun b hb => (f1 b hb).2, hP.init 6 [] (by omega) (by omega) (by simp), all_init (by omega) (by omega) (by simp), up_init 6 []⟩
  have n1 : Newer w w1 F1 := ⟨c1, fun b hb => (f1 b hb).1⟩
  have K1 := hide k1; have N1 := hide n1; clear g1 f1 c1 k1 n1
  go_wp2_with fail
  refine ((unhide K1).array hP (by omega) 1 ⟨by omega, by omega⟩ sure_1).mono ?_
  rintro e w2 ⟨F2, rfl, k2, st2⟩
  have K2 := hide k2; have N2 := hide ((unhide N1).stp st2); clear k2 st2 K1 N1
  go_wp2_with fail
  refine ((unhide K2).set hP (by omega) 0 0 (1, 7) i64_0 i64_0 ⟨⟨by simp, by simp⟩, ⟨by simp, by simp⟩⟩ sure_2).mono ?_
  rintro e w3 ⟨F3, rfl, k3, st3⟩
  have K3 := hide k3; have N3 := hide ((unhide N2).stp st3); clear k3 st3 K2 N2
  go_wp2_with fail
  refine ((unhide K3).collect hP (by omega) sure_3).mono ?_
  rintro e w4 ⟨F4, rfl, k4, st4⟩
  have K4 := hide k4; have N4 := hide ((unhide N3).stp st4); clear k4 st4 K3 N3
  go_wp2_with fail
  refine ((unhide K4).get hP (by omega) 0 0 i64_0 i64_0 sure_4).mono ?_
  rintro e w5 ⟨F5, rfl, k5, st5⟩
  have hb5 : Beside (w5.alloc (.cells #[.int .i64 1, .int .i64 7] 30)) w5.heap.size [.int .i64 1, .int .i64 7] 30 F5 := ⟨Blk.new w5 [.int .i64 1, .int .i64 7] _, fun hm => by have := k5.lt _ hm; omega⟩
  have K5 := hide (k5.chg hP ((Chg.refl [] w5).alloc (.cells #[.int .i64 1, .int .i64 7] 30)) (by simp)); have N5 := hide (((unhide N4).stp st5).chg ((Chg.refl [] w5).alloc (.cells #[.int .i64 1, .int .i64 7] 30))); have B5 := hide hb5; clear k5 st5 K4 N4 hb5
  go_wp2_with fail
  refine ((unhide K5).text hP (by omega) 0 i64_0 sure_5).mono ?_
  rintro e w6 ⟨F6, rfl, k6, st6⟩
  have K6 := hide k6; have N6 := hide ((unhide N5).stp st6); have B6 := hide ((unhide B5).stp st6); clear k6 st6 K5 N5 B5
  go_wp2_with fail
  refine ((unhide K6).array hP (by omega) 1 ⟨by omega, by omega⟩ sure_6).mono ?_
  rintro e w7 ⟨F7, rfl, k7, st7⟩
  have K7 := hide k7; have N7 := hide ((unhide N6).stp st7); have B7 := hide ((unhide B6).stp st7); clear k7 st7 K6 N6 B6
  go_wp2_with fail
  refine ((unhide K7).words hP (by omega)).mono ?_
  rintro e w8 ⟨la, n, c, rfl, o8, k8⟩
  have en : n = 6 := by rw [← o8.len, sure_7.1]
  rw [sure_7.2]
  subst en
  have K8 := hide k8; have N8 := hide ((unhide N7).chg o8.chg); have B8 := hide ((unhide B7).chg o8.chg); clear k8 o8 K7 N7 B7
  go_wp2_with fail
  refine ((unhide K8).array hP (by omega) 0 i64_0 sure_8).mono ?_
  rintro e w9 ⟨F9, rfl, k9, st9⟩
  have b9 := (unhide B8).stp st9
  have v0 := b9.1.cell_of (i := 0) rfl
  have v1 := b9.1.cell_of (i := 1) rfl
  have N9 := hide ((unhide N8).stp st9); clear k9 st9 K8 N8 B8 b9
  go_wp2
  go_ret
  exact ⟨by simp, (unhide N9).1⟩
/-- Where flags lie. -/
def FlagsAt (w : World) (a : Option Addr) (fs : List Bool) : Prop := 0 < fs.length → ∃ b off, a = some ⟨b, off, none⟩ ∧ b < w.heap.size ∧ ∀ j x, fs[j]? = some x → w.cell? ⟨b, off + j, none⟩ = some (.bool x)
theorem FlagsAt.chg {w w' : World} {a : Option Addr} {fs : List Bool} (h : FlagsAt w a fs) (k : Chg [] w w') : FlagsAt w' a fs := fun h0 => by
  obtain ⟨b, off, e, hl, hc⟩ := h h0
  exact ⟨b, off, e, Nat.lt_of_lt_of_le hl k.size, fun j x hj => by rw [k.cell (a := ⟨b, off + j, none⟩) hl (by simp)]; exact hc j x hj⟩
theorem FlagsAt.take {w : World} {a : Option Addr} {fs : List Bool} (h : FlagsAt w a fs) (n : Nat) : FlagsAt w a (fs.take n) := fun h0 => by
  obtain ⟨b, off, e, hl, hc⟩ := h (by simp only [List.length_take] at h0; omega)
  refine ⟨b, off, e, hl, fun j x hj => hc j x ?_⟩
  rw [List.getElem?_take] at hj
  split at hj
  · exact hj
  · exact absurd hj (by simp)

set_option maxRecDepth 100000 in
set_option maxHeartbeats 4000000 in
theorem kbegin_ok {G : World → Nat → R → List Nat → Prop} {J : R → Prop} (hP : KP G J) (l : Int) (a : Option Addr) (n c : Nat) (fs : List Bool) (w : World) (h1 : 1 ≤ l) (h2 : l ≤ 512) (hn : n ≤ 64) (hl : fs.length = n) (hf : FlagsAt w a fs) :
    Calls Try.prog 8 #[.int .i64 l, .slice a n c] w fun e w' => ∃ bh F, e = .returned (.tuple #[.pointer (some ⟨bh, 0, none⟩), .bool true]) ∧ KS G J w' bh (R.init l fs) F 0 ∧ Newer w w' F := by
  have hlt1 : ¬ l < 1 := by omega
  have hlt2 : ¬ 512 < l := by omega
  have hn' : ¬ (64 : Int) < (n : Int) := by omega
  have hn2 : ¬ 64 < n := by omega
  have HF := hide hf; have HL := hide hl; clear hf hl
  go_enter Try.func8, Try.ntmps8
  go_wp2_with fail
  refine (sure_any hP w).mono ?_
  rintro e w1 ⟨rfl, c1⟩
  have C1 := hide c1; clear c1
  go_wp2_with fail
  refine (hP.new l a n c fs w1 h1 h2 hn (unhide HL) (by have := (unhide HF).chg (unhide C1); unfold FlagsAt at this; rw [unhide HL] at this; exact this)).mono ?_
  rintro e w2 ⟨bh, F, rfl, g2, f2, c2⟩
  have k2 : KS G J w2 bh (R.init l fs) F 0 := ⟨g2, fun b hb => (f2 b hb).2, hP.init l fs h1 h2 (by rw [unhide HL]; exact hn), all_init h1 h2 (by rw [unhide HL]; exact hn), up_init l fs⟩
  have K2 := hide k2; have N2 := hide (show Newer w w2 F from ⟨(unhide C1).trans c2, fun b hb => Nat.le_trans (unhide C1).size (f2 b hb).1⟩); clear g2 f2 c2 k2
  go_wp2
  go_ret2
  exact ⟨bh, F, by simp, unhide K2, unhide N2⟩

set_option maxRecDepth 100000 in
set_option maxHeartbeats 4000000 in
theorem kbegin_bad {G : World → Nat → R → List Nat → Prop} {J : R → Prop} (hP : KP G J) (l : Int) (a : Option Addr) (n c : Nat) (w : World) (hb : l < 1 ∨ 512 < l ∨ 64 < n) :
    Calls Try.prog 8 #[.int .i64 l, .slice a n c] w fun e w' => e = .returned (.tuple #[.pointer none, .bool true]) ∧ Chg [] w w' := by
  have HB := hide hb
  go_enter Try.func8, Try.ntmps8
  clear hb
  go_wp2_with fail
  refine (sure_any hP w).mono ?_
  rintro e w1 ⟨rfl, c1⟩
  have C1 := hide c1; clear c1
  go_wp2_with fail
  refine (hP.bad l a n c w1 (unhide HB)).mono ?_
  rintro e w2 ⟨rfl, c2⟩
  have C2 := hide ((unhide C1).trans c2); clear c2
  have hb := unhide HB
  by_cases q1 : l < 1
  · go_wp2
    go_ret2
    exact ⟨by simp, unhide C2⟩
  by_cases q2 : 512 < l
  · go_wp2
    go_ret2
    exact ⟨by simp, unhide C2⟩
  have q3 : (64 : Int) < (n : Int) := by omega
  have q4 : 64 < n := by omega
  clear hb
  go_wp2
  go_ret2
  exact ⟨by simp, unhide C2⟩

set_option maxRecDepth 100000 in
set_option maxHeartbeats 4000000 in
theorem whole_any {G : World → Nat → R → List Nat → Prop} {J : R → Prop} (hP : KP G J) (a : Option Addr) (n c : Nat) (fs : List Bool) (w : World) (hl : fs.length = n) (hc : n ≤ c) (hf : FlagsAt w a fs) :
    Calls Try.prog 21 #[.slice a n c] w fun e w' => ∃ bh F, e = .returned (.tuple #[.pointer (some ⟨bh, 0, none⟩), .bool true]) ∧ KS G J w' bh (R.init 512 (fs.take 64)) F 0 ∧ Newer w w' F := by
  by_cases h : 64 < n
  · have hi : (64 : Int) < (n : Int) := by omega
    have h64 : 64 ≤ c := by omega
    have hi64 : (64 : Int) ≤ (c : Int) := by omega
    have HF := hide hf; have HL := hide hl; clear hf hl
    obtain ⟨b, off, rfl, _⟩ := unhide HF (by rw [unhide HL]; omega)
    go_enter Try.func21, Try.ntmps21
    go_wp2_with fail
    refine (kbegin_ok hP 512 _ 64 c (fs.take 64) w (by omega) (by omega) (by omega) (by rw [List.length_take, unhide HL]; omega) ((unhide HF).take 64)).mono ?_
    rintro e w1 ⟨bh, F, rfl, k, nn⟩
    have K := hide k; have NN := hide nn; clear k nn
    go_wp2
    go_ret2
    exact ⟨bh, F, by simp, unhide K, unhide NN⟩
  · have hi : ¬ (64 : Int) < (n : Int) := by omega
    have HF := hide hf; have HL := hide hl; clear hf hl
    go_enter Try.func21, Try.ntmps21
    go_wp2_with fail
    have et : fs.take 64 = fs := List.take_of_length_le (by rw [unhide HL]; omega)
    refine (kbegin_ok hP 512 a n c (fs.take 64) w (by omega) (by omega) (by omega) (by rw [et]; exact unhide HL) ((unhide HF).take 64)).mono ?_
    rintro e w1 ⟨bh, F, rfl, k, nn⟩
    have K := hide k; have NN := hide nn; clear k nn et
    go_wp2
    go_ret2
    exact ⟨bh, F, by simp, unhide K, unhide NN⟩
end Go.Proofs.Ytfoncalkgmeklaa

/- gripkeep's small functions. -/
namespace Go.Proofs.Ytfoncalkgmeklaa
open Go.RowKit

/-- Which of n things a raw number speaks of. -/
def pickQ (c n : Int) : Int := (if c < 0 then -(c + 1) else c) % n
theorem pickQ_lt (c : Int) {n : Int} (hn : 0 < n) : 0 ≤ pickQ c n ∧ pickQ c n < n := ⟨Int.emod_nonneg _ (by omega), Int.emod_lt_of_pos _ hn⟩
set_option maxHeartbeats 1000000 in
theorem pick_any (c n : Int) (w : World) (hc : I64 c) (hn : 0 < n) (hn2 : n ≤ 9223372036854775807) : Calls Try.prog 22 #[.int .i64 c, .int .i64 n] w fun e w' => e = .returned (.int .i64 (pickQ c n)) ∧ w' = w := by
  obtain ⟨h1, h2⟩ := hc
  have hn0 : ¬ n = 0 := by omega
  by_cases h : c < 0
  · have e : pickQ c n = (-(c + 1)) % n := by simp [pickQ, h]
    rw [e]
    clear e
    have h3 : -9223372036854775808 ≤ c + 1 := by omega
    have h4 : c + 1 ≤ 9223372036854775807 := by omega
    have h5 : 0 ≤ -(c + 1) := by omega
    go_enter Try.func22, Try.ntmps22
    go_wp2
    go_ret
    have e2 : -(c + 1).tmod n = -(c + 1) % n := by rw [← Int.neg_tmod, Int.tmod_eq_emod_of_nonneg h5]
    exact ⟨by simp [e2], rfl⟩
  · have e : pickQ c n = c % n := by simp [pickQ, h]
    rw [e]
    clear e
    go_enter Try.func22, Try.ntmps22
    go_wp2
    go_ret
    exact ⟨by simp, rfl⟩

set_option maxHeartbeats 1000000 in
theorem number_any (n : Int) (w : World) : Calls Try.prog 26 #[.int .i64 n] w fun e w' => e = .returned (.agg #[.int .i64 1, .int .i64 n]) ∧ Chg [] w w' := by
  go_enter Try.func26, Try.ntmps26
  have k : Chg [] w (w.alloc (.cells #[.int .i64 1, .int .i64 n] 30)) := (Chg.refl [] w).alloc _
  have b := Blk.new w [.int .i64 1, .int .i64 n] 30
  have q0 := b.cell_of (i := 0) rfl
  have q1 := b.cell_of (i := 1) rfl
  have Q0 := hide q0; have Q1 := hide q1; have K := hide k; clear q0 q1 k b
  go_wp2
  have q0 := unhide Q0
  have q1 := unhide Q1
  exact bodyPost_ret (v := .agg #[.int .i64 1, .int .i64 n]) (by simp [results, Try.results26, go_sem, q0, q1]) rfl ⟨rfl, unhide K⟩

/-- Does the call make a handle, by this answer? -/
def handlesQ (o : LOp) (a : Ans) : Int × Bool :=
  if a.e ≠ 0 then (0, false)
  else if o.kind = 1 ∨ o.kind = 2 ∨ o.kind = 3 ∨ o.kind = 22 ∨ o.kind = 23 ∨ o.kind = 18 ∨ o.kind = 19 then (a.n, true)
  else if o.kind = 9 ∨ o.kind = 12 ∨ o.kind = 15 then (a.v.2, a.v.1 == 2)
  else (0, false)
set_option maxRecDepth 100000 in
set_option maxHeartbeats 4000000 in
theorem handles_any (o : LOp) (a : Ans) (w : World) : Calls Try.prog 10 #[o.val, a.val] w fun e w' => e = .returned (.tuple #[.int .i64 (handlesQ o a).1, .bool (handlesQ o a).2]) ∧ Chg [] w w' := by
  obtain ⟨kind, x, y, k, v, t⟩ := o
  obtain ⟨e, n, b, s, u⟩ := a
  unfold LOp.val Ans.val
  have hch : Chg [] w ((w.alloc (.cells (LOp.cells ⟨kind, x, y, k, v, t⟩).toArray 35)).alloc (.cells (Ans.cells ⟨e, n, b, s, u⟩).toArray 32)) := ((Chg.refl [] w).alloc _).alloc _
  by_cases he : e = 0
  · subst he
    by_cases hk : kind = 1 ∨ kind = 2 ∨ kind = 3 ∨ kind = 22 ∨ kind = 23 ∨ kind = 18 ∨ kind = 19
    · have eq : handlesQ ⟨kind, x, y, k, v, t⟩ ⟨0, n, b, s, u⟩ = (n, true) := by simp [handlesQ, hk]
      rw [eq]
      have HC := hide hch; clear hch eq
      rcases hk with rfl | rfl | rfl | rfl | rfl | rfl | rfl
      all_goals
        go_enter Try.func10, Try.ntmps10
        go_wp2
        go_ret2
        exact ⟨by simp, unhide HC⟩
    by_cases hv : kind = 9 ∨ kind = 12 ∨ kind = 15
    · have eq : handlesQ ⟨kind, x, y, k, v, t⟩ ⟨0, n, b, s, u⟩ = (u.2, u.1 == 2) := by simp only [handlesQ]; rw [if_neg (by simp), if_neg hk, if_pos hv]
      rw [eq]
      have HC := hide hch; clear hch eq hk
      rcases hv with rfl | rfl | rfl
      all_goals
        go_enter Try.func10, Try.ntmps10
        go_wp2_with fail
        go_region
        go_wp2
        go_ret2
        exact ⟨by simp, (unhide HC).drew⟩
    · have eq : handlesQ ⟨kind, x, y, k, v, t⟩ ⟨0, n, b, s, u⟩ = (0, false) := by simp only [handlesQ]; rw [if_neg (by simp), if_neg hk, if_neg hv]
      rw [eq]
      have HC := hide hch; clear hch eq
      have n1 : (kind == 1) = false := by simp; omega
      have n2 : (kind == 2) = false := by simp; omega
      have n3 : (kind == 3) = false := by simp; omega
      have n22 : (kind == 22) = false := by simp; omega
      have n23 : (kind == 23) = false := by simp; omega
      have n18 : (kind == 18) = false := by simp; omega
      have n19 : (kind == 19) = false := by simp; omega
      have n9 : (kind == 9) = false := by simp; omega
      have n12 : (kind == 12) = false := by simp; omega
      have n15 : (kind == 15) = false := by simp; omega
      clear hk hv
      go_enter Try.func10, Try.ntmps10
      go_wp2
      go_ret2
      exact ⟨by simp, unhide HC⟩
  · have eq : handlesQ ⟨kind, x, y, k, v, t⟩ ⟨e, n, b, s, u⟩ = (0, false) := by simp [handlesQ, he]
    rw [eq]
    have hne : (e != 0) = true := by simp [he]
    have HC := hide hch; clear hch eq he
    go_enter Try.func10, Try.ntmps10
    go_wp2
    go_ret2
    exact ⟨by simp, unhide HC⟩
end Go.Proofs.Ytfoncalkgmeklaa

import Derived.Test.YtfoncalkgmeklaaGreatYwM18

/- Small functions of memory over bytes. -/
namespace Go.Proofs.YtfoncalkgmeklaaGreat
open Go.RowKit

theorem wordOfByte_any (p i : Nat) (w : World) (hp : p ≤ 1000000) (hi : i ≤ 1000000) :
    Calls Tryz.prog 119 #[.int .i64 (p : Int), .int .i64 (i : Int)] w fun e w' => e = .returned (.int .i64 ((p + 1 + i / 8 : Nat) : Int)) ∧ w' = w := by
  have hd : Int.tdiv (i : Int) 8 = ((i / 8 : Nat) : Int) := by rw [Int.tdiv_eq_ediv_of_nonneg (by omega)]; omega
  have h8 : i / 8 ≤ 1000000 := by omega
  generalize i / 8 = q at *
  go_enter Tryz.func119, Tryz.ntmps119
  go_wp2
  go_ret
  refine ⟨?_, rfl⟩
  simp
theorem shiftOfByte_any (i : Nat) (w : World) (hi : i ≤ 1000000) :
    Calls Tryz.prog 120 #[.int .i64 (i : Int)] w fun e w' => e = .returned (.int .u64 ((8 * (i % 8) : Nat) : Int)) ∧ w' = w := by
  have hd : Int.tmod (i : Int) 8 = ((i % 8 : Nat) : Int) := by rw [Int.tmod_eq_emod_of_nonneg (by omega)]; omega
  have h8 : i % 8 < 8 := by omega
  generalize i % 8 = q at *
  go_enter Tryz.func120, Tryz.ntmps120
  go_wp2
  go_ret
  refine ⟨?_, rfl⟩
  simp
  omega
end Go.Proofs.YtfoncalkgmeklaaGreat

/- Bytes in words, reckoned. -/
namespace Go.Proofs.YtfoncalkgmeklaaGreat
open Go.RowKit

theorem w64 (x : Int) : wrap64 x = (x + 9223372036854775808) % 18446744073709551616 - 9223372036854775808 := by
  have : wrap64 x = IntKind.i64.wrap x := by simp [wrap64, IntKind.wrap_i64]
  rw [this, IntKind.wrap_i64]
def byteAt (t : ByteArray) (i : Nat) : Int := if h : i < t.size then (t[i].toNat : Int) else 0
theorem byteAt_bd (t : ByteArray) (i : Nat) : 0 ≤ byteAt t i ∧ byteAt t i < 256 := by
  unfold byteAt
  split
  · rename_i h; have := t[i].toNat_lt; omega
  · omega
def sum8 (f : Nat → Int) : Int := f 0 + f 1 * 256 + f 2 * 65536 + f 3 * 16777216 + f 4 * 4294967296 + f 5 * 1099511627776 + f 6 * 281474976710656 + f 7 * 72057594037927936
def hornerTo (t : ByteArray) (i : Nat) : Nat → Int
  | 0 => 0
  | j + 1 => hornerTo t i j * 256 + byteAt t (i + 7 - j)
theorem packTo_horner (t : ByteArray) (i : Nat) : ∀ j, packTo t i j = wrap64 (hornerTo t i j)
  | 0 => by simp [packTo, hornerTo, w64]
  | j + 1 => by
    have ih := packTo_horner t i j
    unfold packTo hornerTo byteAt
    split
    · rw [ih]
      simp only [w64]
      omega
    · rw [ih]
      simp only [w64]
      omega
theorem packTo_sum (t : ByteArray) (i : Nat) : packTo t i 8 = wrap64 (sum8 fun j => byteAt t (i + j)) := by
  rw [packTo_horner]
  congr 1
  simp only [hornerTo, sum8]
  simp only [show i + 7 - 7 = i + 0 by omega, show i + 7 - 6 = i + 1 by omega, show i + 7 - 5 = i + 2 by omega, show i + 7 - 4 = i + 3 by omega, show i + 7 - 3 = i + 4 by omega, show i + 7 - 2 = i + 5 by omega, show i + 7 - 1 = i + 6 by omega, show i + 7 - 0 = i + 7 by omega]
  omega
/-- A word of a text whose first i bytes have been laid. -/
def fillTo (t : ByteArray) (i m : Nat) : Int := wrap64 (sum8 fun j => if 8 * m + j < i then byteAt t (8 * m + j) else 0)
theorem fillTo_zero (t : ByteArray) (m : Nat) : fillTo t 0 m = 0 := by simp [fillTo, sum8, w64]
theorem fillTo_full (t : ByteArray) {i : Nat} (h : t.size ≤ i) (m : Nat) : fillTo t i m = packTo t (8 * m) 8 := by
  rw [packTo_sum]
  unfold fillTo
  congr 2
  funext j
  split
  · rfl
  · rename_i hn
    unfold byteAt
    rw [dif_neg (by omega)]
theorem fillTo_other (t : ByteArray) {i m : Nat} (h : m ≠ i / 8) : fillTo t (i + 1) m = fillTo t i m := by
  unfold fillTo
  simp only [sum8]
  have e : ∀ j, j < 8 → ((8 * m + j < i + 1) ↔ (8 * m + j < i)) := by intro j hj; omega
  simp only [e 0 (by omega), e 1 (by omega), e 2 (by omega), e 3 (by omega), e 4 (by omega), e 5 (by omega), e 6 (by omega), e 7 (by omega)]
theorem sum8_step (t : ByteArray) (q r : Nat) (hr : r < 8) : (sum8 fun j => if 8 * q + j < 8 * q + r + 1 then byteAt t (8 * q + j) else 0) = (sum8 fun j => if 8 * q + j < 8 * q + r then byteAt t (8 * q + j) else 0) + byteAt t (8 * q + r) * 2 ^ (8 * r) := by
  have hc : r = 0 ∨ r = 1 ∨ r = 2 ∨ r = 3 ∨ r = 4 ∨ r = 5 ∨ r = 6 ∨ r = 7 := by omega
  have e : ∀ j k : Nat, (8 * q + j < 8 * q + k + 1) ↔ j < k + 1 := by intro j k; omega
  have e' : ∀ j k : Nat, (8 * q + j < 8 * q + k) ↔ j < k := by intro j k; omega
  simp only [e, e', sum8]
  rcases hc with rfl | rfl | rfl | rfl | rfl | rfl | rfl | rfl <;> simp
theorem fillTo_step (t : ByteArray) (i : Nat) : wrap64 (fillTo t i (i / 8) + wrap64 (byteAt t i * 2 ^ (8 * (i % 8)))) = fillTo t (i + 1) (i / 8) := by
  have h := sum8_step t (i / 8) (i % 8) (by omega)
  rw [show 8 * (i / 8) + i % 8 = i by omega] at h
  unfold fillTo
  rw [h]
  generalize (sum8 fun j => if 8 * (i / 8) + j < i then byteAt t (8 * (i / 8) + j) else 0) = x
  generalize byteAt t i * 2 ^ (8 * (i % 8)) = y
  simp only [w64]
  omega
def fillWords (t : ByteArray) (i n : Nat) : List Int := (List.range n).map (fillTo t i)
theorem fillWords_len (t : ByteArray) (i n : Nat) : (fillWords t i n).length = n := by simp [fillWords]
theorem fillWords_at (t : ByteArray) {i n m : Nat} (h : m < n) : (fillWords t i n).getD m 0 = fillTo t i m := by
  simp [fillWords, List.getD, h]
theorem fillWords_zero (t : ByteArray) (n : Nat) : fillWords t 0 n = List.replicate n 0 := by
  apply List.ext_getElem?
  intro m
  by_cases h : m < n
  · simp [fillWords, h, fillTo_zero]
  · simp [fillWords, h]
theorem fillWords_full (t : ByteArray) {i : Nat} (h : t.size ≤ i) : ∀ n, fillWords t i n = textTo t n
  | 0 => rfl
  | n + 1 => by
    have ih := fillWords_full t h n
    unfold fillWords at ih ⊢
    rw [List.range_succ, List.map_append, ih]
    simp [textTo, fillTo_full t h]
theorem fillWords_step (t : ByteArray) {i n : Nat} (h : i / 8 < n) : (fillWords t i n).set (i / 8) (fillTo t (i + 1) (i / 8)) = fillWords t (i + 1) n := by
  apply List.ext_getElem?
  intro m
  rw [List.getElem?_set]
  by_cases hm : i / 8 = m
  · subst hm
    simp [fillWords, h]
  · rw [if_neg hm]
    by_cases hn : m < n
    · simp [fillWords, hn, fillTo_other t (Ne.symm hm)]
    · simp [fillWords, hn]
/-- A byte, read out of its word. -/
theorem byte_out {f : Nat → Int} (hf : ∀ j, 0 ≤ f j ∧ f j < 256) {r : Nat} (hr : r < 8) : (wrap64 (sum8 f)).fdiv (2 ^ (8 * r)) % 256 = f r := by
  have h0 := hf 0; have h1 := hf 1; have h2 := hf 2; have h3 := hf 3; have h4 := hf 4; have h5 := hf 5; have h6 := hf 6; have h7 := hf 7
  have hS : sum8 f = f 0 + f 1 * 256 + f 2 * 65536 + f 3 * 16777216 + f 4 * 4294967296 + f 5 * 1099511627776 + f 6 * 281474976710656 + f 7 * 72057594037927936 := rfl
  have hc : r = 0 ∨ r = 1 ∨ r = 2 ∨ r = 3 ∨ r = 4 ∨ r = 5 ∨ r = 6 ∨ r = 7 := by omega
  rw [Int.fdiv_eq_ediv_of_nonneg _ (Int.pow_nonneg (by omega)), w64]
  have hb : 0 ≤ sum8 f ∧ sum8 f < 18446744073709551616 := by rw [hS]; omega
  have key : ∀ S : Int, 0 ≤ S → S < 18446744073709551616 → ∀ d : Int, (d = 1 ∨ d = 256 ∨ d = 65536 ∨ d = 16777216 ∨ d = 4294967296 ∨ d = 1099511627776 ∨ d = 281474976710656 ∨ d = 72057594037927936) → ((S + 9223372036854775808) % 18446744073709551616 - 9223372036854775808) / d % 256 = S / d % 256 := by
    intro S h1 h2 d hd
    have : (S + 9223372036854775808) % 18446744073709551616 - 9223372036854775808 = S ∨ (S + 9223372036854775808) % 18446744073709551616 - 9223372036854775808 = S - 18446744073709551616 := by omega
    rcases this with h | h
    · rw [h]
    · rw [h]
      rcases hd with rfl | rfl | rfl | rfl | rfl | rfl | rfl | rfl <;> omega
  rcases hc with rfl | rfl | rfl | rfl | rfl | rfl | rfl | rfl
  · rw [show ((2 : Int) ^ (8 * 0)) = 1 by decide, key _ hb.1 hb.2 1 (by decide), hS]; omega
  · rw [show ((2 : Int) ^ (8 * 1)) = 256 by decide, key _ hb.1 hb.2 256 (by decide), hS]; omega
  · rw [show ((2 : Int) ^ (8 * 2)) = 65536 by decide, key _ hb.1 hb.2 65536 (by decide), hS]; omega
  · rw [show ((2 : Int) ^ (8 * 3)) = 16777216 by decide, key _ hb.1 hb.2 16777216 (by decide), hS]; omega
  · rw [show ((2 : Int) ^ (8 * 4)) = 4294967296 by decide, key _ hb.1 hb.2 4294967296 (by decide), hS]; omega
  · rw [show ((2 : Int) ^ (8 * 5)) = 1099511627776 by decide, key _ hb.1 hb.2 1099511627776 (by decide), hS]; omega
  · rw [show ((2 : Int) ^ (8 * 6)) = 281474976710656 by decide, key _ hb.1 hb.2 281474976710656 (by decide), hS]; omega
  · rw [show ((2 : Int) ^ (8 * 7)) = 72057594037927936 by decide, key _ hb.1 hb.2 72057594037927936 (by decide), hS]; omega
end Go.Proofs.YtfoncalkgmeklaaGreat

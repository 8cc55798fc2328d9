import Derived.Test.YtfoncalkgmeklaaXwM42
import Derived.Test.YtfoncalkgmeklaaXwM4
import Derived.Test.YtfoncalkgmeklaaXwM17
import Derived.Test.YtfoncalkgmeklaaXwM23

/- gripkeep's count, sized and where; waste. -/
namespace Go.Proofs.Ytfoncalkgmeklaa
open Go.RowKit

theorem IntsAt.chg {w w' : World} {a : Option Addr} {l : List Int} (h : IntsAt w a l) (k : Chg [] w w') : IntsAt w' a l := fun h0 => by
  obtain ⟨b, off, e, hl, hc⟩ := h h0
  exact ⟨b, off, e, Nat.lt_of_lt_of_le hl k.size, fun j x hj => by rw [k.cell (a := ⟨b, off + j, none⟩) hl (by simp)]; exact hc j x hj⟩
theorem Out.at {w wr : World} {a : Option Addr} {n c : Nat} {ys : List Int} (h : Out w wr a n c ys) : IntsAt wr a ys := fun h0 => by
  have hl := h.len
  obtain ⟨g, e, hg, hc⟩ := owns_at h.own (by omega)
  exact ⟨g, 0, e, hg, fun j x hj => by rw [Nat.zero_add]; exact hc j _ (by simp [ints, hj])⟩

/-- How many words an object takes. -/
def countQ (k n : Int) : Int := if k = 1 then 1 + 2 * n else if k = 2 then 1 + (n + 7) / 8 else 2 + 4 * n
set_option maxHeartbeats 1000000 in
theorem count_any (k n : Int) (w : World) (h0 : 0 ≤ n) (h1 : n ≤ 65535) : Calls Try.prog 47 #[.int .i64 k, .int .i64 n] w fun e w' => e = .returned (.int .i64 (countQ k n)) ∧ w' = w := by
  have h2 : 0 ≤ n + 7 := by omega
  by_cases k1 : k = 1
  · subst k1
    have e : countQ 1 n = 1 + 2 * n := by simp [countQ]
    rw [e]; clear e
    go_enter Try.func47, Try.ntmps47
    go_wp2
    go_ret
    exact ⟨by simp, rfl⟩
  by_cases k2 : k = 2
  · subst k2
    have e : countQ 2 n = 1 + (n + 7) / 8 := by simp [countQ]
    rw [e]; clear e
    have h3 : 0 ≤ (n + 7) / 8 := by omega
    have h4 : (n + 7) / 8 ≤ 65535 := by omega
    go_enter Try.func47, Try.ntmps47
    go_wp2
    go_ret
    exact ⟨by simp, rfl⟩
  · have e : countQ k n = 2 + 4 * n := by simp [countQ, k1, k2]
    rw [e]; clear e
    have n1 : (k == 1) = false := by simp [k1]
    have n2 : (k == 2) = false := by simp [k2]
    clear k1 k2
    go_enter Try.func47, Try.ntmps47
    go_wp2
    go_ret
    exact ⟨by simp, rfl⟩

/-- The word at a place. -/
def headQ (l : List Int) (p : Int) : Int := l.getD p.toNat 0
def wideQ (k n : Int) : Prop := 3 < k ∨ (k = 1 ∧ 16 < n) ∨ (k = 2 ∧ 64 < n) ∨ (k = 3 ∧ 8 < n)
instance (k n : Int) : Decidable (wideQ k n) := by unfold wideQ; infer_instance
/-- The object that begins at a place. -/
def sizedQ (l : List Int) (p : Int) : Int × Int × Int × Bool :=
  if p < 0 ∨ (l.length : Int) ≤ p ∨ headQ l p < 65536 then (0, 0, 0, false)
  else if wideQ (headQ l p / 65536) (headQ l p % 65536) then (0, 0, 0, false)
  else (headQ l p / 65536, headQ l p % 65536, countQ (headQ l p / 65536) (headQ l p % 65536), decide (p + countQ (headQ l p / 65536) (headQ l p % 65536) ≤ (l.length : Int)))
def sizedV (r : Int × Int × Int × Bool) : Value := .tuple #[.int .i64 r.1, .int .i64 r.2.1, .int .i64 r.2.2.1, .bool r.2.2.2]
theorem sized_ret {w : World} {T : Array Value} {r : Int × Int × Int × Bool} {P : Ending → World → Prop} (h4 : T[4]? = some (.int .i64 r.1)) (h5 : T[5]? = some (.int .i64 r.2.1)) (h6 : T[6]? = some (.int .i64 r.2.2.1)) (h7 : T[7]? = some (.bool r.2.2.2)) (hp : P (.returned (sizedV r)) w) :
    bodyPost Try.prog Try.f45 P Exit.ret ⟨T, []⟩ w :=
  bodyPost_ret (v := sizedV r) (by simp [results, Try.results45, go_sem, sizedV, h4, h5, h6, h7]) rfl hp

set_option maxRecDepth 100000 in
set_option maxHeartbeats 4000000 in
theorem sized_any (a : Option Addr) (n c : Nat) (l : List Int) (p : Int) (w : World) (hl : l.length = n) (hn : n ≤ 1000000) (hp : I64 p) (ha : IntsAt w a l) (hv : I64 (headQ l p)) :
    Calls Try.prog 45 #[.slice a n c, .int .i64 p] w fun e w' => e = .returned (sizedV (sizedQ l p)) ∧ w' = w := by
  by_cases p0 : p < 0
  · have e : sizedQ l p = (0, 0, 0, false) := by simp [sizedQ, p0]
    rw [e]; clear e ha hv
    go_enter Try.func45, Try.ntmps45
    go_wp2
    exact sized_ret rfl rfl rfl rfl ⟨rfl, rfl⟩
  by_cases p1 : (n : Int) ≤ p
  · have e : sizedQ l p = (0, 0, 0, false) := by simp [sizedQ, hl, p1]
    rw [e]; clear e ha hv
    have p2 : ¬ p < (n : Int) := by omega
    go_enter Try.func45, Try.ntmps45
    go_wp2
    exact sized_ret rfl rfl rfl rfl ⟨rfl, rfl⟩
  obtain ⟨q, rfl⟩ : ∃ q : Nat, p = (q : Int) := ⟨p.toNat, by omega⟩
  have hq : q < l.length := by omega
  have ev : l[q]? = some (headQ l q) := by simp [headQ, List.getD, List.getElem?_eq_getElem hq]
  obtain ⟨b, off, rfl, hb, hc⟩ := ha (by omega)
  have cv := hc q _ ev
  have hvi := hv
  have hqn : (q : Int) < (n : Int) := by omega
  have hqn' : q < n := by omega
  have hsz : sizedQ l q = if headQ l q < 65536 then (0, 0, 0, false) else if wideQ (headQ l q / 65536) (headQ l q % 65536) then (0, 0, 0, false) else (headQ l q / 65536, headQ l q % 65536, countQ (headQ l q / 65536) (headQ l q % 65536), decide ((q : Int) + countQ (headQ l q / 65536) (headQ l q % 65536) ≤ (n : Int))) := by
    simp only [sizedQ, hl]
    by_cases h8 : headQ l q < 65536
    · rw [if_pos (.inr (.inr h8)), if_pos h8]
    · rw [if_neg (by omega), if_neg h8]
  rw [hsz]
  clear hsz hc ev hv hb ha
  generalize headQ l q = v at *
  obtain ⟨hv1, hv2⟩ := hvi
  by_cases h8 : v < 65536
  · rw [if_pos h8]
    go_enter Try.func45, Try.ntmps45
    go_wp2
    exact sized_ret rfl rfl rfl rfl ⟨rfl, rfl⟩
  rw [if_neg h8]
  have hk0 : 0 ≤ v := by omega
  have hk1 : 0 ≤ v / 65536 := by omega
  have hs0 : 0 ≤ v % 65536 := by omega
  have hs1 : v % 65536 ≤ 65535 := by omega
  by_cases w1 : 3 < v / 65536
  · rw [if_pos (.inl w1)]
    go_enter Try.func45, Try.ntmps45
    go_wp2
    exact sized_ret rfl rfl rfl rfl ⟨rfl, rfl⟩
  by_cases k1 : v / 65536 = 1
  · rw [k1]
    by_cases s1 : 16 < v % 65536
    · rw [if_pos (by simp [wideQ, s1])]
      go_enter Try.func45, Try.ntmps45
      go_wp2
      exact sized_ret rfl rfl rfl rfl ⟨rfl, rfl⟩
    · rw [if_neg (by simp only [wideQ]; omega)]
      have hcq : 0 ≤ countQ 1 (v % 65536) ∧ countQ 1 (v % 65536) ≤ 300000 := by simp only [countQ]; omega
      have hcc := count_any 1 (v % 65536) w hs0 hs1
      generalize countQ 1 (v % 65536) = cq at *
      obtain ⟨hcq0, hcq1⟩ := hcq
      have hcq2 : (q : Int) + cq ≤ 9223372036854775807 := by omega
      have hcq3 : -9223372036854775808 ≤ (q : Int) + cq := by omega
      have HCC := hide hcc; clear hcc
      go_enter Try.func45, Try.ntmps45
      go_wp2_with (go_at_call 47; refine (unhide HCC).mono ?_; rintro e w2 ⟨rfl, rfl⟩)
      exact sized_ret rfl rfl rfl rfl ⟨rfl, rfl⟩
  by_cases k2 : v / 65536 = 2
  · rw [k2]
    by_cases s1 : 64 < v % 65536
    · rw [if_pos (by simp [wideQ, s1])]
      go_enter Try.func45, Try.ntmps45
      go_wp2
      exact sized_ret rfl rfl rfl rfl ⟨rfl, rfl⟩
    · rw [if_neg (by simp only [wideQ]; omega)]
      have hcq : 0 ≤ countQ 2 (v % 65536) ∧ countQ 2 (v % 65536) ≤ 300000 := by simp only [countQ]; omega
      have hcc := count_any 2 (v % 65536) w hs0 hs1
      generalize countQ 2 (v % 65536) = cq at *
      obtain ⟨hcq0, hcq1⟩ := hcq
      have hcq2 : (q : Int) + cq ≤ 9223372036854775807 := by omega
      have hcq3 : -9223372036854775808 ≤ (q : Int) + cq := by omega
      have HCC := hide hcc; clear hcc
      go_enter Try.func45, Try.ntmps45
      go_wp2_with (go_at_call 47; refine (unhide HCC).mono ?_; rintro e w2 ⟨rfl, rfl⟩)
      exact sized_ret rfl rfl rfl rfl ⟨rfl, rfl⟩
  by_cases k3 : v / 65536 = 3
  · rw [k3]
    by_cases s1 : 8 < v % 65536
    · rw [if_pos (by simp [wideQ, s1])]
      go_enter Try.func45, Try.ntmps45
      go_wp2
      exact sized_ret rfl rfl rfl rfl ⟨rfl, rfl⟩
    · rw [if_neg (by simp only [wideQ]; omega)]
      have hcq : 0 ≤ countQ 3 (v % 65536) ∧ countQ 3 (v % 65536) ≤ 300000 := by simp only [countQ]; omega
      have hcc := count_any 3 (v % 65536) w hs0 hs1
      generalize countQ 3 (v % 65536) = cq at *
      obtain ⟨hcq0, hcq1⟩ := hcq
      have hcq2 : (q : Int) + cq ≤ 9223372036854775807 := by omega
      have hcq3 : -9223372036854775808 ≤ (q : Int) + cq := by omega
      have HCC := hide hcc; clear hcc
      go_enter Try.func45, Try.ntmps45
      go_wp2_with (go_at_call 47; refine (unhide HCC).mono ?_; rintro e w2 ⟨rfl, rfl⟩)
      exact sized_ret rfl rfl rfl rfl ⟨rfl, rfl⟩
  exact absurd w1 (by omega)
end Go.Proofs.Ytfoncalkgmeklaa

/- gripkeep's refs. -/
namespace Go.Proofs.Ytfoncalkgmeklaa
open Go.RowKit

/-- What the first i values at a place refer to. -/
def refsTo (l : List Int) (b : Nat) : Nat → List Int
  | 0 => []
  | i + 1 => refsTo l b i ++ (if headQ l ((b + 2 * i : Nat) : Int) = 2 then [headQ l ((b + 2 * i + 1 : Nat) : Int)] else [])
theorem refsTo_len (l : List Int) (b i : Nat) : (refsTo l b i).length ≤ i := by
  induction i with
  | zero => simp [refsTo]
  | succ i ih => simp only [refsTo, List.length_append]; split <;> simp <;> omega
/-- What the object at a place refers to. -/
def refsQ (l : List Int) (p : Int) : List Int :=
  if (sizedQ l p).2.2.2 = false ∨ (sizedQ l p).1 = 2 then []
  else if (sizedQ l p).1 = 3 then refsTo l (p.toNat + 2) (2 * (sizedQ l p).2.1.toNat)
  else refsTo l (p.toNat + 1) (sizedQ l p).2.1.toNat
theorem sizedQ_spec {l : List Int} {p k n m : Int} (h : sizedQ l p = (k, n, m, true)) : 0 ≤ p ∧ (k = 1 ∨ k = 2 ∨ k = 3) ∧ 0 ≤ n ∧ n ≤ 64 ∧ (k = 1 → n ≤ 16) ∧ (k = 3 → n ≤ 8) ∧ m = countQ k n ∧ p + m ≤ l.length := by
  simp only [sizedQ] at h
  split at h
  · simp at h
  split at h
  · simp at h
  rename_i h1 h2
  simp only [Prod.mk.injEq, decide_eq_true_eq] at h
  obtain ⟨e1, e2, e3, e4⟩ := h
  simp only [wideQ] at h2
  have hh : 65536 ≤ headQ l p := by omega
  subst e1 e2
  refine ⟨by omega, by omega, by omega, by omega, by omega, by omega, e3.symm, by omega⟩
theorem headQ_at {l : List Int} {q : Nat} (h : q < l.length) : l[q]? = some (headQ l q) := by simp [headQ, List.getD, List.getElem?_eq_getElem h]
theorem Out.nil (w : World) : Out w w none 0 0 [] := ⟨World.ownsRow_nil _ _ _ _, by simp [ab], Chg.refl _ _⟩

set_option maxRecDepth 100000 in
set_option maxHeartbeats 4000000 in
theorem refs_any (a : Option Addr) (n c : Nat) (l : List Int) (p : Int) (w : World) (hl : l.length = n) (hn : n ≤ 1000000) (hp : I64 p) (ha : IntsAt w a l) (hv : I64 (headQ l p)) :
    Calls Try.prog 46 #[.slice a n c, .int .i64 p] w fun e w' => ∃ a' n' c', e = .returned (.slice a' n' c') ∧ Out w w' a' n' c' (refsQ l p) := by
  obtain ⟨i0, hi0, hz0, hz1, hz2⟩ := info_parts info3
  have hsz := sized_any a n c l p w hl hn hp ha hv
  have hspec : (sizedQ l p).2.2.2 = true → 0 ≤ p ∧ ((sizedQ l p).1 = 1 ∨ (sizedQ l p).1 = 2 ∨ (sizedQ l p).1 = 3) ∧ 0 ≤ (sizedQ l p).2.1 ∧ (sizedQ l p).2.1 ≤ 64 ∧ ((sizedQ l p).1 = 1 → (sizedQ l p).2.1 ≤ 16) ∧ ((sizedQ l p).1 = 3 → (sizedQ l p).2.1 ≤ 8) ∧ p + countQ (sizedQ l p).1 (sizedQ l p).2.1 ≤ l.length := fun h => by
    obtain ⟨h1, h2, h3, h4, h5, h6, h7, h8⟩ := sizedQ_spec (l := l) (p := p) (k := (sizedQ l p).1) (n := (sizedQ l p).2.1) (m := (sizedQ l p).2.2.1) (by rw [← h])
    exact ⟨h1, h2, h3, h4, h5, h6, by rw [← h7]; exact h8⟩
  have hq : refsQ l p = if (sizedQ l p).2.2.2 = false ∨ (sizedQ l p).1 = 2 then [] else if (sizedQ l p).1 = 3 then refsTo l (p.toNat + 2) (2 * (sizedQ l p).2.1.toNat) else refsTo l (p.toNat + 1) (sizedQ l p).2.1.toNat := rfl
  rw [hq]
  clear hq
  generalize sizedQ l p = r at *
  obtain ⟨k, sz, cnt, ok⟩ := r
  simp only [sizedV] at hsz
  simp only at hspec
  have hp1 : p ≤ 9223372036854775807 := hp.2
  have HSZ := hide hsz; have HA := hide ha; have HV := hide hv; clear hsz ha hv
  cases ok
  · simp only [true_or, if_true]
    clear hspec
    by_cases hp2 : p = 9223372036854775807
    · subst hp2
      go_enter Try.func46, Try.ntmps46
      go_wp2_with (go_at_call 45; refine (unhide HSZ).mono ?_; rintro e w2 ⟨rfl, hw2⟩; have hw3 := hw2.symm; clear hw2; subst hw3)
      go_ret
      exact ⟨none, 0, 0, by simp, Out.nil _⟩
    have hp3 : p + 1 ≤ 9223372036854775807 := by omega
    have hp4 : -9223372036854775808 ≤ p := hp.1
    go_enter Try.func46, Try.ntmps46
    go_wp2_with (go_at_call 45; refine (unhide HSZ).mono ?_; rintro e w2 ⟨rfl, hw2⟩; have hw3 := hw2.symm; clear hw2; subst hw3)
    go_ret
    exact ⟨none, 0, 0, by simp, Out.nil _⟩
  obtain ⟨h1, h2, h3, h4, h5, h6, h7⟩ := hspec rfl
  clear hspec
  obtain ⟨q, rfl⟩ : ∃ q : Nat, p = (q : Int) := ⟨p.toNat, by omega⟩
  obtain ⟨z, rfl⟩ : ∃ z : Nat, sz = (z : Int) := ⟨sz.toNat, by omega⟩
  have hqn : q ≤ 1000000 := by
    have : 0 ≤ countQ k (z : Int) := by simp only [countQ]; omega
    omega
  by_cases k2 : k = 2
  · subst k2
    simp only [or_true, if_true]
    go_enter Try.func46, Try.ntmps46
    go_wp2_with (go_at_call 45; refine (unhide HSZ).mono ?_; rintro e w2 ⟨rfl, hw2⟩; have hw3 := hw2.symm; clear hw2; subst hw3)
    go_ret
    exact ⟨none, 0, 0, by simp, Out.nil _⟩
  by_cases k3 : k = 3
  · subst k3
    have hin : q + 2 + 2 * 2 * z ≤ n := by simp only [countQ] at h7; omega
    have hz64 : 2 * z ≤ 64 := by omega
    have hgoal : (if (true = false ∨ (3 : Int) = 2) then [] else if (3 : Int) = 3 then refsTo l (((q : Int)).toNat + 2) (2 * ((z : Int)).toNat) else refsTo l (((q : Int)).toNat + 1) ((z : Int)).toNat) = refsTo l (q + 2) (2 * z) := by simp
    simp only at hgoal ⊢
    rw [hgoal]
    clear hgoal h1 h2 h3 h4 h5 h6 h7
    go_enter Try.func46, Try.ntmps46
    go_wp2_with (go_at_call 45; refine (unhide HSZ).mono ?_; rintro e w2 ⟨rfl, hw2⟩; have hw3 := hw2.symm; clear hw2; subst hw3)
    go_loopw [11, 12] (fun v i wr => ∃ (j : Nat) (a1 : Option Addr) (n1 c1 : Nat), j ≤ 2 * z ∧ i = .int .i64 j ∧ v = .slice a1 n1 c1 ∧ Out w wr a1 n1 c1 (refsTo l (q + 2) j)) (fun _ i _ => 2 * z - (intOf i).toNat)
    case atStart => exact ⟨0, _, _, _, Nat.zero_le _, rfl, rfl, Out.nil w⟩
    case round =>
      obtain ⟨j, a1, n1, c1, hj, rfl, rfl, ho⟩ := hrel
      have hn1 : n1 ≤ 64 := by have h8 := ho.len; have := refsTo_len l (q + 2) j; omega
      by_cases hlt : j < 2 * z
      · have hlti : (j : Int) < 2 * (z : Int) := by omega
        obtain ⟨b, of, rfl, hb, hc⟩ := (unhide HA).chg ho.chg (by omega)
        have cv := hc (q + 2 + 2 * j) _ (headQ_at (l := l) (by omega))
        have cu := hc (q + 2 + 2 * j + 1) _ (headQ_at (l := l) (by omega))
        have hstep : refsTo l (q + 2) (j + 1) = refsTo l (q + 2) j ++ (if headQ l ((q + 2 + 2 * j : Nat) : Int) = 2 then [headQ l ((q + 2 + 2 * j + 1 : Nat) : Int)] else []) := rfl
        generalize headQ l ((q + 2 + 2 * j : Nat) : Int) = v at *
        generalize headQ l ((q + 2 + 2 * j + 1 : Nat) : Int) = u at *
        have hw1 : IntKind.i64.wrap ((q : Int) + 2 + 2 * (j : Int)) = ((q + 2 + 2 * j : Nat) : Int) := by rw [IntKind.wrap_i64]; omega
        have hX1 : q + 2 + 2 * j + 1 < n := by omega
        generalize q + 2 + 2 * j = X at *
        have hX2 : X < n := by omega
        have hX3 : (X : Int) < (n : Int) := by omega
        have hX4 : (X : Int) + 1 < (n : Int) := by omega
        have hX5 : (X : Int) ≤ 2000000 := by omega
        have HO := hide ho; have HST := hide hstep; clear ho hstep hc hb
        by_cases hv2 : v = 2
        · subst hv2
          go_wp2_with (at_builtin; go_must (refine wpList_append_gen _ rfl (.tmp 49) (.tmp 58) 27 rfl 3 i0 (.int .i64 0) 1 8 Try.underlying27 hi0 hz0 hz1 hz2 rfl (by decide) (.slice a1 n1 c1) n1 (ints (refsTo l (q + 2) j)) rfl ?c0 (some ⟨wr.heap.size, 0, none⟩) 1 1 (ints [u]) rfl rfl ?c1 (ints_one _) ?c2 ?c3 ?_))
          case c0 => exact World.ownsRow.alloc (unhide HO).own _
          case c1 => first | exact fun _ => ⟨_, rfl, fun i y hi => by rw [addr_add, Nat.zero_add]; exact (Blk.new wr (ints [u]) 3).cell_of hi⟩ | exact fun i y hi => hi
          case c2 => unfold maxLen; omega
          case c3 => omega
          intro va2 cap2 w2 ho hg hat
          have hp := (unhide HO).push _ (m := 1) (zs := [u]) (H := wr.heap.size + 1) ho hg (Nat.le_succ _) hat
          have HP := hide hp; clear hp ho hg hat
          go_wp2
          go_roundw
          case rel => exact ⟨j + 1, _, _, _, by omega, by go_num, rfl, by rw [unhide HST, if_pos (by simp)]; exact unhide HP⟩
          case measure => simp [intOf]; omega
        · have nv : (v == 2) = false := by simp [hv2]
          have HV2 := hide hv2; clear hv2
          go_wp2
          go_roundw
          case rel => exact ⟨j + 1, _, _, _, by omega, by go_num, rfl, by rw [unhide HST, if_neg (unhide HV2), List.append_nil]; exact unhide HO⟩
          case measure => simp [intOf]; omega
      · have hjm : j = 2 * z := by omega
        subst hjm
        have HO := hide ho; clear ho
        go_wp2
        go_ret
        exact ⟨a1, n1, c1, by simp, unhide HO⟩
  have k1 : k = 1 := by omega
  subst k1
  clear k3
  have hkk : (1 : Int) ≠ 3 := by omega
  · have hin : q + 1 + 2 * z ≤ n := by simp only [countQ] at h7; omega
    have hz64 : z ≤ 64 := by omega
    have hgoal : (if (true = false ∨ (1 : Int) = 2) then [] else if (1 : Int) = 3 then refsTo l (((q : Int)).toNat + 2) (2 * ((z : Int)).toNat) else refsTo l (((q : Int)).toNat + 1) ((z : Int)).toNat) = refsTo l (q + 1) (z) := by simp
    simp only at hgoal ⊢
    rw [hgoal]
    clear hgoal h1 h2 h3 h4 h5 h6 h7
    go_enter Try.func46, Try.ntmps46
    go_wp2_with (go_at_call 45; refine (unhide HSZ).mono ?_; rintro e w2 ⟨rfl, hw2⟩; have hw3 := hw2.symm; clear hw2; subst hw3)
    go_loopw [11, 12] (fun v i wr => ∃ (j : Nat) (a1 : Option Addr) (n1 c1 : Nat), j ≤ z ∧ i = .int .i64 j ∧ v = .slice a1 n1 c1 ∧ Out w wr a1 n1 c1 (refsTo l (q + 1) j)) (fun _ i _ => z - (intOf i).toNat)
    case atStart => exact ⟨0, _, _, _, Nat.zero_le _, rfl, rfl, Out.nil w⟩
    case round =>
      obtain ⟨j, a1, n1, c1, hj, rfl, rfl, ho⟩ := hrel
      have hn1 : n1 ≤ 64 := by have h8 := ho.len; have := refsTo_len l (q + 1) j; omega
      by_cases hlt : j < z
      · have hlti : (j : Int) < (z : Int) := by omega
        obtain ⟨b, of, rfl, hb, hc⟩ := (unhide HA).chg ho.chg (by omega)
        have cv := hc (q + 1 + 2 * j) _ (headQ_at (l := l) (by omega))
        have cu := hc (q + 1 + 2 * j + 1) _ (headQ_at (l := l) (by omega))
        have hstep : refsTo l (q + 1) (j + 1) = refsTo l (q + 1) j ++ (if headQ l ((q + 1 + 2 * j : Nat) : Int) = 2 then [headQ l ((q + 1 + 2 * j + 1 : Nat) : Int)] else []) := rfl
        generalize headQ l ((q + 1 + 2 * j : Nat) : Int) = v at *
        generalize headQ l ((q + 1 + 2 * j + 1 : Nat) : Int) = u at *
        have hw1 : IntKind.i64.wrap ((q : Int) + 1 + 2 * (j : Int)) = ((q + 1 + 2 * j : Nat) : Int) := by rw [IntKind.wrap_i64]; omega
        have hX1 : q + 1 + 2 * j + 1 < n := by omega
        generalize q + 1 + 2 * j = X at *
        have hX2 : X < n := by omega
        have hX3 : (X : Int) < (n : Int) := by omega
        have hX4 : (X : Int) + 1 < (n : Int) := by omega
        have hX5 : (X : Int) ≤ 2000000 := by omega
        have HO := hide ho; have HST := hide hstep; clear ho hstep hc hb
        by_cases hv2 : v = 2
        · subst hv2
          go_wp2_with (at_builtin; go_must (refine wpList_append_gen _ rfl (.tmp 49) (.tmp 58) 27 rfl 3 i0 (.int .i64 0) 1 8 Try.underlying27 hi0 hz0 hz1 hz2 rfl (by decide) (.slice a1 n1 c1) n1 (ints (refsTo l (q + 1) j)) rfl ?c0 (some ⟨wr.heap.size, 0, none⟩) 1 1 (ints [u]) rfl rfl ?c1 (ints_one _) ?c2 ?c3 ?_))
          case c0 => exact World.ownsRow.alloc (unhide HO).own _
          case c1 => first | exact fun _ => ⟨_, rfl, fun i y hi => by rw [addr_add, Nat.zero_add]; exact (Blk.new wr (ints [u]) 3).cell_of hi⟩ | exact fun i y hi => hi
          case c2 => unfold maxLen; omega
          case c3 => omega
          intro va2 cap2 w2 ho hg hat
          have hp := (unhide HO).push _ (m := 1) (zs := [u]) (H := wr.heap.size + 1) ho hg (Nat.le_succ _) hat
          have HP := hide hp; clear hp ho hg hat
          go_wp2
          go_roundw
          case rel => exact ⟨j + 1, _, _, _, by omega, by go_num, rfl, by rw [unhide HST, if_pos (by simp)]; exact unhide HP⟩
          case measure => simp [intOf]; omega
        · have nv : (v == 2) = false := by simp [hv2]
          have HV2 := hide hv2; clear hv2
          go_wp2
          go_roundw
          case rel => exact ⟨j + 1, _, _, _, by omega, by go_num, rfl, by rw [unhide HST, if_neg (unhide HV2), List.append_nil]; exact unhide HO⟩
          case measure => simp [intOf]; omega
      · have hjm : j = z := by omega
        subst hjm
        have HO := hide ho; clear ho
        go_wp2
        go_ret
        exact ⟨a1, n1, c1, by simp, unhide HO⟩
end Go.Proofs.Ytfoncalkgmeklaa

/- The words of the document's heap are objects, one behind the other (pure). -/
namespace Go.Proofs.Ytfoncalkgmeklaa
open Go.RowKit

theorem headQ_word {l : List Int} {p : Int} (h : 0 ≤ p) : headQ l p = wordAt l p := by simp [headQ, wordAt, h]
theorem count_words (k n : Int) : countQ k n = wordsOf k n := by
  unfold countQ wordsOf
  split
  · rfl
  split
  · split <;> omega
  · rfl
/-- Every object of the row is one by its words. -/
theorem sized_obj {s : R} (h : RAll s) {i : Nat} (hm : i ∈ s.row) : sizedQ s.words (placeOf s.objs i s.row) = ((s.objOf i).kind, (s.objOf i).size, oWords (s.objOf i), true) := by
  obtain ⟨h1, h2, h3⟩ := place_bd h hm
  have hk := h.ok.osh (objOf_mem (h.ok.inv.rows i hm))
  obtain ⟨k1, k2, k3, k4, k5⟩ := hk.kind
  have k6 := hk.tab
  have hh : headQ s.words (placeOf s.objs i s.row) = (s.objOf i).kind * 65536 + (s.objOf i).size := by rw [headQ_word h1, word_head h hm]
  have hw := (words_bd hk.kind).1
  have e1 : headQ s.words (placeOf s.objs i s.row) / 65536 = (s.objOf i).kind := by rw [hh]; omega
  have e2 : headQ s.words (placeOf s.objs i s.row) % 65536 = (s.objOf i).size := by rw [hh]; omega
  have e3 : countQ (s.objOf i).kind (s.objOf i).size = oWords (s.objOf i) := count_words _ _
  unfold sizedQ
  rw [e1, e2, e3, if_neg (by rw [hh]; omega), if_neg (by
    unfold wideQ
    intro hx
    rcases hx with hx | hx | hx | hx
    · omega
    · have := k5 (by omega); omega
    · omega
    · have := (k6 hx.1).2.2; omega)]
  simp only [Prod.mk.injEq, true_and]
  simpa using h3

theorem mem_refsTo {l : List Int} {b : Nat} {x : Int} : ∀ {n : Nat}, x ∈ refsTo l b n → ∃ j, j < n ∧ headQ l ((b + 2 * j : Nat) : Int) = 2 ∧ x = headQ l ((b + 2 * j + 1 : Nat) : Int)
  | 0, h => by simp [refsTo] at h
  | n + 1, h => by
    simp only [refsTo, List.mem_append] at h
    rcases h with h | h
    · obtain ⟨j, hj, h1, h2⟩ := mem_refsTo h
      exact ⟨j, by omega, h1, h2⟩
    · by_cases hv : headQ l ((b + 2 * n : Nat) : Int) = 2
      · rw [if_pos hv] at h
        exact ⟨n, by omega, hv, by simpa using h⟩
      · rw [if_neg hv] at h
        simp at h
/-- A word of an object's values. -/
theorem word_vals {s : R} (h : RAll s) {i : Nat} (hm : i ∈ s.row) {d j : Nat} (hd : d = (headWords (s.objOf i)).length) (hj : j < (s.objOf i).vals.length) (hw : (d : Int) + 2 * j + 1 < oWords (s.objOf i)) :
    headQ s.words (((placeOf s.objs i s.row).toNat + d + 2 * j : Nat) : Int) = ((s.objOf i).vals.getD j (0, 0)).1 ∧ headQ s.words (((placeOf s.objs i s.row).toNat + d + 2 * j + 1 : Nat) : Int) = s.outW ((s.objOf i).vals.getD j (0, 0)) := by
  obtain ⟨h1, h2, h3⟩ := place_bd h hm
  obtain ⟨f1, f2⟩ := flat_at s (s.objOf i).vals j hj
  have hl := valWords_len2 s (s.objOf i).vals
  have g : ∀ r, r < 2 * (s.objOf i).vals.length → (objWords s (s.objOf i)).getD (d + r) 0 = ((s.objOf i).vals.flatMap (valWords s)).getD r 0 := fun r hr => by
    rw [objWords_form]
    simp only [List.getD]
    rw [List.getElem?_append_right (by omega), show d + r - (headWords (s.objOf i)).length = r by omega, List.getElem?_append_left (by omega)]
  constructor
  · rw [show (((placeOf s.objs i s.row).toNat + d + 2 * j : Nat) : Int) = placeOf s.objs i s.row + ((d + 2 * j : Nat) : Int) by omega, headQ_word (by omega), word_obj h hm (by omega), g _ (by omega), f1]
  · rw [show (((placeOf s.objs i s.row).toNat + d + 2 * j + 1 : Nat) : Int) = placeOf s.objs i s.row + ((d + (2 * j + 1) : Nat) : Int) by omega, headQ_word (by omega), word_obj h hm (by omega), g _ (by omega), f2]
/-- Behind a table's entries stand noughts. -/
theorem word_nought {s : R} (h : RAll s) {i : Nat} (hm : i ∈ s.row) (hk : (s.objOf i).kind = 3) {r : Nat} (hr : 2 * (s.objOf i).vals.length ≤ r) (hw : (2 : Int) + r < oWords (s.objOf i)) :
    headQ s.words (((placeOf s.objs i s.row).toNat + 2 + r : Nat) : Int) = 0 := by
  obtain ⟨h1, h2, h3⟩ := place_bd h hm
  have ho := h.ok.osh (objOf_mem (h.ok.inv.rows i hm))
  have hl := valWords_len2 s (s.objOf i).vals
  have ht : textWords (s.objOf i).text = [] := by rw [ho.notxt (by omega)]; rfl
  have hh : (headWords (s.objOf i)).length = 2 := by simp [headWords, hk]
  rw [show (((placeOf s.objs i s.row).toNat + 2 + r : Nat) : Int) = placeOf s.objs i s.row + ((2 + r : Nat) : Int) by omega, headQ_word (by omega), word_obj h hm (by omega), objWords_form, ht, List.nil_append]
  simp only [List.getD]
  rw [List.getElem?_append_right (by omega), List.getElem?_append_right (by omega), List.getElem?_replicate]
  split <;> rfl
/-- What an object of the row refers to is of the row. -/
theorem refs_obj {s : R} (h : RAll s) {i : Nat} (hm : i ∈ s.row) : ∀ x ∈ refsQ s.words (placeOf s.objs i s.row), ∃ j ∈ s.row, x = placeOf s.objs j s.row := by
  intro x hx
  have ho := h.ok.osh (objOf_mem (h.ok.inv.rows i hm))
  obtain ⟨k1, k2, k3, k4, k5⟩ := ho.kind
  have hp := place_nonneg h.ok.inv i s.row
  have fin : ∀ j, j < (s.objOf i).vals.length → ((s.objOf i).vals.getD j (0, 0)).1 = 2 → ∃ t ∈ s.row, s.outW ((s.objOf i).vals.getD j (0, 0)) = placeOf s.objs t s.row := fun j hj h2 => by
    have hmem : (s.objOf i).vals.getD j (0, 0) ∈ (s.objOf i).vals := by simp [List.getD, List.getElem?_eq_getElem hj]
    exact ⟨_, h.row.closed i hm _ hmem h2, by simp only [R.outW, h2, if_true]⟩
  unfold refsQ at hx
  rw [sized_obj h hm] at hx
  simp only [Bool.true_eq_false, false_or] at hx
  split at hx
  · simp at hx
  split at hx
  · rename_i hk2 hk3
    obtain ⟨j, hj, e1, e2⟩ := mem_refsTo hx
    have hw : oWords (s.objOf i) = 2 + 4 * (s.objOf i).size := by simp [oWords, wordsOf, hk3]
    by_cases hjv : j < (s.objOf i).vals.length
    · obtain ⟨g1, g2⟩ := word_vals h hm (d := 2) (by simp [headWords, hk3]) hjv (by omega)
      rw [g1] at e1
      obtain ⟨t, ht, et⟩ := fin j hjv e1
      exact ⟨t, ht, by rw [e2, g2, et]⟩
    · have := word_nought h hm hk3 (r := 2 * j) (by omega) (by omega)
      rw [this] at e1
      omega
  · rename_i hk2 hk3
    have hk1 : (s.objOf i).kind = 1 := by omega
    obtain ⟨j, hj, e1, e2⟩ := mem_refsTo hx
    have hw : oWords (s.objOf i) = 1 + 2 * (s.objOf i).size := by simp [oWords, wordsOf, hk1]
    have hvl := ho.arr hk1
    obtain ⟨g1, g2⟩ := word_vals h hm (d := 1) (by simp [headWords, hk1]) (j := j) (by omega) (by omega)
    rw [g1] at e1
    obtain ⟨t, ht, et⟩ := fin j (by omega) e1
    exact ⟨t, ht, by rw [e2, g2, et]⟩
/-- A table's entries are no more than its room. -/
theorem table_count {s : R} (h : RAll s) {i : Nat} (hm : i ∈ s.row) (hk : (s.objOf i).kind = 3) : headQ s.words (placeOf s.objs i s.row + 1) = ((s.objOf i).vals.length : Int) / 2 := by
  obtain ⟨h1, h2, h3⟩ := place_bd h hm
  have ho := h.ok.osh (objOf_mem (h.ok.inv.rows i hm))
  obtain ⟨k1, k2, k3, k4, k5⟩ := ho.kind
  have hw : oWords (s.objOf i) = 2 + 4 * (s.objOf i).size := by simp [oWords, wordsOf, hk]
  rw [headQ_word (by omega), show placeOf s.objs i s.row + 1 = placeOf s.objs i s.row + ((1 : Nat) : Int) by omega, word_obj h hm (by omega), objWords_form]
  simp [headWords, hk]
end Go.Proofs.Ytfoncalkgmeklaa

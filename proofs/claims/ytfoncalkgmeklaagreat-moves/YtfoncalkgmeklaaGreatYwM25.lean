import Derived.Test.YtfoncalkgmeklaaGreatYwM24

/- memory of the program: tables, in words. -/
namespace Go.Proofs.YtfoncalkgmeklaaGreat
open Go.RowKit

/-- Pairs of words, one behind the other. -/
def flatP : List (Int × Int) → List Int
  | [] => []
  | p :: r => p.1 :: p.2 :: flatP r
theorem flatP_len : ∀ l, (flatP l).length = 2 * l.length
  | [] => rfl
  | p :: r => by have := flatP_len r; simp [flatP]; omega
theorem flatP_at : ∀ (l : List (Int × Int)) (q : Nat), q < l.length → (flatP l).getD (2 * q) 0 = (l.getD q (0, 0)).1 ∧ (flatP l).getD (2 * q + 1) 0 = (l.getD q (0, 0)).2
  | [], q, h => by simp at h
  | p :: r, 0, _ => by simp [flatP, List.getD]
  | p :: r, q + 1, h => by
    have ih := flatP_at r q (by simpa using h)
    have e : 2 * (q + 1) = 2 * q + 2 := by omega
    rw [e]
    simpa [flatP, List.getD] using ih
theorem flatP_set : ∀ (l : List (Int × Int)) (q : Nat) (u : Int × Int), q < l.length → flatP (l.set q u) = set2 (flatP l) (2 * q) u
  | [], q, u, h => by simp at h
  | p :: r, 0, u, _ => by simp [flatP, set2]
  | p :: r, q + 1, u, h => by
    have ih := flatP_set r q u (by simpa using h)
    have e : 2 * (q + 1) = 2 * q + 2 := by omega
    rw [e]
    simp only [List.set_cons_succ, flatP, ih]
    simp [set2]
theorem flatP_append (a b : List (Int × Int)) : flatP (a ++ b) = flatP a ++ flatP b := by
  induction a with
  | nil => rfl
  | cons p r ih => simp [flatP, ih]
theorem flatP_zeros : ∀ n, flatP (List.replicate n (0, 0)) = List.replicate (2 * n) 0
  | 0 => rfl
  | n + 1 => by
    rw [List.replicate_succ, show 2 * (n + 1) = (2 * n + 1) + 1 by omega, List.replicate_succ, List.replicate_succ]
    simp [flatP, flatP_zeros n]
/-- A table's words: its room, how many entries, its pairs. -/
def tabX (room c : Int) (ps : List (Int × Int)) : List Int := (3 * 65536 + room) :: c :: flatP ps
theorem tabX_len (room c : Int) (ps : List (Int × Int)) : (tabX room c ps).length = 2 + 2 * ps.length := by simp [tabX, flatP_len]; omega
theorem wordAt_mid {A X B : List Int} {j : Nat} (h : j < X.length) : wordAt (A ++ (X ++ B)) (((A.length + j : Nat) : Int)) = X.getD j 0 := by
  unfold wordAt
  rw [if_pos (by omega), Int.toNat_natCast]
  exact mid_get h
/-- The words with a table in their midst. -/
structure TabIn (ws A B : List Int) (room : Int) (n : Nat) (ps : List (Int × Int)) : Prop where
  eq : ws = A ++ (tabX room (n : Int) ps ++ B)
  room0 : 0 ≤ room ∧ room ≤ 8
  plen : (ps.length : Int) = 2 * room
  cnt : (n : Int) ≤ room
  len : ws.length ≤ 512
theorem TabIn.head {ws A B : List Int} {room : Int} {n : Nat} {ps : List (Int × Int)} (h : TabIn ws A B room n ps) : wordAt ws (A.length : Int) = 3 * 65536 + room ∧ wordAt ws ((A.length : Int) + 1) = n := by
  have hl := tabX_len room n ps
  have h0 := wordAt_mid (A := A) (B := B) (X := tabX room (n : Int) ps) (j := 0) (by omega)
  have h1 := wordAt_mid (A := A) (B := B) (X := tabX room (n : Int) ps) (j := 1) (by omega)
  rw [← h.eq] at h0 h1
  exact ⟨h0, h1⟩
theorem TabIn.pair {ws A B : List Int} {room : Int} {n : Nat} {ps : List (Int × Int)} (h : TabIn ws A B room n ps) {q : Nat} (hq : q < ps.length) : wordAt ws ((A.length + 2 + 2 * q : Nat) : Int) = (ps.getD q (0, 0)).1 ∧ wordAt ws (((A.length + 2 + 2 * q : Nat) : Int) + 1) = (ps.getD q (0, 0)).2 := by
  have hl := tabX_len room n ps
  have h0 := wordAt_mid (A := A) (B := B) (X := tabX room (n : Int) ps) (j := 2 + 2 * q) (by omega)
  have h1 := wordAt_mid (A := A) (B := B) (X := tabX room (n : Int) ps) (j := 2 + 2 * q + 1) (by omega)
  rw [← h.eq] at h0 h1
  obtain ⟨f0, f1⟩ := flatP_at ps q hq
  have e0 : (tabX room (n : Int) ps).getD (2 + 2 * q) 0 = (flatP ps).getD (2 * q) 0 := by unfold tabX; rw [show 2 + 2 * q = (2 * q) + 1 + 1 by omega]; simp [List.getD]
  have e1 : (tabX room (n : Int) ps).getD (2 + 2 * q + 1) 0 = (flatP ps).getD (2 * q + 1) 0 := by unfold tabX; rw [show 2 + 2 * q + 1 = (2 * q + 1) + 1 + 1 by omega]; simp [List.getD]
  rw [e0, f0] at h0
  rw [e1, f1] at h1
  refine ⟨by rw [← h0]; congr 1; omega, ?_⟩
  rw [← h1]
  congr 1
  omega
theorem TabIn.plen8 {ws A B : List Int} {room : Int} {n : Nat} {ps : List (Int × Int)} (h : TabIn ws A B room n ps) : A.length ≤ 512 ∧ ps.length ≤ 16 ∧ A.length + 2 + 2 * ps.length ≤ ws.length ∧ 2 * n ≤ ps.length := by
  have h1 := h.len
  have h2 := h.plen
  have h3 := h.room0
  have h4 := h.cnt
  have h5 : ws.length = A.length + (2 + 2 * ps.length + B.length) := by rw [h.eq]; simp [tabX_len]
  omega
/-- A pair of the table turns. -/
theorem TabIn.setPair {ws A B : List Int} {room : Int} {n : Nat} {ps : List (Int × Int)} (h : TabIn ws A B room n ps) {q : Nat} (hq : q < ps.length) (u : Int × Int) : TabIn (set2 ws (A.length + 2 + 2 * q) u) A B room n (ps.set q u) := by
  have hl := tabX_len room n ps
  refine ⟨?_, h.room0, by simpa using h.plen, h.cnt, by rw [set2_len]; exact h.len⟩
  rw [h.eq, show A.length + 2 + 2 * q = A.length + (2 + 2 * q) by omega, set2_mid (by omega)]
  congr 2
  unfold tabX
  rw [flatP_set ps q u hq, show 2 + 2 * q = (2 * q) + 1 + 1 by omega]
  simp [set2]
theorem TabIn.setCnt {ws A B : List Int} {room : Int} {n m : Nat} {ps : List (Int × Int)} (h : TabIn ws A B room n ps) (hm : (m : Int) ≤ room) : TabIn (ws.set (A.length + 1) (m : Int)) A B room m ps := by
  have hl := tabX_len room n ps
  refine ⟨?_, h.room0, h.plen, hm, by simpa using h.len⟩
  rw [h.eq, set_mid (by omega)]
  rfl

theorem memEntry_any (p i : Nat) (w : World) (hp : p ≤ 1000) (hi : i ≤ 1000) : Calls Tryz.prog 127 #[.int .i64 (p : Int), .int .i64 (i : Int)] w fun e w' => e = .returned (.int .i64 ((p + 2 + 4 * i : Nat) : Int)) ∧ w' = w := by
  go_enter Tryz.func127, Tryz.ntmps127
  go_wp2
  go_ret
  refine ⟨?_, rfl⟩
  simp
theorem tabLen_any {w : World} {b off : Nat} {ws A B : List Int} {room : Int} {n : Nat} {ps : List (Int × Int)} (hm : MemAt w b off ws) (h : TabIn ws A B room n ps) :
    Calls Tryz.prog 85 #[.pointer (some ⟨b, off, none⟩), .int .i64 (A.length : Int)] w fun e w' => e = .returned (.int .i64 (n : Int)) ∧ w' = w := by
  have hl := h.plen8
  have hr := h.room0
  have hlen := h.len
  have := memLen_any (A.length : Int) hm (by omega) h.head.1 (by omega) (by omega) (by omega) h.head.2
  rw [show (3 * 65536 + room) / 65536 = 3 by omega, if_pos rfl] at this
  exact this

/-- The first of the keys that is this one; their number: none. -/
def keyIdx (ks : List (Int × Int)) (k : Int × Int) : Nat := ks.findIdx fun u => u == k
def evens : List (Int × Int) → List (Int × Int)
  | [] => []
  | [a] => [a]
  | a :: _ :: r => a :: evens r
/-- The keys of a table's first n entries. -/
def keysOf (ps : List (Int × Int)) (n : Nat) : List (Int × Int) := (List.range n).map fun i => ps.getD (2 * i) (0, 0)
theorem keysOf_len (ps : List (Int × Int)) (n : Nat) : (keysOf ps n).length = n := by simp [keysOf]
theorem keysOf_at (ps : List (Int × Int)) {n i : Nat} (h : i < n) : (keysOf ps n).getD i (0, 0) = ps.getD (2 * i) (0, 0) := by simp [keysOf, List.getD, h]
theorem keyIdx_here {ps : List (Int × Int)} {n i : Nat} {k : Int × Int} (hi : i < n) (h : ps.getD (2 * i) (0, 0) = k) (hpre : ∀ j, j < i → ps.getD (2 * j) (0, 0) ≠ k) : keyIdx (keysOf ps n) k = i := by
  unfold keyIdx
  rw [List.findIdx_eq (by rw [keysOf_len]; exact hi)]
  refine ⟨?_, ?_⟩
  · simp only [keysOf, List.getElem_map, List.getElem_range, h, beq_self_eq_true]
  · intro j hj
    simp only [keysOf, List.getElem_map, List.getElem_range]
    exact beq_false_of_ne (hpre j hj)
theorem keyIdx_none {ps : List (Int × Int)} {n : Nat} {k : Int × Int} (hpre : ∀ j, j < n → ps.getD (2 * j) (0, 0) ≠ k) : keyIdx (keysOf ps n) k = n := by
  unfold keyIdx
  conv => rhs; rw [← keysOf_len ps n]
  rw [List.findIdx_eq_length]
  intro u hu
  obtain ⟨j, hj, rfl⟩ := List.mem_map.1 hu
  exact beq_false_of_ne (hpre j (List.mem_range.1 hj))

set_option maxRecDepth 100000 in
set_option maxHeartbeats 2000000 in
theorem memSearch_any {w : World} {b off : Nat} {ws A B : List Int} {room : Int} {n : Nat} {ps : List (Int × Int)} (k : Int × Int) (hm : MemAt w b off ws) (h : TabIn ws A B room n ps) :
    Calls Tryz.prog 126 #[.pointer (some ⟨b, off, none⟩), .int .i64 (A.length : Int), .agg #[.int .i64 k.1, .int .i64 k.2]] w fun e w' =>
      e = .returned (.tuple #[.int .i64 (if keyIdx (keysOf ps n) k < n then (keyIdx (keysOf ps n) k : Int) else 0), .bool (decide (keyIdx (keysOf ps n) k < n))]) ∧ Chg [] w w' := by
  have hc0 : Chg [] w (w.alloc (.cells #[.int .i64 k.1, .int .i64 k.2] 121)) := (Chg.refl [] w).alloc _
  have hlen := tabLen_any (hm.chg hc0) h
  have hb0 : Blk (w.alloc (.cells #[.int .i64 k.1, .int .i64 k.2] 121)) w.heap.size [.int .i64 k.1, .int .i64 k.2] 121 := Blk.new w [.int .i64 k.1, .int .i64 k.2] _
  have hp8 := h.plen8
  have hws := h.len
  have HL := hide hlen; have HM := hide hm; have HT := hide h; have HB0 := hide hb0; have HC0 := hide hc0; clear hlen hm h hb0 hc0
  have hA : A.length ≤ 512 := hp8.1
  have hn8 : n ≤ 8 := by omega
  generalize hri : (if keyIdx (keysOf ps n) k < n then (keyIdx (keysOf ps n) k : Int) else 0) = ri
  generalize hok : decide (keyIdx (keysOf ps n) k < n) = ok
  have HRI := hide hri; have HOK := hide hok; clear hri hok
  go_enter Tryz.func126, Tryz.ntmps126
  go_wp2_with fail
  refine (unhide HL).mono ?_
  rintro e w1 ⟨rfl, rfl⟩
  go_wp2_with fail
  go_loopw [9] (fun v wr => ∃ i : Nat, i ≤ n ∧ v = .int .i64 i ∧ Chg [] (w.alloc (.cells #[.int .i64 k.1, .int .i64 k.2] 121)) wr ∧ ∀ j, j < i → ps.getD (2 * j) (0, 0) ≠ k) (fun v _ => n - (intOf v).toNat)
  case atStart => exact ⟨0, Nat.zero_le _, rfl, Chg.refl _ _, by omega⟩
  case round =>
    obtain ⟨i, hi, rfl, hch, hpre⟩ := hrel
    by_cases hlt : i < n
    · have zi : (i : Int) < (n : Int) := by omega
      have hq : 2 * i < ps.length := by omega
      obtain ⟨e0, e1⟩ := (unhide HT).pair hq
      rw [show A.length + 2 + 2 * (2 * i) = A.length + 2 + 4 * i by omega] at e0 e1
      have hme := memEntry_any A.length i wr (by omega) (by omega)
      have hmv := memValue_any ((A.length + 2 + 4 * i : Nat) : Int) (((unhide HM).chg (unhide HC0)).chg hch) (by omega) (by omega) e0 e1
      have hb1 := (unhide HB0).chg hch (by simp)
      generalize hu : ps.getD (2 * i) (0, 0) = u at *
      have HU := hide hu; have H1 := hide hme; have H2 := hide hmv; have HB1 := hide hb1; have HCH := hide hch; have HPRE := hide hpre; clear hu hme hmv hb1 hch hpre e0 e1
      generalize ((A.length + 2 + 4 * i : Nat) : Int) = at' at *
      go_wp2_with fail
      refine (unhide H1).mono ?_
      rintro e w2 ⟨rfl, rfl⟩
      go_wp2_with fail
      refine (unhide H2).mono ?_
      rintro e w3 ⟨rfl, hc3⟩
      have hb3 := ((unhide HB1).chg hc3 (by simp)).alloc (.cells #[.int .i64 u.1, .int .i64 u.2] 121)
      have q0 := hb3.cell_of (i := 0) rfl
      have q1 := hb3.cell_of (i := 1) rfl
      have hz : w.heap.size < w3.heap.size := by
        have := ((unhide HB1).chg hc3 (by simp)).lt
        exact this
      have hch4 := ((unhide HCH).trans hc3).alloc (.cells #[.int .i64 u.1, .int .i64 u.2] 121)
      have HCH4 := hide hch4; clear hch4 hc3 hb3
      obtain ⟨u1, u2⟩ := u
      obtain ⟨k1, k2⟩ := k
      simp only at q0 q1
      by_cases hk1 : u1 = k1
      · subst hk1
        by_cases hk2 : u2 = k2
        · subst hk2
          have hidx := keyIdx_here hlt (unhide HU) (unhide HPRE)
          have hr1 := unhide HRI
          have hr2 := unhide HOK
          rw [hidx, if_pos hlt] at hr1
          rw [hidx] at hr2
          simp only [hlt, decide_true] at hr2
          have HIDX := hide (And.intro hr1 hr2); clear hidx hr1 hr2
          go_wp2
          go_ret2
          obtain ⟨rfl, rfl⟩ := unhide HIDX
          exact ⟨rfl, (unhide HC0).trans (unhide HCH4)⟩
        · have hne2 : (u2 == k2) = false := by simp [hk2]
          have hne : ps.getD (2 * i) (0, 0) ≠ (u1, k2) := by rw [unhide HU]; simp [hk2]
          have HNE := hide hne; clear hne hk2
          go_wp2
          go_roundw
          case rel =>
            refine ⟨i + 1, by omega, by go_num, unhide HCH4, fun j hj => ?_⟩
            rcases Nat.lt_or_eq_of_le (Nat.le_of_lt_succ hj) with h1 | h1
            · exact unhide HPRE j h1
            · rw [h1]; exact unhide HNE
          case measure => simp [intOf]; omega
      · have hne1 : (u1 == k1) = false := by simp [hk1]
        have hne : ps.getD (2 * i) (0, 0) ≠ (k1, k2) := by rw [unhide HU]; simp [hk1]
        have HNE := hide hne; clear hne hk1
        go_wp2
        go_roundw
        case rel =>
          refine ⟨i + 1, by omega, by go_num, unhide HCH4, fun j hj => ?_⟩
          rcases Nat.lt_or_eq_of_le (Nat.le_of_lt_succ hj) with h1 | h1
          · exact unhide HPRE j h1
          · rw [h1]; exact unhide HNE
        case measure => simp [intOf]; omega
    · have hin : i = n := by omega
      subst hin
      have hidx := keyIdx_none hpre
      have hr1 := unhide HRI
      have hr2 := unhide HOK
      rw [hidx, if_neg (by omega)] at hr1
      rw [hidx] at hr2
      simp only [Nat.lt_irrefl, decide_false] at hr2
      have HIDX := hide (And.intro hr1 hr2); have HCH := hide hch; clear hidx hch hpre hr1 hr2
      go_wp2
      go_ret2
      obtain ⟨rfl, rfl⟩ := unhide HIDX
      exact ⟨rfl, (unhide HC0).trans (unhide HCH)⟩
end Go.Proofs.YtfoncalkgmeklaaGreat

/- memory of the program: Key and Find of tables; entries are written. -/
namespace Go.Proofs.YtfoncalkgmeklaaGreat
open Go.RowKit

set_option maxHeartbeats 2000000 in
theorem memKey_any {w : World} {b off : Nat} {ws A B : List Int} {room : Int} {n : Nat} {ps : List (Int × Int)} (i : Int) (hm : MemAt w b off ws) (h : TabIn ws A B room n ps) :
    Calls Tryz.prog 96 #[.pointer (some ⟨b, off, none⟩), .int .i64 (A.length : Int), .int .i64 i] w fun e w' => e = .returned (.tuple #[if 0 ≤ i ∧ i < (n : Int) then .agg #[.int .i64 (ps.getD (2 * i.toNat) (0, 0)).1, .int .i64 (ps.getD (2 * i.toNat) (0, 0)).2] else .agg #[.int .i64 0, .int .i64 0], .bool (decide (0 ≤ i ∧ i < (n : Int)))]) ∧ Chg [] w w' := by
  have hc0 : Chg [] w (w.alloc (.cells #[.int .i64 0, .int .i64 0] 121)) := (Chg.refl [] w).alloc _
  have hlen := tabLen_any (hm.chg hc0) h
  have hp8 := h.plen8
  have hws := h.len
  by_cases h1 : i < 0
  · rw [if_neg (by omega), show decide (0 ≤ i ∧ i < (n : Int)) = false from by simp; omega]
    clear hlen hm h hp8
    go_enter Tryz.func96, Tryz.ntmps96
    go_wp2
    exact bodyPost_ret (v := .tuple #[.agg #[.int .i64 0, .int .i64 0], .bool false]) (by simp [results, Tryz.results96, go_sem]) rfl ⟨rfl, hc0⟩
  · obtain ⟨j, rfl⟩ := Int.eq_ofNat_of_zero_le (Int.not_lt.1 h1)
    rw [Int.toNat_natCast]
    by_cases h2 : j < n
    · rw [if_pos (by omega), show decide (0 ≤ (j : Int) ∧ (j : Int) < (n : Int)) = true from by simp; omega]
      obtain ⟨e0, e1⟩ := h.pair (q := 2 * j) (by omega)
      rw [show A.length + 2 + 2 * (2 * j) = A.length + 2 + 4 * j by omega] at e0 e1
      have hme := memEntry_any A.length j (w.alloc (.cells #[.int .i64 0, .int .i64 0] 121)) (by omega) (by omega)
      have hmv := memValue_any ((A.length + 2 + 4 * j : Nat) : Int) (hm.chg hc0) (by omega) (by omega) e0 e1
      generalize ps.getD (2 * j) (0, 0) = u at *
      generalize ((A.length + 2 + 4 * j : Nat) : Int) = at' at *
      have zj : ¬ (j : Int) ≥ (n : Int) := by omega
      have HL := hide hlen; have HE := hide hme; have HV := hide hmv; have HB := hide (Blk.new w [.int .i64 0, .int .i64 0] 121); have HC0 := hide hc0; clear hlen hme hmv hm h e0 e1 hc0 h1 h2
      go_enter Tryz.func96, Tryz.ntmps96
      go_wp2_with fail
      refine (unhide HL).mono ?_
      rintro e w1 ⟨rfl, rfl⟩
      go_wp2_with fail
      refine (unhide HE).mono ?_
      rintro e w2 ⟨rfl, rfl⟩
      go_wp2_with fail
      refine (unhide HV).mono ?_
      rintro e w3 ⟨rfl, hc⟩
      have hb2 := (unhide HB).chg hc (by simp)
      have q0 := hb2.cell_of (i := 0) rfl
      have q1 := hb2.cell_of (i := 1) rfl
      have f0 := hb2.frozen 0
      have f1 := hb2.frozen 1
      have hb3 := ((hb2.setCell 0 (.int .i64 u.1)).setCell 1 (.int .i64 u.2))
      have r0 := hb3.cell_of (i := 0) (v := .int .i64 u.1) rfl
      have r1 := hb3.cell_of (i := 1) (v := .int .i64 u.2) rfl
      have hch := Chg.trans_new (S' := [w.heap.size]) ((unhide HC0).trans hc) (((Chg.refl _ w3).setCell (p := ⟨w.heap.size, 0, none⟩) (.inl (by simp)) (.int .i64 u.1)).setCell (p := ⟨w.heap.size, 1, none⟩) (.inl (by simp)) (.int .i64 u.2)) (fun x hx => by simp at hx; right; omega)
      have R0 := hide r0; have R1 := hide r1; have HCH := hide hch; clear hb2 hb3 r0 r1 hch hc
      go_wp2
      have r0 := unhide R0
      have r1 := unhide R1
      exact bodyPost_ret (v := .tuple #[.agg #[.int .i64 u.1, .int .i64 u.2], .bool true]) (by simp [results, Tryz.results96, go_sem, r0, r1]) rfl ⟨rfl, unhide HCH⟩
    · rw [if_neg (by omega), show decide (0 ≤ (j : Int) ∧ (j : Int) < (n : Int)) = false from by simp; omega]
      have zj : (j : Int) ≥ (n : Int) := by omega
      have HL := hide hlen; clear hlen hm h h1 h2
      go_enter Tryz.func96, Tryz.ntmps96
      go_wp2_with fail
      refine (unhide HL).mono ?_
      rintro e w1 ⟨rfl, rfl⟩
      go_wp2
      exact bodyPost_ret (v := .tuple #[.agg #[.int .i64 0, .int .i64 0], .bool false]) (by simp [results, Tryz.results96, go_sem]) rfl ⟨rfl, hc0⟩

set_option maxHeartbeats 2000000 in
theorem memFind_any {w : World} {b off : Nat} {ws A B : List Int} {room : Int} {n : Nat} {ps : List (Int × Int)} (k : Int × Int) (hm : MemAt w b off ws) (h : TabIn ws A B room n ps) :
    Calls Tryz.prog 94 #[.pointer (some ⟨b, off, none⟩), .int .i64 (A.length : Int), .agg #[.int .i64 k.1, .int .i64 k.2]] w fun e w' =>
      e = .returned (.tuple #[if keyIdx (keysOf ps n) k < n then .agg #[.int .i64 (ps.getD (2 * keyIdx (keysOf ps n) k + 1) (0, 0)).1, .int .i64 (ps.getD (2 * keyIdx (keysOf ps n) k + 1) (0, 0)).2] else .agg #[.int .i64 0, .int .i64 0], .bool (decide (keyIdx (keysOf ps n) k < n))]) ∧ Chg [] w w' := by
  have hc0 : Chg [] w ((w.alloc (.cells #[.int .i64 k.1, .int .i64 k.2] 121)).alloc (.cells #[.int .i64 0, .int .i64 0] 121)) := ((Chg.refl [] w).alloc _).alloc _
  have hsr := memSearch_any k (hm.chg hc0) h
  have hb0 : Blk ((w.alloc (.cells #[.int .i64 k.1, .int .i64 k.2] 121)).alloc (.cells #[.int .i64 0, .int .i64 0] 121)) (w.heap.size + 1) [.int .i64 0, .int .i64 0] 121 := by
    have := Blk.new (w.alloc (.cells #[.int .i64 k.1, .int .i64 k.2] 121)) [.int .i64 0, .int .i64 0] 121
    rw [size_alloc] at this
    exact this
  have hp8 := h.plen8
  have hws := h.len
  by_cases hlt : keyIdx (keysOf ps n) k < n
  · rw [if_pos hlt] at hsr ⊢
    rw [show decide (keyIdx (keysOf ps n) k < n) = true from by simp [hlt]] at hsr ⊢
    generalize keyIdx (keysOf ps n) k = j at *
    obtain ⟨e0, e1⟩ := h.pair (q := 2 * j + 1) (by omega)
    rw [show A.length + 2 + 2 * (2 * j + 1) = A.length + 2 + 4 * j + 2 by omega] at e0 e1
    have hmv : ∀ w1, Chg [] w w1 → Calls Tryz.prog 125 #[.pointer (some ⟨b, off, none⟩), .int .i64 ((A.length + 2 + 4 * j + 2 : Nat) : Int)] w1 fun e w' => e = .returned (.agg #[.int .i64 (ps.getD (2 * j + 1) (0, 0)).1, .int .i64 (ps.getD (2 * j + 1) (0, 0)).2]) ∧ Chg [] w1 w' := fun w1 k1 => memValue_any _ (hm.chg k1) (by omega) (by omega) e0 e1
    have hme : ∀ w1, _ := fun w1 => memEntry_any A.length j w1 (by omega) (by omega)
    generalize ps.getD (2 * j + 1) (0, 0) = u at *
    have hsum : ((A.length + 2 + 4 * j + 2 : Nat) : Int) = ((A.length + 2 + 4 * j : Nat) : Int) + 2 := by omega
    have hbd : A.length + 2 + 4 * j ≤ 1000 := by omega
    rw [hsum] at hmv
    generalize A.length + 2 + 4 * j = at' at *
    have zb : (at' : Int) ≤ 1000 := by omega
    have HS := hide hsr; have HE := hide hme; have HV := hide hmv; have HB := hide hb0; have HC0 := hide hc0; clear hsr hme hmv hm h e0 e1 hc0 hb0 hlt hsum hbd
    go_enter Tryz.func94, Tryz.ntmps94
    go_wp2_with fail
    refine (unhide HS).mono ?_
    rintro e w1 ⟨rfl, hc1⟩
    have hch1 := (unhide HC0).trans hc1
    have hme := unhide HE w1
    have hmv := unhide HV w1 hch1
    have hb1 := (unhide HB).chg hc1 (by simp)
    have HE1 := hide hme; have HV1 := hide hmv; have HB1 := hide hb1; have HCH1 := hide hch1; clear hme hmv hb1 hch1 hc1 HS HE HV HB HC0
    go_wp2_with fail
    refine (unhide HE1).mono ?_
    rintro e w2 ⟨rfl, rfl⟩
    go_wp2_with fail
    refine (unhide HV1).mono ?_
    rintro e w3 ⟨rfl, hc⟩
    have hb2 := (unhide HB1).chg hc (by simp)
    have q0 := hb2.cell_of (i := 0) rfl
    have q1 := hb2.cell_of (i := 1) rfl
    have f0 := hb2.frozen 0
    have f1 := hb2.frozen 1
    have hb3 := ((hb2.setCell 0 (.int .i64 u.1)).setCell 1 (.int .i64 u.2))
    have r0 := hb3.cell_of (i := 0) (v := .int .i64 u.1) rfl
    have r1 := hb3.cell_of (i := 1) (v := .int .i64 u.2) rfl
    have hch := Chg.trans_new (S' := [w.heap.size + 1]) ((unhide HCH1).trans hc) (((Chg.refl _ w3).setCell (p := ⟨w.heap.size + 1, 0, none⟩) (.inl (by simp)) (.int .i64 u.1)).setCell (p := ⟨w.heap.size + 1, 1, none⟩) (.inl (by simp)) (.int .i64 u.2)) (fun x hx => by simp at hx; right; omega)
    have R0 := hide r0; have R1 := hide r1; have HCH := hide hch; clear hb2 hb3 r0 r1 hch hc
    go_wp2
    have r0 := unhide R0
    have r1 := unhide R1
    exact bodyPost_ret (v := .tuple #[.agg #[.int .i64 u.1, .int .i64 u.2], .bool true]) (by simp [results, Tryz.results94, go_sem, r0, r1]) rfl ⟨rfl, unhide HCH⟩
  · rw [if_neg hlt] at hsr ⊢
    rw [show decide (keyIdx (keysOf ps n) k < n) = false from by simp [hlt]] at hsr ⊢
    have HS := hide hsr; have HB := hide hb0; have HC0 := hide hc0; clear hsr hm h hc0 hb0 hlt
    go_enter Tryz.func94, Tryz.ntmps94
    go_wp2_with fail
    refine (unhide HS).mono ?_
    rintro e w1 ⟨rfl, hc1⟩
    have hb1 := (unhide HB).chg hc1 (by simp)
    have q0 := hb1.cell_of (i := 0) rfl
    have q1 := hb1.cell_of (i := 1) rfl
    have f0 := hb1.frozen 0
    have f1 := hb1.frozen 1
    have hb3 := ((hb1.setCell 0 (.int .i64 0)).setCell 1 (.int .i64 0))
    have r0 := hb3.cell_of (i := 0) (v := .int .i64 0) rfl
    have r1 := hb3.cell_of (i := 1) (v := .int .i64 0) rfl
    have hch := Chg.trans_new (S' := [w.heap.size + 1]) ((unhide HC0).trans hc1) (((Chg.refl _ w1).setCell (p := ⟨w.heap.size + 1, 0, none⟩) (.inl (by simp)) (.int .i64 0)).setCell (p := ⟨w.heap.size + 1, 1, none⟩) (.inl (by simp)) (.int .i64 0)) (fun x hx => by simp at hx; right; omega)
    have R0 := hide r0; have R1 := hide r1; have HCH := hide hch; clear hb1 hb3 r0 r1 hch hc1
    go_wp2
    have r0 := unhide R0
    have r1 := unhide R1
    exact bodyPost_ret (v := .tuple #[.agg #[.int .i64 0, .int .i64 0], .bool false]) (by simp [results, Tryz.results94, go_sem, r0, r1]) rfl ⟨rfl, unhide HCH⟩

set_option maxHeartbeats 1000000 in
theorem memSetCount_any {w : World} {b : Nat} {pre : List Value} {lim : Int} {ws A B : List Int} {post : List Value} {T : TypeId} {a : Option Addr} {c : Nat} {room : Int} {n : Nat} {ps : List (Int × Int)} (m : Nat) (h : MB w b pre lim ws post T a c) (ht : TabIn ws A B room n ps) (hm : (m : Int) ≤ room) :
    Calls Tryz.prog 130 #[.pointer (some ⟨b, pre.length, none⟩), .int .i64 (A.length : Int), .int .i64 (m : Int)] w fun e w' => e = .returned (.tuple #[]) ∧ (∃ ws', MB w' b pre lim ws' post T a c ∧ TabIn ws' A B room m ps) ∧ Chg (ab a) w w' := by
  have hp8 := ht.plen8
  have hws := ht.len
  have hc := memSetWord_any (A.length + 1) (m : Int) h (by omega)
  have hs := ht.setCnt hm
  have hA : A.length ≤ 512 := by omega
  rw [show ((A.length + 1 : Nat) : Int) = (A.length : Int) + 1 by omega] at hc
  have HC := hide hc; have HS := hide hs; clear hc hs h ht
  go_enter Tryz.func130, Tryz.ntmps130
  go_wp2_with fail
  refine (unhide HC).mono ?_
  rintro e w1 ⟨rfl, h1, k1⟩
  have H1 := hide h1; have K1 := hide k1; clear h1 k1
  go_wp2
  go_end0
  exact ⟨rfl, ⟨_, unhide H1, unhide HS⟩, unhide K1⟩
set_option maxHeartbeats 2000000 in
theorem memSetEntry_any {w : World} {b : Nat} {pre : List Value} {lim : Int} {ws A B : List Int} {post : List Value} {T : TypeId} {a : Option Addr} {c : Nat} {room : Int} {n : Nat} {ps : List (Int × Int)} (i : Nat) (k v : Int × Int) (h : MB w b pre lim ws post T a c) (ht : TabIn ws A B room n ps) (hi : 2 * i + 1 < ps.length) :
    Calls Tryz.prog 129 #[.pointer (some ⟨b, pre.length, none⟩), .int .i64 (A.length : Int), .int .i64 (i : Int), .agg #[.int .i64 k.1, .int .i64 k.2], .agg #[.int .i64 v.1, .int .i64 v.2]] w fun e w' => e = .returned (.tuple #[]) ∧ (∃ ws', MB w' b pre lim ws' post T a c ∧ TabIn ws' A B room n ((ps.set (2 * i) k).set (2 * i + 1) v)) ∧ Chg (ab a) w w' := by
  have hp8 := ht.plen8
  have hws := ht.len
  have hc0 : Chg [] w ((w.alloc (.cells #[.int .i64 k.1, .int .i64 k.2] 121)).alloc (.cells #[.int .i64 v.1, .int .i64 v.2] 121)) := ((Chg.refl [] w).alloc _).alloc _
  have hbv : Blk ((w.alloc (.cells #[.int .i64 k.1, .int .i64 k.2] 121)).alloc (.cells #[.int .i64 v.1, .int .i64 v.2] 121)) (w.heap.size + 1) [.int .i64 v.1, .int .i64 v.2] 121 := by
    have := Blk.new (w.alloc (.cells #[.int .i64 k.1, .int .i64 k.2] 121)) [.int .i64 v.1, .int .i64 v.2] 121
    rw [size_alloc] at this
    exact this
  have h0 := h.chg hc0 (by simp) (by simp)
  have hlt : ∀ x ∈ ab a, x < w.heap.size := own_lt h.own
  have hme := memEntry_any A.length i ((w.alloc (.cells #[.int .i64 k.1, .int .i64 k.2] 121)).alloc (.cells #[.int .i64 v.1, .int .i64 v.2] 121)) (by omega) (by omega)
  have h1 := memSetValue_any (A.length + 2 + 4 * i) k h0 (by omega) (by omega)
  have t1 := ht.setPair (q := 2 * i) (by omega) k
  rw [show A.length + 2 + 2 * (2 * i) = A.length + 2 + 4 * i by omega] at t1
  have hnext : ∀ w1, MB w1 b pre lim (set2 ws (A.length + 2 + 4 * i) k) post T a c → Calls Tryz.prog 128 #[.pointer (some ⟨b, pre.length, none⟩), .int .i64 (((A.length + 2 + 4 * i : Nat) : Int) + 2), .agg #[.int .i64 v.1, .int .i64 v.2]] w1 fun e w' => e = .returned (.tuple #[]) ∧ (∃ ws', MB w' b pre lim ws' post T a c ∧ TabIn ws' A B room n ((ps.set (2 * i) k).set (2 * i + 1) v)) ∧ Chg (ab a) w1 w' := fun w1 hm1 => by
    have := memSetValue_any (A.length + 2 + 4 * i + 2) v hm1 (by rw [set2_len]; omega) (by rw [set2_len]; omega)
    rw [show ((A.length + 2 + 4 * i + 2 : Nat) : Int) = ((A.length + 2 + 4 * i : Nat) : Int) + 2 by omega] at this
    refine this.mono ?_
    rintro e w' ⟨rfl, hm', hc'⟩
    have t2 := t1.setPair (q := 2 * i + 1) (by simpa using hi) v
    rw [show A.length + 2 + 2 * (2 * i + 1) = A.length + 2 + 4 * i + 2 by omega] at t2
    exact ⟨rfl, ⟨_, hm', t2⟩, hc'⟩
  have hbd : A.length + 2 + 4 * i ≤ 1000 := by omega
  generalize set2 ws (A.length + 2 + 4 * i) k = ws1 at *
  generalize A.length + 2 + 4 * i = at' at *
  have zb : (at' : Int) ≤ 1000 := by omega
  have HE := hide hme; have H1 := hide h1; have HN := hide hnext; have HBV := hide hbv; have HC0 := hide hc0; have HLT := hide hlt; clear hme h1 hnext hbv hc0 hlt h h0 ht t1 hbd
  go_enter Tryz.func129, Tryz.ntmps129
  go_wp2_with fail
  refine (unhide HE).mono ?_
  rintro e w1 ⟨rfl, rfl⟩
  go_wp2_with fail
  refine (unhide H1).mono ?_
  rintro e w2 ⟨rfl, h2, k2⟩
  have hb2 := (unhide HBV).chg k2 (fun hm => by have := unhide HLT _ hm; omega)
  have q0 := hb2.cell_of (i := 0) rfl
  have q1 := hb2.cell_of (i := 1) rfl
  have hcall := unhide HN w2 h2
  have HCL := hide hcall; have K2 := hide k2; clear hcall k2 h2 hb2
  go_wp2_with fail
  refine (unhide HCL).mono ?_
  rintro e w3 ⟨rfl, h3, k3⟩
  have H3 := hide h3; have K3 := hide k3; clear h3 k3
  go_wp2
  go_end0
  exact ⟨rfl, unhide H3, ((unhide HC0).mono (by simp)).trans ((unhide K2).trans (unhide K3))⟩
end Go.Proofs.YtfoncalkgmeklaaGreat

/- memory of the program: Put and Cut of tables. -/
namespace Go.Proofs.YtfoncalkgmeklaaGreat
open Go.RowKit

set_option maxRecDepth 100000 in
set_option maxHeartbeats 2000000 in
theorem memPut_any {w : World} {b : Nat} {pre : List Value} {lim : Int} {ws A B : List Int} {post : List Value} {T : TypeId} {a : Option Addr} {c : Nat} {room : Int} {n : Nat} {ps : List (Int × Int)} (k v : Int × Int) (h : MB w b pre lim ws post T a c) (ht : TabIn ws A B room n ps) {j : Nat} (hj : keyIdx (keysOf ps n) k = j) (hjn : j ≤ n) :
    Calls Tryz.prog 102 #[.pointer (some ⟨b, pre.length, none⟩), .int .i64 (A.length : Int), .agg #[.int .i64 k.1, .int .i64 k.2], .agg #[.int .i64 v.1, .int .i64 v.2]] w fun e w' =>
      e = .returned (.bool (decide (j < n ∨ (n : Int) < room))) ∧ (∃ ws', MB w' b pre lim ws' post T a c ∧ TabIn ws' A B room (if j < n then n else if (n : Int) < room then n + 1 else n) (if j < n ∨ (n : Int) < room then (ps.set (2 * j) k).set (2 * j + 1) v else ps)) ∧ Chg (ab a) w w' := by
  have hp8 := ht.plen8
  have hws := ht.len
  have hrm := ht.room0
  have hpl := ht.plen
  have hc0 : Chg [] w ((w.alloc (.cells #[.int .i64 k.1, .int .i64 k.2] 121)).alloc (.cells #[.int .i64 v.1, .int .i64 v.2] 121)) := ((Chg.refl [] w).alloc _).alloc _
  have hbk : Blk ((w.alloc (.cells #[.int .i64 k.1, .int .i64 k.2] 121)).alloc (.cells #[.int .i64 v.1, .int .i64 v.2] 121)) w.heap.size [.int .i64 k.1, .int .i64 k.2] 121 := (Blk.new w [.int .i64 k.1, .int .i64 k.2] _).alloc _
  have hbv : Blk ((w.alloc (.cells #[.int .i64 k.1, .int .i64 k.2] 121)).alloc (.cells #[.int .i64 v.1, .int .i64 v.2] 121)) (w.heap.size + 1) [.int .i64 v.1, .int .i64 v.2] 121 := by
    have := Blk.new (w.alloc (.cells #[.int .i64 k.1, .int .i64 k.2] 121)) [.int .i64 v.1, .int .i64 v.2] 121
    rw [size_alloc] at this
    exact this
  have h0 := h.chg hc0 (by simp) (by simp)
  have hsr := memSearch_any k h0.mem ht
  rw [hj] at hsr
  have hlt : ∀ x ∈ ab a, x < w.heap.size := own_lt h.own
  by_cases h1 : j < n
  · rw [if_pos h1, show decide (j < n) = true from by simp [h1]] at hsr
    rw [show decide (j < n ∨ (n : Int) < room) = true from by simp [h1], if_pos h1, if_pos (Or.inl h1)]
    have hse : ∀ w1, Chg [] w w1 → Calls Tryz.prog 129 #[.pointer (some ⟨b, pre.length, none⟩), .int .i64 (A.length : Int), .int .i64 (j : Int), .agg #[.int .i64 k.1, .int .i64 k.2], .agg #[.int .i64 v.1, .int .i64 v.2]] w1 fun e w' => e = .returned (.tuple #[]) ∧ (∃ ws', MB w' b pre lim ws' post T a c ∧ TabIn ws' A B room n ((ps.set (2 * j) k).set (2 * j + 1) v)) ∧ Chg (ab a) w1 w' := fun w1 k1 => memSetEntry_any j k v (h.chg k1 (by simp) (by simp)) ht (by omega)
    generalize (ps.set (2 * j) k).set (2 * j + 1) v = ps' at *
    have HS := hide hsr; have HE := hide hse; have HBK := hide hbk; have HBV := hide hbv; have HC0 := hide hc0; clear hsr hse hbk hbv hc0 h h0 ht hj h1 hlt
    go_enter Tryz.func102, Tryz.ntmps102
    go_wp2_with fail
    refine (unhide HS).mono ?_
    rintro e w1 ⟨rfl, hc1⟩
    have b1 := (unhide HBK).chg hc1 (by simp)
    have b2 := (unhide HBV).chg hc1 (by simp)
    have q0 := b1.cell_of (i := 0) rfl
    have q1 := b1.cell_of (i := 1) rfl
    have q2 := b2.cell_of (i := 0) rfl
    have q3 := b2.cell_of (i := 1) rfl
    have hcall := unhide HE w1 ((unhide HC0).trans hc1)
    have HCL := hide hcall; have HCH := hide ((unhide HC0).trans hc1); clear hcall hc1 b1 b2
    go_wp2_with fail
    refine (unhide HCL).mono ?_
    rintro e w2 ⟨rfl, h2, k2⟩
    have H2 := hide h2; have K2 := hide k2; clear h2 k2
    go_wp2
    go_ret
    exact ⟨rfl, unhide H2, ((unhide HCH).mono (by simp)).trans (unhide K2)⟩
  · have hjn' : j = n := by omega
    subst hjn'
    rw [if_neg h1, show decide (j < j) = false from by simp] at hsr
    rw [if_neg h1]
    have hln : ∀ w1, Chg [] w w1 → _ := fun w1 k1 => tabLen_any ((h.chg k1 (by simp) (by simp)).mem) ht
    have hsz : ∀ w1, Chg [] w w1 → Calls Tryz.prog 81 #[.pointer (some ⟨b, pre.length, none⟩), .int .i64 (A.length : Int)] w1 fun e w' => e = .returned (.int .i64 room) ∧ w' = w1 := fun w1 k1 => by
      have := memSize_any (A.length : Int) ((h.chg k1 (by simp) (by simp)).mem) (by omega) ht.head.1 (by omega)
      rw [show (3 * 65536 + room) % 65536 = room by omega] at this
      exact this
    by_cases h2 : (j : Int) < room
    · rw [show decide (j < j ∨ (j : Int) < room) = true from by simp [h2], if_pos h2, if_pos (Or.inr h2)]
      have hse : ∀ w1, Chg [] w w1 → Calls Tryz.prog 129 #[.pointer (some ⟨b, pre.length, none⟩), .int .i64 (A.length : Int), .int .i64 (j : Int), .agg #[.int .i64 k.1, .int .i64 k.2], .agg #[.int .i64 v.1, .int .i64 v.2]] w1 fun e w' => e = .returned (.tuple #[]) ∧ (∃ ws', MB w' b pre lim ws' post T a c ∧ TabIn ws' A B room j ((ps.set (2 * j) k).set (2 * j + 1) v)) ∧ Chg (ab a) w1 w' := fun w1 k1 => memSetEntry_any j k v (h.chg k1 (by simp) (by simp)) ht (by omega)
      generalize (ps.set (2 * j) k).set (2 * j + 1) v = ps' at *
      have hsc : ∀ w1 ws1, MB w1 b pre lim ws1 post T a c → TabIn ws1 A B room j ps' → Calls Tryz.prog 130 #[.pointer (some ⟨b, pre.length, none⟩), .int .i64 (A.length : Int), .int .i64 ((j : Int) + 1)] w1 fun e w' => e = .returned (.tuple #[]) ∧ (∃ ws', MB w' b pre lim ws' post T a c ∧ TabIn ws' A B room (j + 1) ps') ∧ Chg (ab a) w1 w' := fun w1 ws1 m1 t1 => by
        have := memSetCount_any (j + 1) m1 t1 (by omega)
        rw [show ((j + 1 : Nat) : Int) = (j : Int) + 1 by omega] at this
        exact this
      have zr : ¬ (j : Int) ≥ room := by omega
      have hj8 : j ≤ 8 := by omega
      have HS := hide hsr; have HE := hide hse; have HL := hide hln; have HZ := hide hsz; have HSC := hide hsc; have HBK := hide hbk; have HBV := hide hbv; have HC0 := hide hc0; clear hsr hse hln hsz hsc hbk hbv hc0 h h0 ht hj h1 hlt h2
      go_enter Tryz.func102, Tryz.ntmps102
      go_wp2_with fail
      refine (unhide HS).mono ?_
      rintro e w1 ⟨rfl, hc1⟩
      have b1 := (unhide HBK).chg hc1 (by simp)
      have b2 := (unhide HBV).chg hc1 (by simp)
      have q0 := b1.cell_of (i := 0) rfl
      have q1 := b1.cell_of (i := 1) rfl
      have q2 := b2.cell_of (i := 0) rfl
      have q3 := b2.cell_of (i := 1) rfl
      have hch := (unhide HC0).trans hc1
      have hcl := unhide HL w1 hch
      have hcz := unhide HZ w1 hch
      have hcall := unhide HE w1 hch
      have HCL1 := hide hcl; have HCZ := hide hcz; have HCL := hide hcall; have HCH := hide hch; clear hcall hcl hcz hc1 b1 b2 hch
      go_wp2_with fail
      refine (unhide HCL1).mono ?_
      rintro e w2 ⟨rfl, rfl⟩
      go_wp2_with fail
      refine (unhide HCZ).mono ?_
      rintro e w2' ⟨rfl, rfl⟩
      go_wp2_with fail
      refine (unhide HCL).mono ?_
      rintro e w3 ⟨rfl, ⟨ws3, h3, t3⟩, k3⟩
      have hcall := unhide HSC w3 ws3 h3 t3
      have HCL2 := hide hcall; have K3 := hide k3; clear hcall h3 t3 k3 q0 q1 q2 q3
      go_wp2_with fail
      refine (unhide HCL2).mono ?_
      rintro e w4 ⟨rfl, h4, k4⟩
      have H4 := hide h4; have K4 := hide k4; clear h4 k4
      go_wp2
      go_ret
      exact ⟨rfl, unhide H4, ((unhide HCH).mono (by simp)).trans ((unhide K3).trans (unhide K4))⟩
    · rw [show decide (j < j ∨ (j : Int) < room) = false from by simp; omega, if_neg h2, if_neg (by omega)]
      have zr : (j : Int) ≥ room := by omega
      have hfin : ∀ w1, Chg [] w w1 → ∃ ws', MB w1 b pre lim ws' post T a c ∧ TabIn ws' A B room j ps := fun w1 k1 => ⟨ws, h.chg k1 (by simp) (by simp), ht⟩
      have HS := hide hsr; have HL := hide hln; have HZ := hide hsz; have HFIN := hide hfin; have HC0 := hide hc0; clear hsr hln hsz hbk hbv hc0 h h0 ht hj h1 hlt h2 hfin
      go_enter Tryz.func102, Tryz.ntmps102
      go_wp2_with fail
      refine (unhide HS).mono ?_
      rintro e w1 ⟨rfl, hc1⟩
      have hch := (unhide HC0).trans hc1
      have hcl := unhide HL w1 hch
      have hcz := unhide HZ w1 hch
      have HCL1 := hide hcl; have HCZ := hide hcz; have HCH := hide hch; clear hcl hcz hc1 hch
      go_wp2_with fail
      refine (unhide HCL1).mono ?_
      rintro e w2 ⟨rfl, rfl⟩
      go_wp2_with fail
      refine (unhide HCZ).mono ?_
      rintro e w2' ⟨rfl, rfl⟩
      go_wp2
      go_ret
      exact ⟨rfl, unhide HFIN _ (unhide HCH), (unhide HCH).mono (by simp)⟩

set_option maxHeartbeats 2000000 in
theorem memMoveUp_any {w : World} {b : Nat} {pre : List Value} {lim : Int} {ws A B : List Int} {post : List Value} {T : TypeId} {a : Option Addr} {c : Nat} {room : Int} {n : Nat} {ps : List (Int × Int)} (i : Nat) (h : MB w b pre lim ws post T a c) (ht : TabIn ws A B room n ps) (hi : 2 * (i + 1) + 1 < ps.length) :
    Calls Tryz.prog 131 #[.pointer (some ⟨b, pre.length, none⟩), .int .i64 (A.length : Int), .int .i64 ((i : Int) + 1)] w fun e w' => e = .returned (.tuple #[]) ∧ (∃ ws', MB w' b pre lim ws' post T a c ∧ TabIn ws' A B room n ((ps.set (2 * i) (ps.getD (2 * i + 2) (0, 0))).set (2 * i + 1) (ps.getD (2 * i + 3) (0, 0)))) ∧ Chg (ab a) w w' := by
  have hp8 := ht.plen8
  have hws := ht.len
  have hme := memEntry_any A.length (i + 1) w (by omega) (by omega)
  rw [show ((i + 1 : Nat) : Int) = (i : Int) + 1 by omega] at hme
  obtain ⟨e0, e1⟩ := ht.pair (q := 2 * i + 2) (by omega)
  obtain ⟨e2, e3⟩ := ht.pair (q := 2 * i + 3) (by omega)
  rw [show A.length + 2 + 2 * (2 * i + 2) = A.length + 2 + 4 * (i + 1) by omega] at e0 e1
  rw [show A.length + 2 + 2 * (2 * i + 3) = A.length + 2 + 4 * (i + 1) + 2 by omega, show ((A.length + 2 + 4 * (i + 1) + 2 : Nat) : Int) = ((A.length + 2 + 4 * (i + 1) : Nat) : Int) + 2 by omega] at e2 e3
  have hv1 : ∀ w1, Chg [] w w1 → _ := fun w1 k1 => memValue_any ((A.length + 2 + 4 * (i + 1) : Nat) : Int) ((h.chg k1 (by simp) (by simp)).mem) (by omega) (by omega) e0 e1
  have hv2 : ∀ w1, Chg [] w w1 → _ := fun w1 k1 => memValue_any (((A.length + 2 + 4 * (i + 1) : Nat) : Int) + 2) ((h.chg k1 (by simp) (by simp)).mem) (by omega) (by omega) e2 e3
  generalize ps.getD (2 * i + 2) (0, 0) = k at *
  generalize ps.getD (2 * i + 3) (0, 0) = v at *
  have hse : ∀ w1, Chg [] w w1 → Calls Tryz.prog 129 #[.pointer (some ⟨b, pre.length, none⟩), .int .i64 (A.length : Int), .int .i64 (i : Int), .agg #[.int .i64 k.1, .int .i64 k.2], .agg #[.int .i64 v.1, .int .i64 v.2]] w1 fun e w' => e = .returned (.tuple #[]) ∧ (∃ ws', MB w' b pre lim ws' post T a c ∧ TabIn ws' A B room n ((ps.set (2 * i) k).set (2 * i + 1) v)) ∧ Chg (ab a) w1 w' := fun w1 k1 => memSetEntry_any i k v (h.chg k1 (by simp) (by simp)) ht (by omega)
  have hbd : A.length + 2 + 4 * (i + 1) ≤ 1000 := by omega
  have hi8 : i ≤ 8 := by omega
  generalize (ps.set (2 * i) k).set (2 * i + 1) v = ps' at *
  generalize A.length + 2 + 4 * (i + 1) = at' at *
  have zb : (at' : Int) ≤ 1000 := by omega
  have HE := hide hme; have H1 := hide hv1; have H2 := hide hv2; have HSE := hide hse; clear hme hv1 hv2 hse h ht e0 e1 e2 e3 hbd hi hws hp8
  go_enter Tryz.func131, Tryz.ntmps131
  go_wp2_with fail
  refine (unhide HE).mono ?_
  rintro e w1 ⟨rfl, rfl⟩
  have hc1 := unhide H1 w1 (Chg.refl _ _)
  have HC1 := hide hc1; clear hc1
  go_wp2_with fail
  refine (unhide HC1).mono ?_
  rintro e w2 ⟨rfl, k2⟩
  have hch2 := k2.alloc (.cells #[.int .i64 k.1, .int .i64 k.2] 121)
  have hb2 : Blk (w2.alloc (.cells #[.int .i64 k.1, .int .i64 k.2] 121)) w2.heap.size [.int .i64 k.1, .int .i64 k.2] 121 := Blk.new w2 [.int .i64 k.1, .int .i64 k.2] _
  have hc2 := unhide H2 _ hch2
  have HC2 := hide hc2; have HCH2 := hide hch2; have HB2 := hide hb2; clear hc2 hch2 hb2 k2
  go_wp2_with fail
  refine (unhide HC2).mono ?_
  rintro e w3 ⟨rfl, k3⟩
  have hch3 := ((unhide HCH2).trans k3).alloc (.cells #[.int .i64 v.1, .int .i64 v.2] 121)
  have hb3 := ((unhide HB2).chg k3 (by simp)).alloc (.cells #[.int .i64 v.1, .int .i64 v.2] 121)
  have q0 := hb3.cell_of (i := 0) rfl
  have q1 := hb3.cell_of (i := 1) rfl
  have hz : w2.heap.size < w3.heap.size := ((unhide HB2).chg k3 (by simp)).lt
  have hc3 := unhide HSE _ hch3
  have HC3 := hide hc3; have HCH3 := hide hch3; clear hc3 hch3 hb3 k3
  go_wp2_with fail
  refine (unhide HC3).mono ?_
  rintro e w4 ⟨rfl, h4, k4⟩
  have H4 := hide h4; have K4 := hide k4; clear h4 k4
  go_wp2
  go_end0
  exact ⟨rfl, unhide H4, ((unhide HCH3).mono (by simp)).trans (unhide K4)⟩

/-- The pairs when the entries from i on have moved up, as far as the j-th. -/
def cutAt (ps : List (Int × Int)) (i j : Nat) : List (Int × Int) := (List.range ps.length).map fun q => if 2 * i ≤ q ∧ q < 2 * j then ps.getD (q + 2) (0, 0) else ps.getD q (0, 0)
theorem cutAt_len (ps : List (Int × Int)) (i j : Nat) : (cutAt ps i j).length = ps.length := by simp [cutAt]
theorem cutAt_get (ps : List (Int × Int)) {i j q : Nat} (h : q < ps.length) : (cutAt ps i j)[q]? = some (if 2 * i ≤ q ∧ q < 2 * j then ps.getD (q + 2) (0, 0) else ps.getD q (0, 0)) := by
  unfold cutAt
  rw [List.getElem?_map, List.getElem?_range h]
  rfl
theorem cutAt_getD (ps : List (Int × Int)) {i j q : Nat} (h : q < ps.length) : (cutAt ps i j).getD q (0, 0) = if 2 * i ≤ q ∧ q < 2 * j then ps.getD (q + 2) (0, 0) else ps.getD q (0, 0) := by
  unfold List.getD
  rw [cutAt_get ps h]
  rfl
theorem cutAt_self (ps : List (Int × Int)) (i : Nat) : cutAt ps i i = ps := by
  apply List.ext_getElem?
  intro q
  by_cases h : q < ps.length
  · rw [cutAt_get ps h, if_neg (by omega), List.getElem?_eq_getElem h]
    simp [List.getD, h]
  · rw [List.getElem?_eq_none (by rw [cutAt_len]; omega), List.getElem?_eq_none (by omega)]
theorem cutAt_step (ps : List (Int × Int)) {i j : Nat} (hij : i ≤ j) (h : 2 * j + 3 < ps.length) : ((cutAt ps i j).set (2 * j) ((cutAt ps i j).getD (2 * j + 2) (0, 0))).set (2 * j + 1) ((cutAt ps i j).getD (2 * j + 3) (0, 0)) = cutAt ps i (j + 1) := by
  rw [cutAt_getD ps (by omega), cutAt_getD ps h, if_neg (by omega), if_neg (by omega)]
  apply List.ext_getElem?
  intro q
  rw [List.getElem?_set, List.getElem?_set]
  simp only [List.length_set, cutAt_len]
  by_cases hq : q < ps.length
  · rw [cutAt_get ps hq, cutAt_get ps hq]
    by_cases h1 : 2 * j + 1 = q
    · subst h1
      rw [if_pos rfl, if_pos hq, if_pos (by omega)]
    · rw [if_neg h1]
      by_cases h2 : 2 * j = q
      · subst h2
        rw [if_pos rfl, if_pos hq, if_pos (by omega)]
      · rw [if_neg h2]
        by_cases h3 : 2 * i ≤ q ∧ q < 2 * j
        · rw [if_pos h3, if_pos (by omega)]
        · rw [if_neg h3, if_neg (by omega)]
  · rw [if_neg (by omega), if_neg (by omega), List.getElem?_eq_none (by rw [cutAt_len]; omega), List.getElem?_eq_none (by rw [cutAt_len]; omega)]

set_option maxRecDepth 100000 in
set_option maxHeartbeats 2000000 in
theorem memCut_any {w : World} {b : Nat} {pre : List Value} {lim : Int} {ws A B : List Int} {post : List Value} {T : TypeId} {a : Option Addr} {c : Nat} {room : Int} {n : Nat} {ps : List (Int × Int)} (k : Int × Int) (h : MB w b pre lim ws post T a c) (ht : TabIn ws A B room n ps) {i : Nat} (hi : keyIdx (keysOf ps n) k = i) (hin : i < n) :
    Calls Tryz.prog 103 #[.pointer (some ⟨b, pre.length, none⟩), .int .i64 (A.length : Int), .agg #[.int .i64 k.1, .int .i64 k.2]] w fun e w' =>
      e = .returned (.bool true) ∧ (∃ ws', MB w' b pre lim ws' post T a c ∧ TabIn ws' A B room (n - 1) (((cutAt ps i (n - 1)).set (2 * (n - 1)) (0, 0)).set (2 * (n - 1) + 1) (0, 0))) ∧ Chg (ab a) w w' := by
  have hp8 := ht.plen8
  have hws := ht.len
  have hrm := ht.room0
  have hpl := ht.plen
  have hcn := ht.cnt
  have hc0 : Chg [] w (w.alloc (.cells #[.int .i64 k.1, .int .i64 k.2] 121)) := (Chg.refl [] w).alloc _
  have h0 := h.chg hc0 (by simp) (by simp)
  have hsr := memSearch_any k h0.mem ht
  rw [hi, if_pos hin, show decide (i < n) = true from by simp [hin]] at hsr
  have hln : ∀ w1, Chg [] w w1 → _ := fun w1 k1 => tabLen_any ((h.chg k1 (by simp) (by simp)).mem) ht
  have hmb : ∀ w1, Chg [] w w1 → MB w1 b pre lim ws post T a c := fun w1 k1 => h.chg k1 (by simp) (by simp)
  obtain ⟨last, rfl⟩ : ∃ last, n = last + 1 := ⟨n - 1, by omega⟩
  rw [show last + 1 - 1 = last by omega]
  have hl8 : last ≤ 8 := by omega
  have HS := hide hsr; have HL := hide hln; have HMB := hide hmb; have HC0 := hide hc0; have HT := hide ht; clear hsr hln hmb hc0 h h0 ht hi
  go_enter Tryz.func103, Tryz.ntmps103
  go_wp2_with fail
  refine (unhide HS).mono ?_
  rintro e w1 ⟨rfl, hc1⟩
  have hch := (unhide HC0).trans hc1
  have hcl := unhide HL w1 hch
  have hm1 := unhide HMB w1 hch
  have HCL1 := hide hcl; have HM1 := hide hm1; have HCH := hide hch; clear hcl hm1 hch hc1 HS HL HMB HC0
  go_wp2_with fail
  refine (unhide HCL1).mono ?_
  rintro e w2 ⟨rfl, rfl⟩
  have hsub : IntKind.i64.wrap (((last + 1 : Nat) : Int) - 1) = (last : Int) := by rw [IntKind.wrap_i64]; omega
  go_wp2_with fail
  go_loopw [7] (fun v wr => ∃ (j : Nat) (wsj : List Int), i ≤ j ∧ j ≤ last ∧ v = .int .i64 j ∧ MB wr b pre lim wsj post T a c ∧ TabIn wsj A B room (last + 1) (cutAt ps i j) ∧ Chg (ab a) w2 wr) (fun v _ => last - (intOf v).toNat)
  case atStart => exact ⟨i, ws, Nat.le_refl _, by omega, rfl, unhide HM1, by rw [cutAt_self]; exact unhide HT, Chg.refl _ _⟩
  case round =>
    obtain ⟨j, wsj, hij, hjl, rfl, hmj, htj, hchj⟩ := hrel
    by_cases hlt : j < last
    · have zj : (j : Int) < (last : Int) := by omega
      have hmu := memMoveUp_any j hmj htj (by rw [cutAt_len]; omega)
      rw [cutAt_step ps hij (by omega)] at hmu
      have HMU := hide hmu; have HCHJ := hide hchj; clear hmu hmj htj hchj
      go_wp2_with fail
      refine (unhide HMU).mono ?_
      rintro e w3 ⟨rfl, ⟨ws3, h3, t3⟩, k3⟩
      have H3 := hide h3; have T3 := hide t3; have K3 := hide k3; clear h3 t3 k3
      go_wp2
      go_roundw
      case rel =>
        have hr : ∃ (j' : Nat) (wsj : List Int), i ≤ j' ∧ j' ≤ last ∧ Value.int .i64 ((j : Int) + 1) = .int .i64 j' ∧ MB w3 b pre lim wsj post T a c ∧ TabIn wsj A B room (last + 1) (cutAt ps i j') ∧ Chg (ab a) w2 w3 :=
          ⟨j + 1, ws3, by omega, by omega, by go_num, unhide H3, unhide T3, (unhide HCHJ).trans (unhide K3)⟩
        first | exact hr | ((repeat apply Exists.intro); exact ⟨hr, rfl⟩)
      case measure => simp [intOf]; omega
    · have hjl' : j = last := by omega
      subst hjl'
      have hse := memSetEntry_any j (0, 0) (0, 0) hmj htj (by rw [cutAt_len]; omega)
      obtain ⟨ps', hps⟩ : ∃ ps', ps' = ((cutAt ps i j).set (2 * j) (0, 0)).set (2 * j + 1) (0, 0) := ⟨_, rfl⟩
      rw [← hps] at hse
      have hsc : ∀ w1 ws1, MB w1 b pre lim ws1 post T a c → TabIn ws1 A B room (j + 1) ps' → Calls Tryz.prog 130 #[.pointer (some ⟨b, pre.length, none⟩), .int .i64 (A.length : Int), .int .i64 (j : Int)] w1 fun e w' => e = .returned (.tuple #[]) ∧ (∃ ws', MB w' b pre lim ws' post T a c ∧ TabIn ws' A B room j ps') ∧ Chg (ab a) w1 w' := fun w1 ws1 m1 t1 => memSetCount_any j m1 t1 (by omega)
      have HSE := hide hse; have HSC := hide hsc; have HCHJ := hide hchj; have HPS := hide hps; clear hse hsc hmj htj hchj hps
      go_wp2_with fail
      refine (unhide HSE).mono ?_
      rintro e w3 ⟨rfl, ⟨ws3, h3, t3⟩, k3⟩
      have hcall := unhide HSC w3 ws3 h3 t3
      have HCL := hide hcall; have K3 := hide k3; clear hcall h3 t3 k3
      go_wp2_with fail
      refine (unhide HCL).mono ?_
      rintro e w4 ⟨rfl, h4, k4⟩
      have H4 := hide h4; have K4 := hide k4; clear h4 k4
      go_wp2
      go_ret
      refine ⟨rfl, ?_, ((unhide HCH).mono (by simp)).trans ((unhide HCHJ).trans ((unhide K3).trans (unhide K4)))⟩
      rw [← unhide HPS]
      exact unhide H4
set_option maxHeartbeats 1000000 in
theorem memCut_none {w : World} {b off : Nat} {ws A B : List Int} {room : Int} {n : Nat} {ps : List (Int × Int)} (k : Int × Int) (hm : MemAt w b off ws) (ht : TabIn ws A B room n ps) (hi : keyIdx (keysOf ps n) k = n) :
    Calls Tryz.prog 103 #[.pointer (some ⟨b, off, none⟩), .int .i64 (A.length : Int), .agg #[.int .i64 k.1, .int .i64 k.2]] w fun e w' => e = .returned (.bool false) ∧ Chg [] w w' := by
  have hc0 : Chg [] w (w.alloc (.cells #[.int .i64 k.1, .int .i64 k.2] 121)) := (Chg.refl [] w).alloc _
  have hsr := memSearch_any k (hm.chg hc0) ht
  rw [hi, if_neg (by omega), show decide (n < n) = false from by simp] at hsr
  have HS := hide hsr; have HC0 := hide hc0; clear hsr hc0 hm ht hi
  go_enter Tryz.func103, Tryz.ntmps103
  go_wp2_with fail
  refine (unhide HS).mono ?_
  rintro e w1 ⟨rfl, hc1⟩
  have HC1 := hide ((unhide HC0).trans hc1); clear hc1
  go_wp2
  go_ret
  exact ⟨rfl, unhide HC1⟩
end Go.Proofs.YtfoncalkgmeklaaGreat

import Derived.Test.YtfoncalkgmeklaaGreatYwM33
import Derived.Test.YtfoncalkgmeklaaGreatYwM15
import Derived.Test.YtfoncalkgmeklaaGreatYwM16

/- Array, Table and Bytes of the program, of any flags and limit. -/
namespace Go.Proofs.YtfoncalkgmeklaaGreat
open Go.RowKit
variable {fx : Fx}

section
variable {w w' : World} {bh : Nat} {sl : List Slot} {a : Option Addr} {c : Nat} {s : R}
/-- The end where memory runs out. -/
theorem gg_no {o : RObj} {k n : Int} {j : Nat} (hK : oWords o = wordsOf k n) (hfr : s.free? = some j) (hg : (G fx) w bh s (bh :: ab a)) (ho : FlagsOwn w fx) (h : AddNo fx s a w bh k n w') :
    (s.make o).1 = 0 ∧ (s.make o).2.1 = 12 ∧ ∃ F', GG w' bh (s.make o).2.2 F' ∧ (∀ b ∈ F', b < w'.heap.size) ∧ Stp ((bh :: ab a) ++ ab fx.fa) w F' w' := by
  obtain ⟨hx, F', hg', st⟩ := h
  rw [make_some hfr, hK, if_pos hx]
  exact ⟨rfl, rfl, _, gg_end (fx' := fx.to fx.after) hg ho ⟨rfl, rfl, rfl⟩ hg' st (fun h => by cases h)⟩
/-- The end where an object was made. -/
theorem gg_ok {o : RObj} {j : Nat} {F' : List Nat} (hfr : s.free? = some j) (hx : usedOf s.objs (s.made3 (oWords o)).row + oWords o ≤ s.limit) (hg : (G fx) w bh s (bh :: ab a)) (ho : FlagsOwn w fx) (hf : FxOk fx s)
    (hg' : (G (fx.to fx.after)) w' bh (((s.made3 (oWords o)).push o).handle s.objs.length s.scopes).2.2 F') (st : Stp (bh :: ab a) w F' w') :
    (s.make o).1 = 32 * s.past (j : Int) + j ∧ (s.make o).2.1 = 0 ∧ ∃ F', GG w' bh (s.make o).2.2 F' ∧ (∀ b ∈ F', b < w'.heap.size) ∧ Stp ((bh :: ab a) ++ ab fx.fa) w F' w' := by
  rw [make_some hfr, if_neg (Int.not_lt.2 hx)]
  refine ⟨rfl, rfl, _, gg_end (fx' := fx.to fx.after) hg ho ⟨rfl, rfl, rfl⟩ hg' st (fun _ => made3_fx hf (oWords o) ?_ ?_)⟩
  · exact (handle_fm _ _ _).1
  · exact (handle_fm _ _ _).2.1
/-- What add plays of the document's make, where the new words are the object's. -/
theorem add_plays {k n : Int} {o : RObj} (hw : ∀ u : R, objWords u o = (k * 65536 + n) :: List.replicate ((wordsOf k n).toNat - 1) 0) (hK : oWords o = wordsOf k n) (most : Int) (hg : (G fx) w bh s (bh :: ab a)) (h : MB w bh [.bool false] s.limit s.words (holdCells fx sl s.scopes) 67 a c) (hl : sl.length = 32) (hs : ∀ k x, sl[k]? = some x → SlotOk s k x) (hd : s.dead = false) (ha : RAll s) {m : Nat} (hu : RUp m s) (hm : m ≤ 3298534883328) (ho : FlagsOwn w fx) (hf : FxOk fx s) (hk : 1 ≤ k ∧ k ≤ 3) (h0 : 0 ≤ n) (h1 : n ≤ most) (h64 : n ≤ 64) :
    Calls Tryz.prog 75 #[.pointer (some ⟨bh, 0, none⟩), .int .i64 k, .int .i64 n, .int .i64 most] w fun e w' => e = .returned (.tuple #[.int .i64 (s.make o).1, .int .i64 (s.make o).2.1]) ∧ ∃ F', GG w' bh (s.make o).2.2 F' ∧ (∀ b ∈ F', b < w'.heap.size) ∧ Stp ((bh :: ab a) ++ ab fx.fa) w F' w' := by
  cases hfr : s.free? with
  | none =>
    rw [make_none hfr]
    refine (gripAdd_full k n most h hl h0 h1 (by rw [slotFree_ok hl hs, hfr]; rfl)).mono ?_
    rintro e w' ⟨rfl, rfl⟩
    exact ⟨rfl, _, gg_end hg ho ⟨rfl, rfl, rfl⟩ hg (Stp.refl _ _) (fun _ => hf)⟩
  | some j =>
    refine (gripAdd_take k n most h hl hs ha hu hm ho hf hk h0 h1 h64 hfr).mono ?_
    rintro e w' (⟨rfl, hno⟩ | ⟨rfl, hok⟩)
    · obtain ⟨e1, e2, h3⟩ := gg_no hK hfr hg ho hno
      rw [e1, e2]
      exact ⟨rfl, h3⟩
    · obtain ⟨hx, sl', a', c', hl', hs', st, hm'⟩ := hok
      rw [← hw ((s.made3 (wordsOf k n)).push o)] at hm'
      rw [← hK] at hx hs' hm'
      obtain ⟨e1, e2, h3⟩ := gg_ok hfr hx hg ho hf (G_new hl' hs' ha hd hfr hm') st
      rw [e1, e2]
      exact ⟨rfl, h3⟩
end

set_option maxHeartbeats 1000000 in
theorem gg_array {bh : Nat} {s : R} (n : Int) (hd : s.dead = false) (ha : RAll s) {m : Nat} (hu : RUp m s) (hm : m ≤ 3298534883328) : PCall GG 27 bh [.int .i64 n] s (.int .i64 (s.arrayQ n).1) (s.arrayQ n).2.1 (s.arrayQ n).2.2 := by
  rintro w F ⟨fx, F0, hg, rfl, ho, hf⟩
  have hf := hf hd
  obtain ⟨sl, a, c, hmb, rfl, hl, hs⟩ := G_live hg hd
  show Calls Tryz.prog 27 #[.pointer (some ⟨bh, 0, none⟩), .int .i64 n] w _
  have hq : s.arrayQ n = if n < 0 ∨ 16 < n then (0, 6, s) else s.make (mkArray n) := by unfold R.arrayQ; rw [hd]; rfl
  have fin : ∀ {r : Int × Int × R}, s.arrayQ n = r → (Calls Tryz.prog 75 #[.pointer (some ⟨bh, 0, none⟩), .int .i64 1, .int .i64 n, .int .i64 16] w fun e w' => e = .returned (.tuple #[.int .i64 r.1, .int .i64 r.2.1]) ∧ ∃ F', GG w' bh r.2.2 F' ∧ (∀ b ∈ F', b < w'.heap.size) ∧ Stp ((bh :: ab a) ++ ab fx.fa) w F' w') →
      Calls Tryz.prog 27 #[.pointer (some ⟨bh, 0, none⟩), .int .i64 n] w fun e w' => ∃ F', e = .returned (.tuple #[.int .i64 (s.arrayQ n).1, .int .i64 (s.arrayQ n).2.1]) ∧ GG w' bh (s.arrayQ n).2.2 F' ∧ (∀ b ∈ F', b < w'.heap.size) ∧ Stp ((bh :: ab a) ++ ab fx.fa) w F' w' := by
    intro r hr hc
    rw [hr]
    have HC := hide hc; clear hc hmb hs hg hq hr ho hf
    go_enter Tryz.func27, Tryz.ntmps27
    go_wp2_with fail
    refine (unhide HC).mono ?_
    rintro e w1 ⟨rfl, F1, h1⟩
    have H1 := hide h1; clear h1
    go_wp2
    go_ret2
    exact ⟨F1, rfl, unhide H1⟩
  by_cases hb : n < 0 ∨ 16 < n
  · rw [if_pos hb] at hq
    refine fin hq ((gripAdd_size 1 n 16 hmb hb).mono ?_)
    rintro e w' ⟨rfl, rfl⟩
    exact ⟨rfl, _, gg_end hg ho ⟨rfl, rfl, rfl⟩ hg (Stp.refl _ _) (fun _ => hf)⟩
  · rw [if_neg hb] at hq
    exact fin hq (add_plays (fun u => objWords_array u (by omega)) rfl 16 hg hmb hl hs hd ha hu hm ho hf (by omega) (by omega) (by omega) (by omega))
set_option maxHeartbeats 1000000 in
theorem gg_table {bh : Nat} {s : R} (n : Int) (hd : s.dead = false) (ha : RAll s) {m : Nat} (hu : RUp m s) (hm : m ≤ 3298534883328) : PCall GG 31 bh [.int .i64 n] s (.int .i64 (s.tableQ n).1) (s.tableQ n).2.1 (s.tableQ n).2.2 := by
  rintro w F ⟨fx, F0, hg, rfl, ho, hf⟩
  have hf := hf hd
  obtain ⟨sl, a, c, hmb, rfl, hl, hs⟩ := G_live hg hd
  show Calls Tryz.prog 31 #[.pointer (some ⟨bh, 0, none⟩), .int .i64 n] w _
  have hq : s.tableQ n = if n < 0 ∨ 8 < n then (0, 6, s) else s.make (mkTable n) := by unfold R.tableQ; rw [hd]; rfl
  have fin : ∀ {r : Int × Int × R}, s.tableQ n = r → (Calls Tryz.prog 75 #[.pointer (some ⟨bh, 0, none⟩), .int .i64 3, .int .i64 n, .int .i64 8] w fun e w' => e = .returned (.tuple #[.int .i64 r.1, .int .i64 r.2.1]) ∧ ∃ F', GG w' bh r.2.2 F' ∧ (∀ b ∈ F', b < w'.heap.size) ∧ Stp ((bh :: ab a) ++ ab fx.fa) w F' w') →
      Calls Tryz.prog 31 #[.pointer (some ⟨bh, 0, none⟩), .int .i64 n] w fun e w' => ∃ F', e = .returned (.tuple #[.int .i64 (s.tableQ n).1, .int .i64 (s.tableQ n).2.1]) ∧ GG w' bh (s.tableQ n).2.2 F' ∧ (∀ b ∈ F', b < w'.heap.size) ∧ Stp ((bh :: ab a) ++ ab fx.fa) w F' w' := by
    intro r hr hc
    rw [hr]
    have HC := hide hc; clear hc hmb hs hg hq hr ho hf
    go_enter Tryz.func31, Tryz.ntmps31
    go_wp2_with fail
    refine (unhide HC).mono ?_
    rintro e w1 ⟨rfl, F1, h1⟩
    have H1 := hide h1; clear h1
    go_wp2
    go_ret2
    exact ⟨F1, rfl, unhide H1⟩
  by_cases hb : n < 0 ∨ 8 < n
  · rw [if_pos hb] at hq
    refine fin hq ((gripAdd_size 3 n 8 hmb hb).mono ?_)
    rintro e w' ⟨rfl, rfl⟩
    exact ⟨rfl, _, gg_end hg ho ⟨rfl, rfl, rfl⟩ hg (Stp.refl _ _) (fun _ => hf)⟩
  · rw [if_neg hb] at hq
    exact fin hq (add_plays (fun u => objWords_table u (by omega)) rfl 8 hg hmb hl hs hd ha hu hm ho hf (by omega) (by omega) (by omega) (by omega))

/-- The handle that add has made, found. -/
theorem slotPlace_made {s : R} {K : Int} {sl' : List Slot} {j : Nat} (hl' : sl'.length = 32) (hs' : ∀ k x, sl'[k]? = some x → SlotOk (s.made3 K) k x) (hfr : s.free? = some j) (p sc : Int) : slotPlace (slotAdd sl' p sc) (32 * s.past (j : Int) + j) = (p, true) := by
  have hfr3 : (s.made3 K).free? = some j := by rw [(made3_free s _).1]; exact hfr
  have hg := (hs' j _ (slots_get hl' (free_lt hfr))).2.1
  rw [(made3_free s _).2] at hg
  exact slotPlace_new hl' (by rw [slotFree_ok hl' hs', hfr3]; rfl) (free_lt hfr) hg (by omega)
set_option maxRecDepth 100000 in
set_option maxHeartbeats 1000000 in
theorem gg_bytes {bh : Nat} {s : R} (t : ByteArray) (htm : t.size ≤ maxLen) (hd : s.dead = false) (ha : RAll s) {m : Nat} (hu : RUp m s) (hm : m ≤ 3298534883328) : PCall GG 29 bh [.string t] s (.int .i64 (s.bytesQ t).1) (s.bytesQ t).2.1 (s.bytesQ t).2.2 := by
  rintro w F ⟨fx, F0, hg, rfl, ho, hf⟩
  have hf := hf hd
  obtain ⟨sl, a, c, hmb, rfl, hl, hs⟩ := G_live hg hd
  unfold maxLen at htm
  show Calls Tryz.prog 29 #[.pointer (some ⟨bh, 0, none⟩), .string t] w _
  have hq : s.bytesQ t = if 64 < t.size then (0, 6, s) else s.make (mkBytes t) := by unfold R.bytesQ; rw [hd]; rfl
  have bad : ∀ {r : Int × Int × R}, s.bytesQ t = r → r.1 = 0 → r.2.1 ≠ 0 → (Calls Tryz.prog 75 #[.pointer (some ⟨bh, 0, none⟩), .int .i64 2, .int .i64 (t.size : Int), .int .i64 64] w fun e w' => e = .returned (.tuple #[.int .i64 0, .int .i64 r.2.1]) ∧ ∃ F', GG w' bh r.2.2 F' ∧ (∀ b ∈ F', b < w'.heap.size) ∧ Stp ((bh :: ab a) ++ ab fx.fa) w F' w') →
      Calls Tryz.prog 29 #[.pointer (some ⟨bh, 0, none⟩), .string t] w fun e w' => ∃ F', e = .returned (.tuple #[.int .i64 (s.bytesQ t).1, .int .i64 (s.bytesQ t).2.1]) ∧ GG w' bh (s.bytesQ t).2.2 F' ∧ (∀ b ∈ F', b < w'.heap.size) ∧ Stp ((bh :: ab a) ++ ab fx.fa) w F' w' := by
    intro r hr hr0 h0 hc
    rw [hr, hr0]
    obtain ⟨r1, er, r3⟩ := r
    simp only at *
    have hne : (er != 0) = true := by simp [h0]
    have HC := hide hc; clear hc hmb hs hg hq hr h0 ho hf hr0
    go_enter Tryz.func29, Tryz.ntmps29
    go_wp2_with fail
    refine (unhide HC).mono ?_
    rintro e w1 ⟨rfl, F1, h1⟩
    have H1 := hide h1; clear h1
    go_wp2
    go_ret2
    exact ⟨F1, rfl, unhide H1⟩
  by_cases hb : 64 < t.size
  · rw [if_pos hb] at hq
    refine bad hq rfl (by simp) ((gripAdd_size 2 t.size 64 hmb (by omega)).mono ?_)
    rintro e w' ⟨rfl, rfl⟩
    exact ⟨rfl, _, gg_end hg ho ⟨rfl, rfl, rfl⟩ hg (Stp.refl _ _) (fun _ => hf)⟩
  · rw [if_neg hb] at hq
    have hwo : oWords (mkBytes t) = 1 + ((t.size + 7) / 8 : Nat) := by
      unfold oWords wordsOf mkBytes
      simp
      split <;> omega
    have hK : oWords (mkBytes t) = wordsOf 2 (t.size : Int) := rfl
    cases hfr : s.free? with
    | none =>
      rw [make_none hfr] at hq
      refine bad hq rfl (by simp) ((gripAdd_full 2 t.size 64 hmb hl (by omega) (by omega) (by rw [slotFree_ok hl hs, hfr]; rfl)).mono ?_)
      rintro e w' ⟨rfl, rfl⟩
      exact ⟨rfl, _, gg_end hg ho ⟨rfl, rfl, rfl⟩ hg (Stp.refl _ _) (fun _ => hf)⟩
    | some j =>
      have hadd := gripAdd_take 2 t.size 64 hmb hl hs ha hu hm ho hf (by omega) (by omega) (by omega) (by omega) hfr
      by_cases hx : usedOf s.objs (s.made3 (oWords (mkBytes t))).row + oWords (mkBytes t) > s.limit
      · have hmk : s.make (mkBytes t) = (0, 12, { s.made3 (oWords (mkBytes t)) with dead := true }) := by rw [make_some hfr, if_pos hx]
        refine bad hq (by rw [hmk]) (by rw [hmk]; simp) (hadd.mono ?_)
        rintro e w' (⟨rfl, hno⟩ | ⟨rfl, hok⟩)
        · obtain ⟨e1, e2, h3⟩ := gg_no hK hfr hg ho hno
          rw [e2]
          exact ⟨rfl, h3⟩
        · exact absurd hx (Int.not_lt.2 hok.1)
      · have hj := free_lt hfr
        have hpast := past_le s (j : Int)
        have hhl := hu.handles
        have hrep : (wordsOf 2 (t.size : Int)).toNat - 1 = (t.size + 7) / 8 := by
          have : wordsOf 2 (t.size : Int) = oWords (mkBytes t) := rfl
          omega
        have hwf := words_fit (ha.made3 (oWords (mkBytes t)))
        have hrest : ∀ w1, AddOk fx s a w bh 2 t.size w1 → ∃ p : Nat, (Calls Tryz.prog 77 #[.pointer (some ⟨bh, 0, none⟩), .int .i64 (32 * s.past (j : Int) + j)] w1 fun e w' => e = .returned (.tuple #[.int .i64 (p : Int), .int .i64 0]) ∧ w' = w1) ∧
            (Calls Tryz.prog 78 #[.pointer (some ⟨bh, 1, none⟩), .int .i64 (p : Int), .string t] w1 fun e w' => e = .returned (.tuple #[]) ∧ (s.make (mkBytes t)).1 = 32 * s.past (j : Int) + j ∧ (s.make (mkBytes t)).2.1 = 0 ∧ ∃ F', GG w' bh (s.make (mkBytes t)).2.2 F' ∧ (∀ b ∈ F', b < w'.heap.size) ∧ Stp ((bh :: ab a) ++ ab fx.fa) w F' w') := by
          rintro w1 ⟨hx1, sl', a', c', hl', hs', st, hm'⟩
          rw [hrep] at hm'
          rw [← hK] at hx1 hs' hm'
          have hlen : (slotAdd sl' (s.made3 (oWords (mkBytes t))).words.length s.scopes).length = 32 := by simpa [slotAdd] using hl'
          refine ⟨(s.made3 (oWords (mkBytes t))).words.length, gripFind_raw _ _ hm' hlen (by omega) (slotPlace_made hl' hs' hfr _ _), (memFill_any t hm' (by omega) (by omega) rfl).mono ?_⟩
          rintro e w' ⟨rfl, h2, hc2⟩
          rw [show (2 * 65536 + (t.size : Int)) :: textWords t = objWords ((s.made3 (oWords (mkBytes t))).push (mkBytes t)) (mkBytes t) from (objWords_bytes _ (osh_bytes hb (n := 0)) rfl).symm] at h2
          exact ⟨rfl, gg_ok hfr hx1 hg ho hf (G_new hl' hs' ha hd hfr h2) (st.trans ⟨hc2.mono (fun x hx => List.mem_cons_of_mem _ hx), fun _ h => .inl h⟩)⟩
        rw [hq]
        have hnno : ∀ w', ¬ AddNo fx s a w bh 2 t.size w' := fun w' h => hx h.1
        generalize s.make (mkBytes t) = r at *
        obtain ⟨r1, er, s'⟩ := r
        simp only at *
        have hbound : 0 ≤ (32 * (s.past (j : Int) : Int) + (j : Int)) ∧ (32 * (s.past (j : Int) : Int) + (j : Int)) ≤ 72057594037927936 := by omega
        generalize (32 * (s.past (j : Int) : Int) + (j : Int) : Int) = hn at *
        have HA := hide hadd; have HR := hide hrest; have HNN := hide hnno; clear hadd hrest hmb hs hg hq bad hrep hnno ho hf hwo hx hwf hpast hhl hK
        go_enter Tryz.func29, Tryz.ntmps29
        go_wp2_with fail
        refine (unhide HA).mono ?_
        rintro e w1 (⟨rfl, hno⟩ | ⟨rfl, hok⟩)
        · exact absurd hno (unhide HNN w1)
        · obtain ⟨p, r1', r2'⟩ := unhide HR w1 hok
          have R1 := hide r1'; have R2 := hide r2'; clear r1' r2' hok
          go_wp2_with fail
          refine (unhide R1).mono ?_
          rintro e w2 ⟨rfl, rfl⟩
          go_wp2_with fail
          refine (unhide R2).mono ?_
          rintro e w3 ⟨rfl, h1, h2, h3⟩
          subst h1 h2
          have H3 := hide h3; clear h3
          go_wp2
          go_ret2
          obtain ⟨F3, h3⟩ := unhide H3
          exact ⟨F3, rfl, h3⟩
end Go.Proofs.YtfoncalkgmeklaaGreat

/- Copy and Join of the program. -/
namespace Go.Proofs.YtfoncalkgmeklaaGreat
open Go.RowKit
variable {fx : Fx}

theorem wordLeft {vs ys : List Int} {p : Nat} (h : p < vs.length) : wordAt (vs ++ ys) (p : Int) = wordAt vs (p : Int) := by
  unfold wordAt
  rw [if_pos (by omega), if_pos (by omega), Int.toNat_natCast]
  simp [List.getD, List.getElem?_append_left h]
/-- The words while an object is copied: j of them stand. -/
def copyW (vs : List Int) (hd : Int) (p m j : Nat) : List Int := vs ++ hd :: ((List.range (j - 1)).map (fun (i : Nat) => wordAt vs ((p + (i + 1) : Nat) : Int)) ++ List.replicate (m - j) 0)
theorem copyW_len (vs : List Int) (hd : Int) (p m j : Nat) (h1 : 1 ≤ j) (h2 : j ≤ m) : (copyW vs hd p m j).length = vs.length + m := by
  unfold copyW
  simp
  omega
theorem copyW_next (vs : List Int) (hd : Int) (p m j : Nat) (h1 : 1 ≤ j) (h2 : j < m) : (copyW vs hd p m j).set (vs.length + j) (wordAt vs ((p + j : Nat) : Int)) = copyW vs hd p m (j + 1) := by
  have e1 : List.replicate (m - j) (0 : Int) = 0 :: List.replicate (m - (j + 1)) 0 := by rw [show m - j = (m - (j + 1)) + 1 by omega, List.replicate_succ]
  have e2 : List.range (j + 1 - 1) = List.range (j - 1) ++ [j - 1] := by rw [show j + 1 - 1 = (j - 1) + 1 by omega, List.range_succ]
  unfold copyW
  rw [e1, e2, List.map_append, List.set_append_right _ _ (by omega), show vs.length + j - vs.length = (j - 1) + 1 by omega, List.set_cons_succ, List.set_append_right _ _ (by simp)]
  simp only [List.length_map, List.length_range, Nat.sub_self, List.set_cons_zero, List.map_cons, List.map_nil, List.append_assoc, List.cons_append, List.nil_append]
  rw [show j - 1 + 1 = j by omega]
set_option maxRecDepth 100000 in
set_option maxHeartbeats 2000000 in
theorem memCopy_any {w : World} {b : Nat} {pre : List Value} {lim : Int} {vs : List Int} {hd : Int} {post : List Value} {T : TypeId} {a : Option Addr} {c m : Nat} (p : Nat) {k n : Int} (h : MB w b pre lim (copyW vs hd p m 1) post T a c) (hmw : wordsOf k n = (m : Int)) (hm : 1 ≤ m) (hk : 1 ≤ k ∧ k ≤ 3) (h0 : 0 ≤ n) (h1 : n ≤ 64) (hl : vs.length ≤ 512) (hp : p + m ≤ vs.length) (hx : wordAt vs (p : Int) = k * 65536 + n) :
    Calls Tryz.prog 82 #[.pointer (some ⟨b, pre.length, none⟩), .int .i64 (p : Int), .int .i64 (vs.length : Int)] w fun e w' => e = .returned (.tuple #[]) ∧ MB w' b pre lim (copyW vs hd p m m) post T a c ∧ Chg (ab a) w w' := by
  have hlen := fun j h1 h2 => copyW_len vs hd p m j h1 h2
  have hsp := memSpanAt_any (p : Int) h.mem (by have := hlen 1 (by omega) hm; omega) (by rw [show copyW vs hd p m 1 = vs ++ _ from rfl, wordLeft (by omega)]; exact hx) hk h0 h1
  rw [hmw] at hsp
  have zp : (p : Int) + (m : Int) ≤ (vs.length : Int) := by omega
  have zl : (vs.length : Int) ≤ 512 := by omega
  have HSP := hide hsp; have H := hide h; have HL := hide hlen; clear hsp h hlen hx hmw
  go_enter Tryz.func82, Tryz.ntmps82
  go_wp2_with fail
  refine (unhide HSP).mono ?_
  rintro e w1 ⟨rfl, rfl⟩
  go_wp2_with fail
  go_loopw [7, 8] (fun i _ wr => ∃ (j : Nat), 1 ≤ j ∧ j ≤ m ∧ i = .int .i64 j ∧ MB wr b pre lim (copyW vs hd p m j) post T a c ∧ Chg (ab a) w1 wr) (fun i _ _ => m - (intOf i).toNat)
  case atStart => exact ⟨1, by omega, hm, rfl, unhide H, Chg.refl _ _⟩
  case round =>
    obtain ⟨j, hj1, hjm, rfl, hmb, hch⟩ := hrel
    by_cases hlt : j < m
    · have zj : (j : Int) < (m : Int) := by omega
      have hcl := unhide HL j hj1 hjm
      have hw := memWord_any ((p : Int) + (j : Int)) hmb.mem (by omega)
      rw [show wordAt (copyW vs hd p m j) ((p : Int) + (j : Int)) = wordAt vs ((p + j : Nat) : Int) from by
        rw [show (p : Int) + (j : Int) = ((p + j : Nat) : Int) by omega, show copyW vs hd p m j = vs ++ _ from rfl, wordLeft (by omega)]] at hw
      have hs := memSetWord_any (vs.length + j) (wordAt vs ((p + j : Nat) : Int)) hmb (by omega)
      rw [copyW_next vs hd p m j hj1 hlt, show ((vs.length + j : Nat) : Int) = (vs.length : Int) + (j : Int) by omega] at hs
      generalize wordAt vs ((p + j : Nat) : Int) = x at *
      have HW := hide hw; have HS := hide hs; have HCH := hide hch; clear hw hs hch hmb hcl
      generalize vs.length = vl at *
      go_wp2_with fail
      refine (unhide HW).mono ?_
      rintro e w2 ⟨rfl, rfl⟩
      go_wp2_with fail
      refine (unhide HS).mono ?_
      rintro e w3 ⟨rfl, hm3, hc3⟩
      have HM3 := hide hm3; have HC3 := hide hc3; clear hm3 hc3
      go_wp2
      go_roundw
      case rel =>
        have hr : ∃ (j' : Nat), 1 ≤ j' ∧ j' ≤ m ∧ Value.int .i64 ((j : Int) + 1) = .int .i64 j' ∧ MB w3 b pre lim (copyW vs hd p m j') post T a c ∧ Chg (ab a) w1 w3 := ⟨j + 1, by omega, by omega, by go_num, unhide HM3, (unhide HCH).trans (unhide HC3)⟩
        first | exact hr | ((repeat apply Exists.intro); exact ⟨hr, rfl⟩)
      case measure => simp [intOf]; omega
    · have hjm' : j = m := by omega
      subst hjm'
      have HMB := hide hmb; have HCH := hide hch; clear hmb hch
      go_wp2
      go_end0
      exact ⟨rfl, unhide HMB, unhide HCH⟩

/-- The words of a copy are the object's. -/
theorem copyW_obj {u : R} (ha : RAll u) {i p m : Nat} (hi : i ∈ u.row) (hp : placeOf u.objs i u.row = (p : Int)) (hm : oWords (u.objOf i) = (m : Int)) (h1 : 1 ≤ m) : copyW u.words ((u.objOf i).kind * 65536 + (u.objOf i).size) p m m = u.words ++ objWords (u.push (u.objOf i)) (u.objOf i) := by
  have hw := words_at ha hi
  rw [hm, hp, Int.toNat_natCast, show m = (m - 1) + 1 by omega, List.range_succ_eq_map, List.map_cons, List.map_map] at hw
  have hh := word_head ha hi
  rw [hp] at hh
  rw [show ((p : Int) + ((0 : Nat) : Int)) = (p : Int) by omega, hh] at hw
  have hsame : objWords (u.push (u.objOf i)) (u.objOf i) = objWords u (u.objOf i) := objWords_same fun v hv h2 => place_append (ha.row.closed i hi v hv h2) ha.ok.inv.rows
  rw [hsame, ← hw]
  unfold copyW
  rw [Nat.sub_self, List.replicate_zero, List.append_nil]
  congr 2
theorem slotPlace_other {sl : List Slot} {p sc x : Int} (h : (x % 32).toNat ≠ slotFree sl) : slotPlace (slotAdd sl p sc) x = slotPlace sl x := by
  have : (slotAdd sl p sc).getD (x % 32).toNat slot0 = sl.getD (x % 32).toNat slot0 := by
    unfold slotAdd
    simp only [List.getD, List.getElem?_set]
    rw [if_neg (fun e => h e.symm)]
  unfold slotPlace slotIs
  rw [this]
theorem made3_look (s : R) (n x : Int) : (s.made3 n).look1 x = s.look1 x ∧ (s.made3 n).find? x = s.find? x := by
  have e := made3_objs s n
  have h2 : (s.made3 n).find? x = s.find? x := by unfold R.find?; rw [e.2.1]
  refine ⟨?_, h2⟩
  rw [look1_eq, look1_eq, h2, e.2.1, e.2.2.2.2.2.1]
/-- A handle of before, found behind add. -/
theorem slotPlace_old {s : R} {K x : Int} {sl' : List Slot} {j : Nat} (ha : RAll s) (hl' : sl'.length = 32) (hs' : ∀ k x, sl'[k]? = some x → SlotOk (s.made3 K) k x) (hfr : s.free? = some j) (hd : s.dead = false) (h0 : (s.look1 x).2 = 0) (p sc : Int) :
    slotPlace (slotAdd sl' p sc) x = (placeOf s.objs (s.look1 x).1 (s.made3 K).row, true) ∧ (s.look1 x).1 ∈ (s.made3 K).row := by
  have e := made3_objs s K
  have hfr3 : (s.made3 K).free? = some j := by rw [(made3_free s _).1]; exact hfr
  have hsf : slotFree sl' = j := by rw [slotFree_ok hl' hs', hfr3]; rfl
  have hat := free_at hfr
  have hl0 := look1_eq s x
  rw [hd] at hl0
  cases hfd : s.find? x with
  | none =>
    rw [hfd] at hl0
    simp only [Bool.false_eq_true, if_false] at hl0
    rw [hl0] at h0
    simp at h0
  | some q =>
    rw [hfd] at hl0
    simp only [Bool.false_eq_true, if_false] at hl0
    have hfs := find_slot ha.ok.inv ha.num x
    rw [hfd] at hfs
    have hne : (x % 32).toNat ≠ slotFree sl' := by
      rw [hsf]
      intro e1
      split at hfs
      · rename_i hc
        rw [show x % 32 = ((j : Nat) : Int) by omega, hat] at hfs
        cases hfs
      · cases hfs
    refine ⟨?_, ?_⟩
    · rw [slotPlace_other hne, slotPlace_eq (ha.made3 K) hl' hs' x, (made3_look s K x).2, hfd]
      simp only
      rw [hl0, e.1, e.2.1]
    · have := look_row (ha.made3 K).row (x := x) (k := (0, 0)) (v := (0, 0)) (key := false) (by have := (made3_look s K x).1; unfold R.look1 at this h0; rw [this]; exact h0)
      have e2 := (made3_look s K x).1
      unfold R.look1 at e2 ⊢
      rw [e2] at this
      exact this

set_option maxRecDepth 100000 in
set_option maxHeartbeats 2000000 in
theorem gg_copy {bh : Nat} {s : R} (x : Int) (hd : s.dead = false) (ha : RAll s) {m : Nat} (hu : RUp m s) (hm : m ≤ 3298534883328) (hx : x ≤ 9223372036854775807) : PCall GG 35 bh [.int .i64 x] s (.int .i64 (s.copyQ x).1) (s.copyQ x).2.1 (s.copyQ x).2.2 := by
  rintro w F ⟨fx, F0, hg, rfl, ho, hf⟩
  have hf := hf hd
  have hfind := gripFind_any x hg hd ha hx
  have hgg : ∀ w', w' = w → GG w' bh s (F0 ++ ab fx.fa) ∧ (∀ b ∈ F0 ++ ab fx.fa, b < w'.heap.size) ∧ Stp (F0 ++ ab fx.fa) w (F0 ++ ab fx.fa) w' := fun w' e => by subst e; exact gg_end hg ho ⟨rfl, rfl, rfl⟩ hg (Stp.refl _ _) (fun _ => hf)
  obtain ⟨sl, a, c, hmb, rfl, hl, hs⟩ := G_live hg hd
  show Calls Tryz.prog 35 #[.pointer (some ⟨bh, 0, none⟩), .int .i64 x] w _
  by_cases h0 : (s.look1 x).2 = 0
  · obtain ⟨hpe, hir⟩ := look_place ha h0
    have hosh := ha.ok.osh (objOf_mem (ha.ok.inv.rows _ hir))
    have hkd := hosh.kind
    obtain ⟨b1, b2, b3, b4⟩ := head_bd hosh
    have hwf := words_fit ha
    have hkind := memKind_any (placeOf s.objs (s.look1 x).1 s.row) hmb.mem (by omega) (word_head ha hir) b1 b2
    have hsize := memSize_any (placeOf s.objs (s.look1 x).1 s.row) hmb.mem (by omega) (word_head ha hir) b1
    rw [b3] at hkind
    rw [b4] at hsize
    rw [hpe, h0] at hfind
    have hq : s.copyQ x = s.make (s.objOf (s.look1 x).1) := by unfold R.copyQ; rw [if_pos h0]
    have hob := words_bd hkd
    have hadd : Calls Tryz.prog 75 #[.pointer (some ⟨bh, 0, none⟩), .int .i64 (s.objOf (s.look1 x).1).kind, .int .i64 (s.objOf (s.look1 x).1).size, .int .i64 (s.objOf (s.look1 x).1).size] w fun e w1 =>
        (∃ er, er ≠ 0 ∧ e = .returned (.tuple #[.int .i64 0, .int .i64 er]) ∧ (s.copyQ x).1 = 0 ∧ (s.copyQ x).2.1 = er ∧ ∃ F', GG w1 bh (s.copyQ x).2.2 F' ∧ (∀ b ∈ F', b < w1.heap.size) ∧ Stp ((bh :: ab a) ++ ab fx.fa) w F' w1) ∨
        (∃ hn, e = .returned (.tuple #[.int .i64 hn, .int .i64 0]) ∧ ∃ p q : Nat, (Calls Tryz.prog 77 #[.pointer (some ⟨bh, 0, none⟩), .int .i64 x] w1 fun e w' => e = .returned (.tuple #[.int .i64 (p : Int), .int .i64 0]) ∧ w' = w1) ∧
          (Calls Tryz.prog 77 #[.pointer (some ⟨bh, 0, none⟩), .int .i64 hn] w1 fun e w' => e = .returned (.tuple #[.int .i64 (q : Int), .int .i64 0]) ∧ w' = w1) ∧
          (Calls Tryz.prog 82 #[.pointer (some ⟨bh, 1, none⟩), .int .i64 (p : Int), .int .i64 (q : Int)] w1 fun e w' => e = .returned (.tuple #[]) ∧ (s.copyQ x).1 = hn ∧ (s.copyQ x).2.1 = 0 ∧ ∃ F', GG w' bh (s.copyQ x).2.2 F' ∧ (∀ b ∈ F', b < w'.heap.size) ∧ Stp ((bh :: ab a) ++ ab fx.fa) w F' w')) := by
      rw [hq]
      cases hfr : s.free? with
      | none =>
        refine (gripAdd_full _ _ _ hmb hl hkd.2.2.1 (Int.le_refl _) (by rw [slotFree_ok hl hs, hfr]; rfl)).mono ?_
        rintro e w1 ⟨rfl, rfl⟩
        refine .inl ⟨11, by simp, rfl, ?_⟩
        rw [make_none hfr]
        exact ⟨rfl, rfl, _, hgg _ rfl⟩
      | some j =>
        refine (gripAdd_take _ _ _ hmb hl hs ha hu hm ho hf ⟨hkd.1, hkd.2.1⟩ hkd.2.2.1 (Int.le_refl _) hkd.2.2.2.1 hfr).mono ?_
        rintro e w1 (⟨rfl, hno⟩ | ⟨rfl, hok⟩)
        · exact .inl ⟨12, by simp, rfl, gg_no (o := s.objOf (s.look1 x).1) rfl hfr hg ho hno⟩
        · obtain ⟨hx1, sl', a', c', hl', hs', st, hm'⟩ := hok
          obtain ⟨f1, f2⟩ := slotPlace_old (x := x) ha hl' hs' hfr hd h0 ((s.made3 (wordsOf (s.objOf (s.look1 x).1).kind (s.objOf (s.look1 x).1).size)).words.length : Int) s.scopes
          have f3 := slotPlace_made hl' hs' hfr ((s.made3 (wordsOf (s.objOf (s.look1 x).1).kind (s.objOf (s.look1 x).1).size)).words.length : Int) s.scopes
          have hlen : (slotAdd sl' ((s.made3 (wordsOf (s.objOf (s.look1 x).1).kind (s.objOf (s.look1 x).1).size)).words.length : Int) s.scopes).length = 32 := by simpa [slotAdd] using hl'
          have hj := free_lt hfr
          have hpast := past_le s (j : Int)
          have hhl := hu.handles
          have ha3 := ha.made3 (wordsOf (s.objOf (s.look1 x).1).kind (s.objOf (s.look1 x).1).size)
          have hobj3 : (s.made3 (wordsOf (s.objOf (s.look1 x).1).kind (s.objOf (s.look1 x).1).size)).objOf (s.look1 x).1 = s.objOf (s.look1 x).1 := by unfold R.objOf; rw [(made3_dead s _).2.2.2]
          have hobjs3 := (made3_dead s (wordsOf (s.objOf (s.look1 x).1).kind (s.objOf (s.look1 x).1).size)).2.2.2
          have hpb := place_bd ha3 f2
          have hwh := word_head ha3 f2
          have hwf3 := words_fit ha3
          rw [hobj3] at hpb hwh
          obtain ⟨p, hp⟩ : ∃ p : Nat, placeOf (s.made3 (wordsOf (s.objOf (s.look1 x).1).kind (s.objOf (s.look1 x).1).size)).objs (s.look1 x).1 (s.made3 (wordsOf (s.objOf (s.look1 x).1).kind (s.objOf (s.look1 x).1).size)).row = (p : Int) := ⟨_, (Int.toNat_of_nonneg hpb.1).symm⟩
          rw [← hobjs3, hp] at f1
          rw [hp] at hpb hwh
          obtain ⟨mm, hmm⟩ : ∃ mm : Nat, oWords (s.objOf (s.look1 x).1) = (mm : Int) := ⟨(oWords (s.objOf (s.look1 x).1)).toNat, by omega⟩
          have hmw : wordsOf (s.objOf (s.look1 x).1).kind (s.objOf (s.look1 x).1).size = (mm : Int) := hmm
          have hcw := copyW_obj (m := mm) ha3 f2 hp (by rw [hobj3]; exact hmm) (by omega)
          rw [hobj3] at hcw
          have hc1 : ((s.made3 (wordsOf (s.objOf (s.look1 x).1).kind (s.objOf (s.look1 x).1).size)).words ++ ((s.objOf (s.look1 x).1).kind * 65536 + (s.objOf (s.look1 x).1).size) :: List.replicate ((wordsOf (s.objOf (s.look1 x).1).kind (s.objOf (s.look1 x).1).size).toNat - 1) 0) = copyW (s.made3 (wordsOf (s.objOf (s.look1 x).1).kind (s.objOf (s.look1 x).1).size)).words ((s.objOf (s.look1 x).1).kind * 65536 + (s.objOf (s.look1 x).1).size) p mm 1 := by
            rw [show (wordsOf (s.objOf (s.look1 x).1).kind (s.objOf (s.look1 x).1).size).toNat - 1 = mm - 1 by omega]
            simp [copyW]
          rw [hc1] at hm'
          refine .inr ⟨_, rfl, p, (s.made3 (wordsOf (s.objOf (s.look1 x).1).kind (s.objOf (s.look1 x).1).size)).words.length, gripFind_raw _ _ hm' hlen hx f1, gripFind_raw _ _ hm' hlen (by omega) f3, ?_⟩
          refine (memCopy_any p hm' hmw (by omega) ⟨hkd.1, hkd.2.1⟩ hkd.2.2.1 hkd.2.2.2.1 hwf3 (by omega) hwh).mono ?_
          rintro e w' ⟨rfl, h2, hc2⟩
          rw [hcw] at h2
          exact ⟨rfl, gg_ok (o := s.objOf (s.look1 x).1) hfr hx1 hg ho hf (G_new (o := s.objOf (s.look1 x).1) hl' hs' ha hd hfr h2) (st.trans ⟨hc2.mono (fun x hx => List.mem_cons_of_mem _ hx), fun _ h => .inl h⟩)⟩
    generalize s.copyQ x = r at *
    obtain ⟨r1, r2, s'⟩ := r
    simp only at *
    have hkz : 1 ≤ (s.objOf (s.look1 x).1).kind ∧ (s.objOf (s.look1 x).1).kind ≤ 3 := ⟨hkd.1, hkd.2.1⟩
    generalize placeOf s.objs (s.look1 x).1 s.row = pl at *
    generalize (s.objOf (s.look1 x).1).kind = kd at *
    generalize (s.objOf (s.look1 x).1).size = sz at *
    have HF := hide hfind; have HK := hide hkind; have HS := hide hsize; have HA := hide hadd; clear hfind hkind hsize hadd hmb hs hg ho hf hgg hq hpe hir hosh hkd b1 b2 b3 b4 hwf hob hkz h0 hu hx
    go_enter Tryz.func35, Tryz.ntmps35
    go_wp2_with fail
    refine (unhide HF).mono ?_
    rintro e w1 ⟨rfl, rfl⟩
    go_wp2_with fail
    refine (unhide HK).mono ?_
    rintro e w2 ⟨rfl, rfl⟩
    go_wp2_with fail
    refine (unhide HS).mono ?_
    rintro e w3 ⟨rfl, rfl⟩
    go_wp2_with fail
    refine (unhide HA).mono ?_
    rintro e w4 (⟨er, her, rfl, e1, e2, h3⟩ | ⟨hn, rfl, p, q, c1, c2, c3⟩)
    · subst e1 e2
      have hne : (r2 != 0) = true := by simp [her]
      have H3 := hide h3; clear h3 her
      go_wp2
      go_ret2
      obtain ⟨F3, h3⟩ := unhide H3
      exact ⟨F3, rfl, h3⟩
    · have C1 := hide c1; have C2 := hide c2; have C3 := hide c3; clear c1 c2 c3
      go_wp2_with fail
      refine (unhide C1).mono ?_
      rintro e w5 ⟨rfl, rfl⟩
      go_wp2_with fail
      refine (unhide C2).mono ?_
      rintro e w6 ⟨rfl, rfl⟩
      go_wp2_with fail
      refine (unhide C3).mono ?_
      rintro e w7 ⟨rfl, e1, e2, h3⟩
      subst e1 e2
      have H3 := hide h3; clear h3
      go_wp2
      go_ret2
      obtain ⟨F3, h3⟩ := unhide H3
      exact ⟨F3, rfl, h3⟩
  · have hq : s.copyQ x = (0, (s.look1 x).2, s) := by unfold R.copyQ; rw [if_neg h0]
    rw [hq]
    have hne : ((s.look1 x).2 != 0) = true := by simp [h0]
    generalize (s.look1 x).2 = er at *
    generalize s.placeE x = pe at *
    have HF := hide hfind; have HG := hide hgg; clear hfind hmb hs hg ho hf hgg hq h0
    go_enter Tryz.func35, Tryz.ntmps35
    go_wp2_with fail
    refine (unhide HF).mono ?_
    rintro e w1 ⟨rfl, rfl⟩
    go_wp2
    go_ret2
    exact ⟨_, rfl, unhide HG _ rfl⟩

/-! Join -/
theorem join_eq {s : R} (hd : s.dead = false) (x y : Int) : s.joinQ x y = if (s.look1 y).2 = 0 then (if (s.textQ x).2 = 0 then (if (s.textQ y).2 = 0 then s.bytesQ ((s.textQ x).1 ++ (s.textQ y).1) else (0, (s.textQ y).2, s)) else (0, (s.textQ x).2, s)) else (0, (s.look1 y).2, s) := by
  have h1 := look1_eq s x
  have h2 := look1_eq s y
  rw [hd] at h1 h2
  unfold R.joinQ R.two R.textQ R.bytesQ
  unfold R.look
  rw [hd, h1, h2]
  cases hx : s.find? x <;> cases hy : s.find? y <;> simp [R.badValue, R.stale, hy]
  rename_i a b
  by_cases k1 : (s.objOf (s.handles.getD a rhan0).obj).kind = 2 <;> by_cases k2 : (s.objOf (s.handles.getD b rhan0).obj).kind = 2 <;> simp_all
set_option maxRecDepth 100000 in
set_option maxHeartbeats 2000000 in
theorem gg_join {bh : Nat} {s : R} (x y : Int) (hd : s.dead = false) (ha : RAll s) {m : Nat} (hu : RUp m s) (hm : m ≤ 3298534883328) (hx : x ≤ 9223372036854775807) (hy : y ≤ 9223372036854775807) : PCall GG 33 bh [.int .i64 x, .int .i64 y] s (.int .i64 (s.joinQ x y).1) (s.joinQ x y).2.1 (s.joinQ x y).2.2 := by
  intro w F hgg
  have hlt : ∀ b ∈ F, b < w.heap.size := by
    obtain ⟨fx, F0, hg, rfl, ho, hf⟩ := hgg
    intro b hb
    rcases List.mem_append.1 hb with h1 | h1
    · exact G_lt hg b h1
    · exact own_lt ho b h1
  have hfind : Calls Tryz.prog 77 #[.pointer (some ⟨bh, 0, none⟩), .int .i64 y] w fun e w' => e = .returned (.tuple #[.int .i64 (s.placeE y), .int .i64 (s.look1 y).2]) ∧ w' = w := by
    obtain ⟨fx, F0, hg, _⟩ := hgg
    exact gripFind_any y hg hd ha hy
  have htx : ∀ z, z ≤ 9223372036854775807 → PCall GG 43 bh [.int .i64 z] s (.string (s.textQ z).1) (s.textQ z).2 s := fun z hz => lift_call (fun fx => p_text (fx := fx) z hd ha hz) rfl rfl rfl
  have hsz : ∀ z, (s.textQ z).1.size ≤ 64 := fun z => by
    unfold R.textQ
    split
    · split
      · rename_i h0 _
        exact text_fit ha.ok _ (objOf_mem (ha.ok.inv.rows _ (look_place ha h0).2))
      · simp [ByteArray.size]
    · simp [ByteArray.size]
  have hs1 := hsz x
  have hs2 := hsz y
  have h1 := htx x hx
  have h2 := htx y hy
  have h3 : ∀ t : ByteArray, t.size ≤ 128 → PCall GG 29 bh [.string t] s (.int .i64 (s.bytesQ t).1) (s.bytesQ t).2.1 (s.bytesQ t).2.2 := fun t ht => gg_bytes t (by unfold maxLen; omega) hd ha hu hm
  show Calls Tryz.prog 33 #[.pointer (some ⟨bh, 0, none⟩), .int .i64 x, .int .i64 y] w _
  rw [join_eq hd]
  have HG := hide hgg; have HLT := hide hlt; have HF := hide hfind; have H1 := hide h1; have H2 := hide h2; have H3 := hide h3; clear hgg hlt hfind htx hsz h1 h2 h3 ha hu hx hy
  generalize s.placeE y = pe at *
  by_cases h0 : (s.look1 y).2 = 0
  · rw [if_pos h0]
    rw [h0] at HF
    generalize s.textQ x = T1 at *
    generalize s.textQ y = T2 at *
    obtain ⟨t1, e1⟩ := T1
    obtain ⟨t2, e2⟩ := T2
    simp only at *
    clear h0
    have hsum : (t1 ++ t2).size ≤ 128 := by rw [ByteArray.size_append]; omega
    by_cases he1 : e1 = 0
    · rw [if_pos he1]
      subst he1
      by_cases he2 : e2 = 0
      · rw [if_pos he2]
        subst he2
        have h3 := unhide H3 (t1 ++ t2) hsum
        have h3' : Hid (∀ w F, GG w bh s F → Calls Tryz.prog 29 #[.pointer (some ⟨bh, 0, none⟩), .string (t1 ++ t2)] w fun e w' => ∃ F', e = .returned (.tuple #[.int .i64 (s.bytesQ (t1 ++ t2)).1, .int .i64 (s.bytesQ (t1 ++ t2)).2.1]) ∧ GG w' bh (s.bytesQ (t1 ++ t2)).2.2 F' ∧ (∀ b ∈ F', b < w'.heap.size) ∧ Stp F w F' w') := h3
        have h2' : Hid (∀ w F, GG w bh s F → Calls Tryz.prog 43 #[.pointer (some ⟨bh, 0, none⟩), .int .i64 y] w fun e w' => ∃ F', e = .returned (.tuple #[.string t2, .int .i64 0]) ∧ GG w' bh s F' ∧ (∀ b ∈ F', b < w'.heap.size) ∧ Stp F w F' w') := unhide H2
        have h1' : Hid (Calls Tryz.prog 43 #[.pointer (some ⟨bh, 0, none⟩), .int .i64 x] w fun e w' => ∃ F', e = .returned (.tuple #[.string t1, .int .i64 0]) ∧ GG w' bh s F' ∧ (∀ b ∈ F', b < w'.heap.size) ∧ Stp F w F' w') := unhide H1 w F (unhide HG)
        generalize s.bytesQ (t1 ++ t2) = r at *
        obtain ⟨r1, r2, s'⟩ := r
        simp only at *
        clear h3 H1 H2 H3
        go_enter Tryz.func33, Tryz.ntmps33
        go_wp2_with fail
        refine (unhide HF).mono ?_
        rintro e w1 ⟨rfl, rfl⟩
        go_wp2_with fail
        refine (unhide h1').mono ?_
        rintro e w2 ⟨F2, rfl, hg2, _, st2⟩
        have hc2 := unhide h2' w2 F2 hg2
        have HC2 := hide hc2; have ST2 := hide st2; clear hc2 hg2 st2
        go_wp2_with fail
        refine (unhide HC2).mono ?_
        rintro e w3 ⟨F3, rfl, hg3, _, st3⟩
        have hc3 := unhide h3' w3 F3 hg3
        have HC3 := hide hc3; have ST3 := hide st3; clear hc3 hg3 st3
        go_wp2_with fail
        refine (unhide HC3).mono ?_
        rintro e w4 ⟨F4, rfl, hg4, hlt4, st4⟩
        have HG4 := hide hg4; have HLT4 := hide hlt4; have ST4 := hide st4; clear hg4 hlt4 st4
        go_wp2
        go_ret2
        exact ⟨F4, rfl, unhide HG4, unhide HLT4, ((unhide ST2).trans (unhide ST3)).trans (unhide ST4)⟩
      · rw [if_neg he2]
        have h2' : Hid (∀ w F, GG w bh s F → Calls Tryz.prog 43 #[.pointer (some ⟨bh, 0, none⟩), .int .i64 y] w fun e w' => ∃ F', e = .returned (.tuple #[.string t2, .int .i64 e2]) ∧ GG w' bh s F' ∧ (∀ b ∈ F', b < w'.heap.size) ∧ Stp F w F' w') := unhide H2
        have h1' : Hid (Calls Tryz.prog 43 #[.pointer (some ⟨bh, 0, none⟩), .int .i64 x] w fun e w' => ∃ F', e = .returned (.tuple #[.string t1, .int .i64 0]) ∧ GG w' bh s F' ∧ (∀ b ∈ F', b < w'.heap.size) ∧ Stp F w F' w') := unhide H1 w F (unhide HG)
        have hne : (e2 != 0) = true := by simp [he2]
        clear H1 H2 H3 he2
        go_enter Tryz.func33, Tryz.ntmps33
        go_wp2_with fail
        refine (unhide HF).mono ?_
        rintro e w1 ⟨rfl, rfl⟩
        go_wp2_with fail
        refine (unhide h1').mono ?_
        rintro e w2 ⟨F2, rfl, hg2, _, st2⟩
        have hc2 := unhide h2' w2 F2 hg2
        have HC2 := hide hc2; have ST2 := hide st2; clear hc2 hg2 st2
        go_wp2_with fail
        refine (unhide HC2).mono ?_
        rintro e w3 ⟨F3, rfl, hg3, hlt3, st3⟩
        have HG3 := hide hg3; have HLT3 := hide hlt3; have ST3 := hide st3; clear hg3 hlt3 st3
        go_wp2
        go_ret2
        exact ⟨F3, rfl, unhide HG3, unhide HLT3, (unhide ST2).trans (unhide ST3)⟩
    · rw [if_neg he1]
      have h1' : Hid (Calls Tryz.prog 43 #[.pointer (some ⟨bh, 0, none⟩), .int .i64 x] w fun e w' => ∃ F', e = .returned (.tuple #[.string t1, .int .i64 e1]) ∧ GG w' bh s F' ∧ (∀ b ∈ F', b < w'.heap.size) ∧ Stp F w F' w') := unhide H1 w F (unhide HG)
      have hne : (e1 != 0) = true := by simp [he1]
      clear H1 H2 H3 he1
      go_enter Tryz.func33, Tryz.ntmps33
      go_wp2_with fail
      refine (unhide HF).mono ?_
      rintro e w1 ⟨rfl, rfl⟩
      go_wp2_with fail
      refine (unhide h1').mono ?_
      rintro e w2 ⟨F2, rfl, hg2, hlt2, st2⟩
      have HG2 := hide hg2; have HLT2 := hide hlt2; have ST2 := hide st2; clear hg2 hlt2 st2
      go_wp2
      go_ret2
      exact ⟨F2, rfl, unhide HG2, unhide HLT2, unhide ST2⟩
  · rw [if_neg h0]
    have hne : ((s.look1 y).2 != 0) = true := by simp [h0]
    generalize (s.look1 y).2 = er at *
    clear h0
    go_enter Tryz.func33, Tryz.ntmps33
    go_wp2_with fail
    refine (unhide HF).mono ?_
    rintro e w1 ⟨rfl, rfl⟩
    go_wp2
    go_ret2
    exact ⟨F, rfl, unhide HG, unhide HLT, Stp.refl _ _⟩
end Go.Proofs.YtfoncalkgmeklaaGreat

/- The program keeps the document's answers: New, and every step, of any limit and flags, also where memory has run out. -/
namespace Go.Proofs.YtfoncalkgmeklaaGreat
open Go.RowKit
variable {fx : Fx}

set_option maxRecDepth 100000 in
set_option maxHeartbeats 1000000 in
theorem gripNew_good (l : Int) (a : Option Addr) (n c : Nat) (fs : List Bool) (w : World) (h1 : 1 ≤ l) (h2 : l ≤ 512) (h3 : n ≤ 64) (hl : fs.length = n)
    (hsrc : 0 < n → ∃ b off, a = some ⟨b, off, none⟩ ∧ b < w.heap.size ∧ ∀ j x, fs[j]? = some x → w.cell? ⟨b, off + j, none⟩ = some (.bool x)) :
    Calls Tryz.prog 16 #[.int .i64 l, .slice a n c] w fun e w' => ∃ bh, e = .returned (.tuple #[.pointer (some ⟨bh, 0, none⟩), .int .i64 0]) ∧ ∃ fa fc, Blk w' bh (heapCells ⟨fa, fs, fc, 0⟩ false l (.slice none 0 0) (List.replicate 32 slot0) 0) 67 ∧ w'.ownsRow 0 4 1 (.slice fa n fc) n (fs.map Value.bool) ∧ (∀ x ∈ bh :: ab fa, w.heap.size ≤ x ∧ x < w'.heap.size) ∧ Chg [] w w' := by
  obtain ⟨i0, hi0, hz0, hz1, hz2⟩ := info_parts info4
  have hlt64 : (n : Int) ≤ 64 := by omega
  have Hsrc := hide hsrc; have Hl := hide hl; clear hsrc hl
  go_enter Tryz.func16, Tryz.ntmps16
  go_wp2_with (at_builtin; go_must (refine wpList_append_gen _ rfl (.tmp 18) (.tmp 19) 22 rfl 4 i0 (.bool false) 1 1 Tryz.underlying22 hi0 hz0 hz1 hz2 rfl (by decide) (.slice (some ⟨w.heap.size, 0, none⟩) 0 0) 0 [] rfl ?c0 a n c (fs.map Value.bool) rfl ?c4 ?c1 (bools_one fs) ?c2 ?c3 ?_))
  case c0 => exact World.ownsRow_lit w #[] 0 (Nat.zero_le _) (by unfold maxLen; omega) rfl
  case c4 => simpa using unhide Hl
  case c1 =>
    intro h0
    obtain ⟨b, off, e, hlt, hc⟩ := unhide Hsrc h0
    refine ⟨_, e, fun j v hj => ?_⟩
    rw [addr_add, ((Chg.refl [] w).alloc _).cell hlt (by simp)]
    exact bools_cell hc hj
  case c2 => unfold maxLen; omega
  case c3 => omega
  intro va cap w1 ho hg hnil hat
  have hc1 : Chg [] w w1 := ((Chg.refl [] w).alloc (.cells #[] 4)).grown hg (fun k hk => .inr (by simp [Value.ownBlock] at hk; omega))
  have hva : ∀ x ∈ ab va, w.heap.size ≤ x ∧ x < w1.heap.size := fun x hx => ⟨by
    rcases at_ab (w := w) (a := some ⟨w.heap.size, 0, none⟩) (n := 0) (c := 0) (Nat.le_succ _) hat x hx with h1 | h1
    · simp [ab] at h1; omega
    · exact h1, own_lt ho x hx⟩
  have HO := hide ho; have HC1 := hide hc1; have HVA := hide hva; clear ho hg hnil hat hc1 hva
  go_wp2_with (go_at_call 25; refine (memNew_any _ _).mono ?_; rintro e w' ⟨rfl, rfl⟩)
  go_ret2
  refine ⟨w1.heap.size + 1, rfl, va, cap, ?_, ?_, ?_, (((unhide HC1).alloc _).alloc _)⟩
  · have hb := Blk.new (w1.alloc (.cells #[.int .i64 l, .slice none 0 0] 59)) (heapCells ⟨va, fs, cap, 0⟩ false l (.slice none 0 0) (List.replicate 32 slot0) 0) 67
    rw [show (w1.alloc (.cells #[.int .i64 l, .slice none 0 0] 59)).heap.size = w1.heap.size + 1 from by simp] at hb
    rw [newCells l]
    have e : heapCells ⟨va, fs, cap, 0⟩ false l (.slice none 0 0) (List.replicate 32 slot0) 0 = .bool false :: .int .i64 l :: .slice none 0 0 :: (slotCells (List.replicate 32 slot0) ++ [.int .i64 0, .slice va n cap, .int .i64 0]) := by
      simp [heapCells, holdCells, Fx.cells, unhide Hl]
    rw [e] at hb ⊢
    exact hb
  · exact owns_chg (unhide HO) (((Chg.refl [] w1).alloc _).alloc _) (by simp)
  · intro x hx
    have hsz := (unhide HC1).size
    rcases List.mem_cons.1 hx with rfl | hx
    · constructor
      · omega
      · simp
    · have := unhide HVA x hx
      refine ⟨this.1, ?_⟩
      simp
      omega
theorem init_slot {l : Int} {fs : List Bool} {k : Nat} {x : Slot} (h : (List.replicate 32 slot0)[k]? = some x) : SlotOk (R.init l fs) k x := by
  have : x = slot0 := by
    rw [List.getElem?_replicate] at h
    split at h
    · exact (Option.some.inj h).symm
    · cases h
  subst this
  exact ⟨rfl, rfl, fun a ha => by simp [R.at?, R.init] at ha⟩
theorem new_GG (l : Int) (a : Option Addr) (n c : Nat) (fs : List Bool) (w : World) (h1 : 1 ≤ l) (h2 : l ≤ 512) (h3 : n ≤ 64) (hl : fs.length = n)
    (hsrc : 0 < n → ∃ b off, a = some ⟨b, off, none⟩ ∧ b < w.heap.size ∧ ∀ j x, fs[j]? = some x → w.cell? ⟨b, off + j, none⟩ = some (.bool x)) :
    Calls Tryz.prog 16 #[.int .i64 l, .slice a n c] w fun e w' => ∃ bh F, e = .returned (.tuple #[.pointer (some ⟨bh, 0, none⟩), .int .i64 0]) ∧ GG w' bh (R.init l fs) F ∧ (∀ x ∈ F, w.heap.size ≤ x ∧ x < w'.heap.size) ∧ Chg [] w w' := by
  refine (gripNew_good l a n c fs w h1 h2 h3 hl hsrc).mono ?_
  rintro e w' ⟨bh, rfl, fa, fc, hb, ho, hx, hc⟩
  subst hl
  refine ⟨bh, [bh] ++ ab fa, rfl, ⟨⟨fa, fs, fc, 0⟩, [bh], ⟨List.replicate 32 slot0, none, 0, [], l, 0, ⟨?_, World.ownsRow_nil _ _ _ _, by decide⟩, rfl, by simp, fun _ => ⟨rfl, rfl, rfl, fun k x hk => init_slot hk⟩⟩, rfl, ho, fun _ => ⟨rfl, ?_⟩⟩, fun x hxx => hx x (by simpa using hxx), hc⟩
  · simpa [heapCells, R.init] using hb
  · show 0 = R.nxOf (R.init l fs)
    unfold R.nxOf
    split <;> simp [R.init]
theorem pnew_GG : PNew GG := by
  intro l b n c fs w h1 h2 h3 hl hc hb
  exact new_GG l _ n c fs w h1 h2 h3 hl (fun _ => ⟨b, 0, rfl, hb, fun j x hj => by rw [Nat.zero_add]; exact hc j x hj⟩)
theorem pnewbad_GG : PNewBad := by
  intro l b n c w h
  refine (gripNew_bad l _ n c w h).mono ?_
  rintro e w' ⟨rfl, rfl⟩
  exact ⟨rfl, Chg.refl _ _⟩

/-! Where memory has run out -/
theorem look1_dead {s : R} (hd : s.dead = true) (x : Int) : s.look1 x = (0, 2) := by rw [look1_eq, hd]; rfl
theorem look_dead {s : R} (hd : s.dead = true) (x : Int) (k v : Int × Int) (key : Bool) : s.look x k v key = (0, 2) := by unfold R.look; rw [hd]; rfl
theorem dead_call {f : FuncId} {bh : Nat} {rest : List Value} {s s' : R} {v : Value} {er : Int} (hd : s.dead = true) (hs : s' = s) (he : er = 2) (h : ∀ w, w.cell? ⟨bh, 0, none⟩ = some (.bool true) → Calls Tryz.prog f ((Value.pointer (some ⟨bh, 0, none⟩) :: rest).toArray) w fun e w' => e = .returned (.tuple #[v, .int .i64 2]) ∧ Chg [] w w') : PCall GG f bh rest s v er s' := by
  subst hs he
  exact lift_call (fun fx => pcall_quiet fun w F hg => h w (G_dead hg hd)) rfl rfl rfl
theorem dead_call0 {f : FuncId} {bh : Nat} {rest : List Value} {s s' : R} {v : Value} {er : Int} (hd : s.dead = true) (hs : s' = s) (he : er = 2) (h : ∀ w, w.cell? ⟨bh, 0, none⟩ = some (.bool true) → Calls Tryz.prog f ((Value.pointer (some ⟨bh, 0, none⟩) :: rest).toArray) w fun e w' => e = .returned (.tuple #[v, .int .i64 2]) ∧ w' = w) : PCall GG f bh rest s v er s' :=
  dead_call hd hs he fun w hc => (h w hc).mono fun _ _ ⟨e, e'⟩ => ⟨e, by subst e'; exact Chg.refl _ _⟩
theorem dead_call1 {f : FuncId} {bh : Nat} {rest : List Value} {s s' : R} {er : Int} (hd : s.dead = true) (hs : s' = s) (he : er = 2) (h : ∀ w, w.cell? ⟨bh, 0, none⟩ = some (.bool true) → Calls Tryz.prog f ((Value.pointer (some ⟨bh, 0, none⟩) :: rest).toArray) w fun e w' => e = .returned (.int .i64 2) ∧ Chg [] w w') : PCall1 GG f bh rest s er s' := by
  subst hs he
  exact lift_call1 (fun fx => pcall1_quiet fun w F hg => h w (G_dead hg hd)) rfl rfl rfl
theorem dead_call10 {f : FuncId} {bh : Nat} {rest : List Value} {s s' : R} {er : Int} (hd : s.dead = true) (hs : s' = s) (he : er = 2) (h : ∀ w, w.cell? ⟨bh, 0, none⟩ = some (.bool true) → Calls Tryz.prog f ((Value.pointer (some ⟨bh, 0, none⟩) :: rest).toArray) w fun e w' => e = .returned (.int .i64 2) ∧ w' = w) : PCall1 GG f bh rest s er s' :=
  dead_call1 hd hs he fun w hc => (h w hc).mono fun _ _ ⟨e, e'⟩ => ⟨e, by subst e'; exact Chg.refl _ _⟩
theorem dead_words {bh : Nat} {s : R} (hd : s.dead = true) : PWords GG bh s := by
  refine lift_words fun fx w F hg => ?_
  refine (d_words (G_dead hg hd)).mono ?_
  rintro e w' ⟨rfl, rfl⟩
  refine ⟨none, 0, 0, ?_, ?_⟩
  · unfold R.wordsE; rw [if_pos hd]
  · unfold R.wordsQ
    rw [if_pos hd]
    exact ⟨World.ownsRow_nil _ _ _ _, by simp [ab], Chg.refl _ _⟩
set_option maxHeartbeats 1000000 in
theorem d_find2 {w : World} {bh : Nat} (x : Int) (k : Int × Int) (c0 : w.cell? ⟨bh, 0, none⟩ = some (.bool true)) : Calls Tryz.prog 50 #[.pointer (some ⟨bh, 0, none⟩), .int .i64 x, .agg #[.int .i64 k.1, .int .i64 k.2]] w fun e w' => e = .returned (.tuple #[.agg #[.int .i64 0, .int .i64 0], .int .i64 2]) ∧ Chg [] w w' := by
  have hc0 : Chg [] w ((w.alloc (.cells #[.int .i64 k.1, .int .i64 k.2] 33)).alloc (.cells #[.int .i64 0, .int .i64 0] 33)) := ((Chg.refl [] w).alloc _).alloc _
  have hbr : Blk ((w.alloc (.cells #[.int .i64 k.1, .int .i64 k.2] 33)).alloc (.cells #[.int .i64 0, .int .i64 0] 33)) (w.heap.size + 1) [.int .i64 0, .int .i64 0] 33 := by
    have := Blk.new (w.alloc (.cells #[.int .i64 k.1, .int .i64 k.2] 33)) [.int .i64 0, .int .i64 0] 33
    rw [size_alloc] at this
    exact this
  have hft := d_findTable x k (cell_chgS hc0 c0 (by simp))
  have HF := hide hft; have HC0 := hide hc0; have HBR := hide hbr; clear hft hc0 hbr c0
  go_enter Tryz.func50, Tryz.ntmps50
  go_wp2_with fail
  refine (unhide HF).mono ?_
  rintro e w1 ⟨rfl, hc1⟩
  have hbr1 := ((unhide HBR).chg hc1 (by simp)).alloc (.cells #[.int .i64 0, .int .i64 0] 121)
  have hch1 := ((unhide HC0).trans hc1).alloc (.cells #[.int .i64 0, .int .i64 0] 121)
  have q0 := hbr1.cell_of (i := 0) rfl
  have q1 := hbr1.cell_of (i := 1) rfl
  have f0 := hbr1.frozen 0
  have f1 := hbr1.frozen 1
  have hb4 := (hbr1.setCell 0 (.int .i64 0)).setCell 1 (.int .i64 0)
  have r0 := hb4.cell_of (i := 0) (v := .int .i64 0) rfl
  have r1 := hb4.cell_of (i := 1) (v := .int .i64 0) rfl
  have hch4 := Chg.trans_new (S' := [w.heap.size + 1]) hch1 (((Chg.refl _ _).setCell (p := ⟨w.heap.size + 1, 0, none⟩) (.inl (by simp)) (.int .i64 0)).setCell (p := ⟨w.heap.size + 1, 1, none⟩) (.inl (by simp)) (.int .i64 0)) (fun x hx => by simp at hx; right; omega)
  have R0 := hide r0; have R1 := hide r1; have HCH4 := hide hch4; clear hb4 r0 r1 hch4 hbr1 hch1 hc1
  go_wp2
  have r0 := unhide R0
  have r1 := unhide R1
  exact bodyPost_ret (v := .tuple #[.agg #[.int .i64 0, .int .i64 0], .int .i64 2]) (by simp [results, Tryz.results50, go_sem, r0, r1]) rfl ⟨rfl, unhide HCH4⟩
set_option maxHeartbeats 1000000 in
theorem d_cut {w : World} {bh : Nat} (x : Int) (k : Int × Int) (c0 : w.cell? ⟨bh, 0, none⟩ = some (.bool true)) : Calls Tryz.prog 58 #[.pointer (some ⟨bh, 0, none⟩), .int .i64 x, .agg #[.int .i64 k.1, .int .i64 k.2]] w fun e w' => e = .returned (.int .i64 2) ∧ Chg [] w w' := by
  have hc0 : Chg [] w (w.alloc (.cells #[.int .i64 k.1, .int .i64 k.2] 33)) := (Chg.refl [] w).alloc _
  have hft := d_findTable x k (cell_chgS hc0 c0 (by simp))
  have HF := hide hft; have HC0 := hide hc0; clear hft hc0 c0
  go_enter Tryz.func58, Tryz.ntmps58
  go_wp2_with fail
  refine (unhide HF).mono ?_
  rintro e w1 ⟨rfl, hc1⟩
  have HC1 := hide hc1; clear hc1
  go_wp2
  go_ret
  exact ⟨rfl, (((unhide HC0).trans (unhide HC1)).alloc _)⟩
/-! The flags and their number stay, but by what is made -/
theorem outer_fm (s : R) (v : Int × Int) : (s.outer v).2.2.flags = s.flags ∧ (s.outer v).2.2.made = s.made ∧ (s.outer v).2.2.dead = s.dead := by
  unfold R.outer
  repeat' split
  all_goals first | exact ⟨rfl, rfl, rfl⟩ | exact handle_fm _ _ _
theorem get_fm (s : R) (x i : Int) : (s.getQ x i).2.2.flags = s.flags ∧ (s.getQ x i).2.2.made = s.made ∧ (s.getQ x i).2.2.dead = s.dead := by
  unfold R.getQ
  repeat' split
  all_goals first | exact ⟨rfl, rfl, rfl⟩ | exact outer_fm _ _ | exact handle_fm _ _ _
theorem find_fm (s : R) (x : Int) (k : Int × Int) : (s.findQ x k).2.2.flags = s.flags ∧ (s.findQ x k).2.2.made = s.made ∧ (s.findQ x k).2.2.dead = s.dead := by
  unfold R.findQ
  repeat' split
  all_goals first | exact ⟨rfl, rfl, rfl⟩ | exact outer_fm _ _ | exact handle_fm _ _ _
theorem key_fm (s : R) (x i : Int) : (s.keyQ x i).2.2.flags = s.flags ∧ (s.keyQ x i).2.2.made = s.made ∧ (s.keyQ x i).2.2.dead = s.dead := by
  unfold R.keyQ
  repeat' split
  all_goals first | exact ⟨rfl, rfl, rfl⟩ | exact outer_fm _ _ | exact handle_fm _ _ _
theorem set_fm (s : R) (x i : Int) (v : Int × Int) : (s.setQ x i v).2.flags = s.flags ∧ (s.setQ x i v).2.made = s.made ∧ (s.setQ x i v).2.dead = s.dead := by
  unfold R.setQ
  repeat' split
  all_goals first | exact ⟨rfl, rfl, rfl⟩ | exact outer_fm _ _ | exact handle_fm _ _ _
theorem put_fm (s : R) (x : Int) (k v : Int × Int) : (s.putQ x k v).2.flags = s.flags ∧ (s.putQ x k v).2.made = s.made ∧ (s.putQ x k v).2.dead = s.dead := by
  unfold R.putQ
  repeat' split
  all_goals first | exact ⟨rfl, rfl, rfl⟩ | exact outer_fm _ _ | exact handle_fm _ _ _
theorem cut_fm (s : R) (x : Int) (k : Int × Int) : (s.cutQ x k).2.flags = s.flags ∧ (s.cutQ x k).2.made = s.made ∧ (s.cutQ x k).2.dead = s.dead := by
  unfold R.cutQ
  repeat' split
  all_goals first | exact ⟨rfl, rfl, rfl⟩ | exact outer_fm _ _ | exact handle_fm _ _ _
theorem open_fm (s : R)  : (s.openQ).2.2.flags = s.flags ∧ (s.openQ).2.2.made = s.made ∧ (s.openQ).2.2.dead = s.dead := by
  unfold R.openQ
  repeat' split
  all_goals first | exact ⟨rfl, rfl, rfl⟩ | exact outer_fm _ _ | exact handle_fm _ _ _
theorem close_fm (s : R) (n : Int) : (s.closeQ n).2.flags = s.flags ∧ (s.closeQ n).2.made = s.made ∧ (s.closeQ n).2.dead = s.dead := by
  unfold R.closeQ
  repeat' split
  all_goals first | exact ⟨rfl, rfl, rfl⟩ | exact outer_fm _ _ | exact handle_fm _ _ _
theorem escape_fm (s : R) (x : Int) : (s.escapeQ x).2.2.flags = s.flags ∧ (s.escapeQ x).2.2.made = s.made ∧ (s.escapeQ x).2.2.dead = s.dead := by
  unfold R.escapeQ
  repeat' split
  all_goals first | exact ⟨rfl, rfl, rfl⟩ | exact outer_fm _ _ | exact handle_fm _ _ _
theorem keep_fm (s : R) (x : Int) : (s.keepQ x).2.2.flags = s.flags ∧ (s.keepQ x).2.2.made = s.made ∧ (s.keepQ x).2.2.dead = s.dead := by
  unfold R.keepQ
  repeat' split
  all_goals first | exact ⟨rfl, rfl, rfl⟩ | exact outer_fm _ _ | exact handle_fm _ _ _
theorem release_fm (s : R) (x : Int) : (s.releaseQ x).2.flags = s.flags ∧ (s.releaseQ x).2.made = s.made ∧ (s.releaseQ x).2.dead = s.dead := by
  unfold R.releaseQ
  repeat' split
  all_goals first | exact ⟨rfl, rfl, rfl⟩ | exact outer_fm _ _ | exact handle_fm _ _ _
theorem collect_fm (s : R)  : (s.collectQ).2.flags = s.flags ∧ (s.collectQ).2.made = s.made ∧ (s.collectQ).2.dead = s.dead := by
  unfold R.collectQ
  repeat' split
  all_goals first | exact ⟨rfl, rfl, rfl⟩ | exact outer_fm _ _ | exact handle_fm _ _ _

/-! Every call -/
theorem pstep_GG {bh : Nat} {s : R} {m : Nat} {o : LOp} (ho : o.Ok) (ha : RAll s) (hu : RUp m s) (hm : m ≤ 3298534883328) : PStep GG bh s o := by
  have hx := ho.x.2
  have hy := ho.y.2
  have hk := ho.k.2.2
  have hv := ho.v.2.2
  cases hd : s.dead with
  | true =>
    have hl1 := fun z => look1_dead hd z
    constructor
    · intro _
      have e : s.arrayQ o.x = (0, 2, s) := by unfold R.arrayQ; rw [if_pos hd]
      rw [e]; exact dead_call0 hd rfl rfl fun w c => d_array o.x c
    · intro _
      have e : s.bytesQ o.s = (0, 2, s) := by unfold R.bytesQ; rw [if_pos hd]
      rw [e]; exact dead_call0 hd rfl rfl fun w c => d_bytes o.s c
    · intro _
      have e : s.tableQ o.x = (0, 2, s) := by unfold R.tableQ; rw [if_pos hd]
      rw [e]; exact dead_call0 hd rfl rfl fun w c => d_table o.x c
    · intro _
      have e : s.joinQ o.x o.y = (0, 2, s) := by unfold R.joinQ R.two; rw [look_dead hd]; simp
      rw [e]; exact dead_call0 hd rfl rfl fun w c => d_join o.x o.y c
    · intro _
      have e : s.copyQ o.x = (0, 2, s) := by unfold R.copyQ; rw [hl1]; simp
      rw [e]; exact dead_call0 hd rfl rfl fun w c => d_copy o.x c
    · intro _
      have e : s.kindQ o.x = (0, 2) := by unfold R.kindQ; rw [hl1]; simp
      rw [e]; exact dead_call0 hd rfl rfl fun w c => d_kind o.x c
    · intro _
      have e : s.lenQ o.x = (0, 2) := by unfold R.lenQ; rw [hl1]; simp
      rw [e]; exact dead_call0 hd rfl rfl fun w c => d_len o.x c
    · intro _
      have e : s.textQ o.x = (⟨#[]⟩, 2) := by unfold R.textQ; rw [hl1]; simp
      rw [e]; exact dead_call0 hd rfl rfl fun w c => d_text o.x c
    · intro _
      have e : s.placeQ o.x = (0, 2) := by unfold R.placeQ; rw [hl1]; simp
      rw [e]; exact dead_call0 hd rfl rfl fun w c => d_place o.x c
    · intro _
      have e : s.sameQ o.x o.y = (false, 2) := by unfold R.sameQ R.two; rw [look_dead hd]; simp
      rw [e]; exact dead_call0 hd rfl rfl fun w c => d_same o.x o.y c
    · intro _
      have e : s.getQ o.x o.y = ((0, 0), 2, s) := by unfold R.getQ R.element; rw [look_dead hd]; simp
      rw [e]; exact dead_call hd rfl rfl fun w c => d_get o.x o.y c
    · intro _
      have e : s.findQ o.x o.k = ((0, 0), 2, s) := by unfold R.findQ R.table; rw [look_dead hd]; simp
      rw [e]; exact dead_call hd rfl rfl fun w c => d_find2 o.x o.k c
    · intro _
      have e : s.keyQ o.x o.y = ((0, 0), 2, s) := by unfold R.keyQ; rw [hl1]; simp
      rw [e]; exact dead_call hd rfl rfl fun w c => d_key o.x o.y c
    · intro _
      have e : s.setQ o.x o.y o.v = (2, s) := by unfold R.setQ R.element; rw [look_dead hd]; simp
      rw [e]; exact dead_call1 hd rfl rfl fun w c => d_set o.x o.y o.v c
    · intro _
      have e : s.putQ o.x o.k o.v = (2, s) := by unfold R.putQ R.table; rw [look_dead hd]; simp
      rw [e]; exact dead_call1 hd rfl rfl fun w c => d_put o.x o.k o.v c
    · intro _
      have e : s.cutQ o.x o.k = (2, s) := by unfold R.cutQ R.table; rw [look_dead hd]; simp
      rw [e]; exact dead_call1 hd rfl rfl fun w c => d_cut o.x o.k c
    · intro _
      have e : s.openQ = (0, 2, s) := by unfold R.openQ; rw [if_pos hd]
      rw [e]; exact dead_call0 hd rfl rfl fun w c => d_open c
    · intro _
      have e : s.closeQ o.x = (2, s) := by unfold R.closeQ; rw [if_pos hd]
      rw [e]; exact dead_call10 hd rfl rfl fun w c => d_close o.x c
    · intro _
      have e : s.escapeQ o.x = (0, 2, s) := by unfold R.escapeQ; rw [hl1]; simp
      rw [e]; exact dead_call0 hd rfl rfl fun w c => d_escape o.x c
    · intro _
      have e : s.keepQ o.x = (0, 2, s) := by unfold R.keepQ; rw [hl1]; simp
      rw [e]; exact dead_call0 hd rfl rfl fun w c => d_keep o.x c
    · intro _
      have e : s.releaseQ o.x = (2, s) := by unfold R.releaseQ; rw [hl1]; simp
      rw [e]; exact dead_call10 hd rfl rfl fun w c => d_release o.x c
    · intro _
      have e : s.collectQ = (2, s) := by unfold R.collectQ; rw [if_pos hd]
      rw [e]; exact dead_call10 hd rfl rfl fun w c => d_collect c
    · intro _
      exact dead_words hd
  | false =>
    constructor
    all_goals intro _
    · exact gg_array _ hd ha hu hm
    · exact gg_bytes _ ho.s hd ha hu hm
    · exact gg_table _ hd ha hu hm
    · exact gg_join _ _ hd ha hu hm hx hy
    · exact gg_copy _ hd ha hu hm hx
    · exact lift_call (fun fx => p_kind (fx := fx) _ hd ha hx) rfl rfl rfl
    · exact lift_call (fun fx => p_len (fx := fx) _ hd ha hx) rfl rfl rfl
    · exact lift_call (fun fx => p_text (fx := fx) _ hd ha hx) rfl rfl rfl
    · exact lift_call (fun fx => p_place (fx := fx) _ hd ha hx) rfl rfl rfl
    · exact lift_call (fun fx => p_same (fx := fx) _ _ hd ha hx hy) rfl rfl rfl
    · exact lift_call (fun fx => p_get (fx := fx) _ _ hd ha hu hm hx) (get_fm _ _ _).1 (get_fm _ _ _).2.1 (get_fm _ _ _).2.2
    · exact lift_call (fun fx => p_find (fx := fx) _ _ hd ha hu hm hx hk) (find_fm _ _ _).1 (find_fm _ _ _).2.1 (find_fm _ _ _).2.2
    · exact lift_call (fun fx => p_key (fx := fx) _ _ hd ha hu hm hx) (key_fm _ _ _).1 (key_fm _ _ _).2.1 (key_fm _ _ _).2.2
    · exact lift_call1 (fun fx => p_set (fx := fx) _ _ _ hd ha hx hv) (set_fm _ _ _ _).1 (set_fm _ _ _ _).2.1 (set_fm _ _ _ _).2.2
    · exact lift_call1 (fun fx => p_put (fx := fx) _ _ _ hd ha hx hk hv) (put_fm _ _ _ _).1 (put_fm _ _ _ _).2.1 (put_fm _ _ _ _).2.2
    · exact lift_call1 (fun fx => p_cut (fx := fx) _ _ hd ha hx hk) (cut_fm _ _ _).1 (cut_fm _ _ _).2.1 (cut_fm _ _ _).2.2
    · exact lift_call (fun fx => p_open (fx := fx) hd ha) (open_fm _).1 (open_fm _).2.1 (open_fm _).2.2
    · exact lift_call1 (fun fx => p_close (fx := fx) _ hd ha) (close_fm _ _).1 (close_fm _ _).2.1 (close_fm _ _).2.2
    · exact lift_call (fun fx => p_escape (fx := fx) _ hd ha hu hm hx) (escape_fm _ _).1 (escape_fm _ _).2.1 (escape_fm _ _).2.2
    · exact lift_call (fun fx => p_keep (fx := fx) _ hd ha hu hm hx) (keep_fm _ _).1 (keep_fm _ _).2.1 (keep_fm _ _).2.2
    · exact lift_call1 (fun fx => p_release (fx := fx) _ hd ha hx) (release_fm _ _).1 (release_fm _ _).2.1 (release_fm _ _).2.2
    · exact lift_call1 (fun fx => p_collect (fx := fx) hd ha) (collect_fm _).1 (collect_fm _).2.1 (collect_fm _).2.2
    · exact lift_words (fun fx => p_words (fx := fx) hd ha)
theorem pend_GG {bh : Nat} {s : R} (ha : RAll s) {m : Nat} (hu : RUp m s) (hm : m ≤ 3298534883328) : PEnd GG bh s := by
  have hok : ∀ x : Int, 0 ≤ x → x ≤ 9223372036854775807 → ∀ k : Int, 1 ≤ k → k ≤ 23 → LOp.Ok ⟨k, x, 0, (0, 0), (0, 0), ⟨#[]⟩⟩ := fun x h0 h1 k k0 k1 => ⟨⟨by simp; omega, by simp; omega⟩, ⟨by simp; omega, by simp; omega⟩, ⟨by simp, by simp⟩, ⟨⟨by simp, by simp⟩, ⟨by simp, by simp⟩⟩, ⟨⟨by simp, by simp⟩, ⟨by simp, by simp⟩⟩, Nat.zero_le _⟩
  have hb : ∀ h ∈ s.handles, 0 ≤ h.num ∧ h.num ≤ 9223372036854775807 := fun h hh => by
    have := ha.ok.inv.nums h hh
    have := hu.handles
    omega
  exact ⟨fun h hh => (pstep_GG (hok h.num (hb h hh).1 (hb h hh).2 4 (by omega) (by omega)) ha hu hm).kind rfl, fun h hh => (pstep_GG (hok h.num (hb h hh).1 (hb h hh).2 7 (by omega) (by omega)) ha hu hm).place rfl, (pstep_GG (hok 0 (by omega) (by omega) 8 (by omega) (by omega)) ha hu hm).words rfl⟩
end Go.Proofs.YtfoncalkgmeklaaGreat

import Derived.Test.YtfoncalkgmeklaaGreatYwM29
import Derived.Test.YtfoncalkgmeklaaGreatYwM25

/- The collection of the program: what an object holds is moved. -/
namespace Go.Proofs.YtfoncalkgmeklaaGreat
open Go.RowKit

theorem words_at {s : R} (ha : RAll s) {y : Nat} (hy : y ∈ s.row) : (List.range (oWords (s.objOf y)).toNat).map (fun (i : Nat) => wordAt s.words (placeOf s.objs y s.row + (i : Int))) = objWords s (s.objOf y) := by
  have hx := objWords_size s (ha.ok.osh (objOf_mem (ha.ok.inv.rows y hy)))
  refine List.ext_getElem (by simp; omega) fun j h1 h2 => ?_
  simp only [List.getElem_map, List.getElem_range]
  rw [word_obj ha hy (by omega)]
  simp [List.getD, h2]
theorem len_used {s : R} (h : ROk s) : ∀ {l : List Nat}, (∀ x ∈ l, x < s.objs.length) → (l.length : Int) ≤ usedOf s.objs l
  | [], _ => by simp [usedOf]
  | x :: r, hl => by
    have ih := len_used h (l := r) (fun y hy => hl y (List.mem_cons_of_mem _ hy))
    have hx := (words_bd (h.osh (objOf_mem (hl x List.mem_cons_self))).kind).1
    have e0 : oWords (s.objs.getD x robj0) = oWords (s.objOf x) := rfl
    simp only [usedOf, List.length_cons]
    omega
theorem pre_lt {s : R} (h : RAll s) {row : List Nat} (hp : row <+: s.reach) : ∀ x ∈ row, x < s.objs.length := fun x hx => (Good.reach h.ok.inv).lt x (hp.subset hx)
theorem pre_bd {s : R} (h : RAll s) {row : List Nat} (hp : row <+: s.reach) : usedOf s.objs row ≤ 512 ∧ row.length ≤ 512 := by
  have h1 := used_pre h.ok.inv hp
  have h2 := reach_used h.ok.inv h.row
  have h3 := h.row.fits
  have h4 := h.ok.inv.limit
  have h5 := len_used h.ok (pre_lt h hp)
  omega
theorem reach_row {s : R} (h : RAll s) {x : Nat} (hx : x ∈ s.reach) : x ∈ s.row := reach_sub h.row _ x hx
theorem newAt_bd {s : R} (h : RAll s) {y : Nat} (hy : y ∈ s.reach) : 0 ≤ s.newAt y ∧ s.newAt y + oWords (s.objOf y) ≤ 512 := by
  have := place_bd (gone_ok h) (i := y) hy
  exact ⟨this.1, this.2.1⟩
theorem place_at {objs : List RObj} {x : Nat} : ∀ {row : List Nat} {i : Nat}, row.Nodup → row[i]? = some x → placeOf objs x row = usedOf objs (row.take i)
  | [], i, _, h => by simp at h
  | z :: r, 0, _, h => by simp at h; subst h; simp [placeOf, usedOf]
  | z :: r, i + 1, hn, h => by
    have h' : r[i]? = some x := by simpa using h
    have hz : z ≠ x := fun e => (List.nodup_cons.1 hn).1 (e ▸ List.mem_of_getElem? h')
    simp only [placeOf, List.take_succ_cons, usedOf]
    rw [if_neg hz, place_at (List.nodup_cons.1 hn).2 h']
theorem set_same {l : List Int} {i : Nat} {x : Int} (h : l.getD i 0 = x) (hi : i < l.length) : l.set i x = l := by
  have : l[i] = x := by simpa [List.getD, hi] using h
  rw [← this]
  exact List.set_getElem_self hi

section
variable {P : List Nat} {wp w0 w : World} {bc bh : Nat} {fw mv od : List Int} {a ma oa : Option Addr} {c mc oc : Nat} {s : R}
theorem move_play (ha : RAll s) {row : List Nat} {y : Nat} (h : CW P wp w0 w bc bh fw mv od a ma oa c mc oc) (hm : MemAt w0 bh 1 s.words) (hp : CP s row mv od) (hf : (fw.length : Int) = usedOf s.objs row) (hy : y ∈ s.row) (hpre : metOf row y <+: s.reach) :
    Calls Tryz.prog 143 #[.pointer (some ⟨bc, 0, none⟩), .int .i64 (placeOf s.objs y s.row)] w fun e w' => e = .returned (.int .i64 (s.newAt y)) ∧ ∃ mv' od' a' oa' c' oc', CW P wp w0 w' bc bh (fw ++ if y ∈ row then [] else objWords s (s.objOf y)) mv' od' a' ma oa' c' mc oc' ∧ CP s (metOf row y) mv' od' := by
  have hyr : y ∈ s.reach := hpre.subset (mem_met.2 (.inr rfl))
  have hnb := newAt_bd ha hyr
  have hpb := place_bd ha hy
  have hosh := ha.ok.osh (objOf_mem (ha.ok.inv.rows y hy))
  have hob := words_bd hosh.kind
  have hwf := words_fit ha
  have hbd := pre_bd ha hp.pre
  have hmvl := hp.len
  have hmv := hp.moved y hy
  have hodl : od.length = row.length := by rw [hp.order]; simp
  obtain ⟨p, hpp⟩ : ∃ p : Nat, placeOf s.objs y s.row = (p : Int) := ⟨_, (Int.toNat_of_nonneg hpb.1).symm⟩
  have hhead := word_head ha hy
  rw [hpp] at hmv hhead hpb ⊢
  rw [Int.toNat_natCast] at hmv
  by_cases hr : y ∈ row
  · rw [if_pos hr] at hmv
    rw [if_pos hr, List.append_nil, show metOf row y = row from by unfold metOf; rw [if_pos hr]]
    refine (move_old h p (by omega) hmv hnb.1 (by omega)).mono ?_
    rintro e w' ⟨rfl, rfl⟩
    exact ⟨rfl, mv, od, a, oa, c, oc, h, hp⟩
  · rw [if_neg hr] at hmv
    have hme : metOf row y = row ++ [y] := by unfold metOf; rw [if_neg hr]
    rw [hme] at hpre ⊢
    rw [if_neg hr, newAt_next hpre hr]
    have hk := hosh.kind
    refine (move_new h hm (by omega) p (by omega) hmv hhead ⟨hk.1, hk.2.1⟩ hk.2.2.1 hk.2.2.2.1 (by omega) (by omega) (by omega)).mono ?_
    rintro e w' ⟨rfl, a', oa', c', oc', hcw⟩
    have hwa := words_at ha hy
    have hnx := CP.next ha hp hy hr hpre
    rw [hpp] at hwa hnx
    rw [Int.toNat_natCast] at hnx
    rw [← hf] at hnx ⊢
    exact ⟨rfl, _, _, a', oa', c', oc', by rw [← hwa]; exact hcw, hnx⟩
end

set_option maxHeartbeats 1000000 in
theorem memValues_any {w : World} {b off : Nat} {ws : List Int} (p : Nat) {k n : Int} (hm : MemAt w b off ws) (hl : ws.length ≤ 1000000) (hp : p ≤ 1000) (hx : wordAt ws (p : Int) = k * 65536 + n) (hk : 1 ≤ k ∧ k ≤ 3) (h0 : 0 ≤ n) (h1 : n ≤ 64) :
    Calls Tryz.prog 145 #[.pointer (some ⟨b, off, none⟩), .int .i64 (p : Int)] w fun e w' => e = .returned (.tuple #[.int .i64 (if k = 1 then (p : Int) + 1 else if k = 3 then (p : Int) + 2 else p), .int .i64 (if k = 1 then n else if k = 3 then 2 * n else 0)]) ∧ w' = w := by
  have ha := memKind_any (p : Int) hm hl hx (by omega) (by omega)
  have hb := memSize_any (p : Int) hm hl hx (by omega)
  have hc := memEntry_any p 0 w hp (by omega)
  rw [show (k * 65536 + n) / 65536 = k by omega] at ha
  rw [show (k * 65536 + n) % 65536 = n by omega] at hb
  rw [show ((p + 2 + 4 * 0 : Nat) : Int) = (p : Int) + 2 by omega] at hc
  have HA := hide ha; have HB := hide hb; have HC := hide hc; clear ha hb hc hm hx
  have hd : Int.tdiv (n * 4) 2 = 2 * n := by rw [Int.tdiv_eq_ediv_of_nonneg (by omega)]; omega
  have hkk : k = 1 ∨ k = 2 ∨ k = 3 := by omega
  have zp : (p : Int) ≤ 1000 := by omega
  rcases hkk with rfl | rfl | rfl
  · simp only [if_true]
    go_enter Tryz.func145, Tryz.ntmps145
    go_wp2_with fail
    refine (unhide HA).mono ?_
    rintro e w1 ⟨rfl, rfl⟩
    go_wp2_with fail
    refine (unhide HB).mono ?_
    rintro e w2 ⟨rfl, rfl⟩
    go_wp2
    go_ret2
    exact ⟨rfl, rfl⟩
  · simp only [if_neg (show ¬ ((2 : Int) = 1) by omega), if_neg (show ¬ ((2 : Int) = 3) by omega)]
    go_enter Tryz.func145, Tryz.ntmps145
    go_wp2_with fail
    refine (unhide HA).mono ?_
    rintro e w1 ⟨rfl, rfl⟩
    go_wp2_with fail
    refine (unhide HB).mono ?_
    rintro e w2 ⟨rfl, rfl⟩
    go_wp2
    go_ret2
    exact ⟨rfl, rfl⟩
  · simp only [if_neg (show ¬ ((3 : Int) = 1) by omega), if_true]
    go_enter Tryz.func145, Tryz.ntmps145
    go_wp2_with fail
    refine (unhide HA).mono ?_
    rintro e w1 ⟨rfl, rfl⟩
    go_wp2_with fail
    refine (unhide HB).mono ?_
    rintro e w2 ⟨rfl, rfl⟩
    go_wp2_with fail
    refine (unhide HC).mono ?_
    rintro e w3 ⟨rfl, rfl⟩
    go_wp2
    go_ret2
    exact ⟨rfl, rfl⟩

/-- How many values an object's words have. -/
def nvals (o : RObj) : Int := if o.kind = 1 then o.size else if o.kind = 3 then 2 * o.size else 0
theorem wordMid {A X B : List Int} {q j : Nat} (hq : A.length = q) (hj : j < X.length) : wordAt (A ++ (X ++ B)) (((q + j : Nat)) : Int) = X.getD j 0 := by
  subst hq
  unfold wordAt
  rw [if_pos (by omega), Int.toNat_natCast, mid_get hj]

/-- The words and the row while an object's values are looked at. -/
structure Walk (s : R) (n q hl : Nat) (FW : Nat → List Int) (ROW : Nat → List Nat) : Prop where
  len : ∀ k, k ≤ n → ((FW k).length : Int) = usedOf s.objs (ROW k) ∧ (FW k).length ≤ 512
  next : ∀ k, k < n → ∃ kd nn : Int, wordAt (FW k) ((q + hl + 2 * k : Nat) : Int) = kd ∧ wordAt (FW k) (((q + hl + 2 * k : Nat) : Int) + 1) = nn ∧ (kd ≠ 2 → FW (k + 1) = FW k ∧ ROW (k + 1) = ROW k) ∧
    (kd = 2 → ∃ y, y ∈ s.row ∧ nn = placeOf s.objs y s.row ∧ metOf (ROW k) y <+: s.reach ∧ ROW (k + 1) = metOf (ROW k) y ∧ q + hl + 2 * k + 1 < (FW k ++ if y ∈ ROW k then [] else objWords s (s.objOf y)).length ∧ (FW k ++ if y ∈ ROW k then [] else objWords s (s.objOf y)).length ≤ 512 ∧
      set2 (FW k ++ if y ∈ ROW k then [] else objWords s (s.objOf y)) (q + hl + 2 * k) (2, s.newAt y) = FW (k + 1))

section
variable {P : List Nat} {wp w0 w : World} {bc bh : Nat} {mv od : List Int} {a ma oa : Option Addr} {c mc oc : Nat} {s : R}
set_option maxRecDepth 100000 in
set_option maxHeartbeats 2000000 in
/-- moveInner, by what it meets. -/
theorem inner_walk (ha : RAll s) (hm : MemAt w0 bh 1 s.words) {n q hl : Nat} {FW : Nat → List Int} {ROW : Nat → List Nat} (hW : Walk s n q hl FW ROW) {first : Int} (hf : 0 < n → first = ((q + hl : Nat) : Int)) (hn : n ≤ 32) (hqh : q + hl ≤ 600)
    (hval : Calls Tryz.prog 145 #[.pointer (some ⟨bc, 1, none⟩), .int .i64 (q : Int)] w fun e w' => e = .returned (.tuple #[.int .i64 first, .int .i64 (n : Int)]) ∧ w' = w)
    (h : CW P wp w0 w bc bh (FW 0) mv od a ma oa c mc oc) (hp : CP s (ROW 0) mv od) :
    Calls Tryz.prog 144 #[.pointer (some ⟨bc, 0, none⟩), .int .i64 (q : Int)] w fun e w' => e = .returned (.tuple #[]) ∧ ∃ mv' od' a' oa' c' oc', CW P wp w0 w' bc bh (FW n) mv' od' a' ma oa' c' mc oc' ∧ CP s (ROW n) mv' od' := by
  have HV := hide hval; have H := hide h; have HM := hide hm; have HP := hide hp; have HW := hide hW; have HF := hide hf; have HA := hide ha; clear hval h hm hp hW hf ha
  go_enter Tryz.func144, Tryz.ntmps144
  go_wp2_with fail
  refine (unhide HV).mono ?_
  rintro e w1 ⟨rfl, rfl⟩
  go_wp2_with fail
  go_loopw [6, 7, 8, 9] (fun i' _ _ _ wr => ∃ (k : Nat) (mv' od' : List Int) (a' oa' : Option Addr) (c' oc' : Nat), k ≤ n ∧ i' = .int .i64 k ∧ CW P wp w0 wr bc bh (FW k) mv' od' a' ma oa' c' mc oc' ∧ CP s (ROW k) mv' od') (fun i' _ _ _ _ => n - (intOf i').toNat)
  case atStart => exact ⟨0, mv, od, a, oa, c, oc, by omega, rfl, unhide H, unhide HP⟩
  case round =>
    obtain ⟨k, mv', od', a', oa', c', oc', hk, rfl, hcw, hcp⟩ := hrel
    by_cases hlt : k < n
    · have zk : (k : Int) < (n : Int) := by omega
      have zk2 : (k : Int) ≤ 32 := by omega
      have hfe := unhide HF (by omega)
      have hwl := (unhide HW).len k hk
      obtain ⟨kd, nn, hw1, hw2, hno, hyes⟩ := (unhide HW).next k hlt
      have hvv := memValue_any ((q + hl + 2 * k : Nat) : Int) hcw.mb.mem (by omega) (by omega) hw1 hw2
      rw [show ((q + hl + 2 * k : Nat) : Int) = first + 2 * (k : Int) by omega] at hvv
      have zf : 0 ≤ first ∧ first ≤ 600 := by omega
      obtain ⟨zf0, zf1⟩ := zf
      have HCW := hide hcw; have HCP := hide hcp; have HVV := hide hvv; have HNO := hide hno; have HYES := hide hyes; have HFE := hide hfe; have HWL := hide hwl; clear hcw hcp hvv hno hyes hfe hw1 hw2 hwl
      go_wp2_with fail
      refine (unhide HVV).mono ?_
      rintro e w2 ⟨rfl, hc2⟩
      have hcw2 := (unhide HCW).quiet (hc2.alloc (.cells #[.int .i64 kd, .int .i64 nn] 121))
      have hbv := Blk.new w2 [.int .i64 kd, .int .i64 nn] 121
      have q0 := hbv.cell_of (i := 0) rfl
      have q1 := hbv.cell_of (i := 1) rfl
      have HCW2 := hide hcw2; clear hcw2 hc2 hbv
      by_cases h2 : kd = 2
      · subst h2
        obtain ⟨y, hy, rfl, hpre, hrow, hin, h512, hset⟩ := unhide HYES rfl
        have hmv := move_play (unhide HA) (unhide HCW2) (unhide HM) (unhide HCP) (unhide HWL).1 hy hpre
        have HMV := hide hmv; have HROW := hide hrow; have HIN := hide hin; have HSET := hide hset; have H512 := hide h512; clear hmv hrow hin hset hpre hy h512
        generalize placeOf s.objs y s.row = pl at *
        go_wp2_with fail
        refine (unhide HMV).mono ?_
        rintro e w3 ⟨rfl, mv3, od3, a3, oa3, c3, oc3, hcw3, hcp3⟩
        have hsv := memSetValue_any (q + hl + 2 * k) (2, s.newAt y) hcw3.mb (unhide HIN) (by have := unhide H512; omega)
        rw [show ((q + hl + 2 * k : Nat) : Int) = first + 2 * (k : Int) by have := unhide HFE; omega] at hsv
        have HSV := hide hsv; have HCW3 := hide hcw3; have HCP3 := hide hcp3; clear hsv hcw3 hcp3 q0 q1
        generalize s.newAt y = ny at *
        go_wp2_with fail
        refine (unhide HSV).mono ?_
        rintro e w4 ⟨rfl, h4, k4⟩
        have hcw4 := (unhide HCW3).go h4 ⟨k4.mono (fun x hx => List.mem_cons_of_mem _ hx), fun _ h => .inl h⟩
        have HCW4 := hide hcw4; clear hcw4 h4 k4
        go_wp2
        go_roundw
        case rel =>
          have hr : ∃ (k' : Nat) (mv' od' : List Int) (a' oa' : Option Addr) (c' oc' : Nat), k' ≤ n ∧ Value.int .i64 ((k : Int) + 1) = .int .i64 k' ∧ CW P wp w0 w4 bc bh (FW k') mv' od' a' ma oa' c' mc oc' ∧ CP s (ROW k') mv' od' :=
            ⟨k + 1, mv3, od3, a3, oa3, c3, oc3, by omega, by go_num, by rw [← unhide HSET]; exact unhide HCW4, by rw [unhide HROW]; exact unhide HCP3⟩
          first | exact hr | ((repeat apply Exists.intro); exact ⟨hr, rfl⟩)
        case measure => simp [intOf]; omega
      · obtain ⟨e1, e2⟩ := unhide HNO h2
        have hne : (kd == 2) = false := by simp [h2]
        have E1 := hide e1; have E2 := hide e2; clear h2 e1 e2
        go_wp2
        go_roundw
        case rel =>
          have hr : ∃ (k' : Nat) (mv' od' : List Int) (a' oa' : Option Addr) (c' oc' : Nat), k' ≤ n ∧ Value.int .i64 ((k : Int) + 1) = .int .i64 k' ∧ CW P wp w0 (w2.alloc (.cells #[.int .i64 kd, .int .i64 nn] 121)) bc bh (FW k') mv' od' a' ma oa' c' mc oc' ∧ CP s (ROW k') mv' od' :=
            ⟨k + 1, mv', od', a', oa', c', oc', by omega, by go_num, by rw [unhide E1]; exact unhide HCW2, by rw [unhide E2]; exact unhide HCP⟩
          first | exact hr | ((repeat apply Exists.intro); exact ⟨hr, rfl⟩)
        case measure => simp [intOf]; omega
    · have hkn : k = n := by omega
      subst hkn
      have HCW := hide hcw; have HCP := hide hcp; clear hcw hcp
      go_wp2
      go_end0
      exact ⟨rfl, mv', od', a', oa', c', oc', unhide HCW, unhide HCP⟩
end
end Go.Proofs.YtfoncalkgmeklaaGreat

/- The collection of the program: an object of the row is looked into. -/
namespace Go.Proofs.YtfoncalkgmeklaaGreat
open Go.RowKit

theorem nvals_facts {n : Nat} {o : RObj} (h : OSh n o) : 0 ≤ nvals o ∧ nvals o ≤ 32 ∧ (o.vals.length : Int) ≤ nvals o ∧ (0 < nvals o → (headLen o : Int) + 2 * nvals o ≤ oWords o) ∧ (o.kind ≠ 3 → nvals o = o.vals.length) ∧ headLen o ≤ 2 := by
  have hk := h.kind
  have h16 := hk.2.2.2.2
  have hc : o.kind = 1 ∨ o.kind = 2 ∨ o.kind = 3 := by omega
  unfold nvals headLen oWords wordsOf
  rcases hc with e | e | e
  · have := h16 (by omega)
    have := h.arr e
    simp only [e, if_true, show ¬ ((1 : Int) = 3) by omega, if_false]
    omega
  · have := (h.txt e).2
    rw [this]
    simp [e]
  · have := h16 (by omega)
    have := h.tab e
    simp only [e, if_true, show ¬ ((3 : Int) = 1) by omega, show ¬ ((3 : Int) = 2) by omega, if_false]
    omega
theorem first_eq {n : Nat} {o : RObj} (h : OSh n o) (q : Nat) (h0 : 0 < nvals o) : (if o.kind = 1 then (q : Int) + 1 else if o.kind = 3 then (q : Int) + 2 else q) = ((q + headLen o : Nat) : Int) := by
  have hk := h.kind
  have hc : o.kind = 1 ∨ o.kind = 2 ∨ o.kind = 3 := by omega
  unfold nvals at h0
  unfold headLen
  rcases hc with e | e | e <;> simp [e] at h0 ⊢

section
variable {s : R}
/-- The words while the i-th object of the row, x, is looked into, k of its values done. -/
def scanW (s : R) (i x k : Nat) : List Int := newRow s ((s.scanTo i).take i) ++ (mixW s s.gone (s.objOf x) k ++ oldRow s ((scanVals (s.scanTo i) (s.objOf x).vals k).drop (i + 1)))
def scanR (s : R) (i x k : Nat) : List Nat := scanVals (s.scanTo i) (s.objOf x).vals k
theorem scanR_pre (i x k : Nat) (hi : i < s.objs.length) (hx : (s.scanTo i)[i]? = some x) : scanR s i x k <+: s.reach := by
  rcases Nat.lt_or_ge k (s.objOf x).vals.length with h1 | h1
  · exact scanVals_reach hi hx (Nat.le_of_lt h1)
  · have := scanVals_all (row := s.scanTo i) (vals := (s.objOf x).vals) (k - (s.objOf x).vals.length)
    rw [show (s.objOf x).vals.length + (k - (s.objOf x).vals.length) = k by omega] at this
    unfold scanR
    rw [this]
    exact scanVals_reach hi hx (Nat.le_refl _)
theorem scanR_take (i x k : Nat) (hx : (s.scanTo i)[i]? = some x) : (scanR s i x k).take (i + 1) = (s.scanTo i).take i ++ [x] ∧ i + 1 ≤ (scanR s i x k).length := by
  have hil : i < (s.scanTo i).length := (List.getElem?_eq_some_iff.1 hx).1
  refine ⟨?_, Nat.le_trans hil (scanVals_mono _ _ k)⟩
  obtain ⟨r, hr⟩ := scanVals_pre (s.scanTo i) (s.objOf x).vals k
  unfold scanR
  rw [← hr, List.take_append_of_le_length hil, List.take_add_one, hx]
  rfl
theorem scan_x (ha : RAll s) {i x : Nat} (hi : i < s.objs.length) (hx : (s.scanTo i)[i]? = some x) : x ∈ s.reach ∧ x ∈ s.row ∧ OSh s.objs.length (s.objOf x) := by
  have hsr := scan_reach (s := s) (i := i) (Nat.le_of_lt hi)
  have hxr : x ∈ s.reach := hsr.subset (List.mem_of_getElem? hx)
  exact ⟨hxr, reach_row ha hxr, ha.ok.osh (objOf_mem (ha.ok.inv.rows x (reach_row ha hxr)))⟩
theorem mix_size (ha : RAll s) {i x : Nat} (hi : i < s.objs.length) (hx : (s.scanTo i)[i]? = some x) (k : Nat) : ((mixW s s.gone (s.objOf x) k).length : Int) = oWords (s.objOf x) := by
  rw [mixW_len]
  exact objWords_size s (scan_x ha hi hx).2.2
theorem scan_newAt (ha : RAll s) {i x : Nat} (hi : i < s.objs.length) (hx : (s.scanTo i)[i]? = some x) : s.newAt x = usedOf s.objs ((s.scanTo i).take i) ∧ ((newRow s ((s.scanTo i).take i)).length : Int) = s.newAt x ∧ s.newAt x ≤ 512 := by
  have hsr := scan_reach (s := s) (i := i) (Nat.le_of_lt hi)
  have h1 : s.newAt x = usedOf s.objs ((s.scanTo i).take i) := by
    rw [newAt_old hsr (List.mem_of_getElem? hx), place_at (Good.scan ha.ok.inv i).nodup hx]
  refine ⟨h1, ?_, ?_⟩
  · rw [newRow_len ha (fun y hy => pre_lt ha hsr y (List.mem_of_mem_take hy)), h1]
  · rw [h1]
    exact (pre_bd ha ((List.take_prefix _ _).trans hsr)).1
theorem scanW_len (ha : RAll s) {i x : Nat} (hi : i < s.objs.length) (hx : (s.scanTo i)[i]? = some x) (k : Nat) : ((scanW s i x k).length : Int) = usedOf s.objs (scanR s i x k) ∧ (scanW s i x k).length ≤ 512 := by
  have hpr := scanR_pre i x k hi hx
  have h1 := oldRow_len ha.ok (l := (scanR s i x k).drop (i + 1)) (fun y hy => pre_lt ha hpr y (List.mem_of_mem_drop hy))
  have h2 : usedOf s.objs (scanR s i x k) = usedOf s.objs ((s.scanTo i).take i ++ [x]) + usedOf s.objs ((scanR s i x k).drop (i + 1)) := by
    conv => lhs; rw [← List.take_append_drop (i + 1) (scanR s i x k), usedOf_append]
    rw [(scanR_take i x k hx).1]
  have h3 := (scan_newAt ha hi hx).2.1
  have h4 := (scan_newAt ha hi hx).1
  have h5 := mix_size ha hi hx k
  have h6 := (pre_bd ha hpr).1
  have e0 : oWords (s.objs.getD x robj0) = oWords (s.objOf x) := rfl
  rw [usedOf_snoc, e0] at h2
  have key : ((scanW s i x k).length : Int) = usedOf s.objs (scanR s i x k) := by
    unfold scanW
    unfold scanR at h1 h2 ⊢
    simp only [List.length_append]
    clear hpr h6
    generalize usedOf s.objs (scanVals (s.scanTo i) (s.objOf x).vals k) = u at *
    generalize usedOf s.objs (List.drop (i + 1) (scanVals (s.scanTo i) (s.objOf x).vals k)) = u2 at *
    generalize (oldRow s (List.drop (i + 1) (scanVals (s.scanTo i) (s.objOf x).vals k))).length = l2 at *
    generalize (newRow s (List.take i (s.scanTo i))).length = l3 at *
    generalize (mixW s s.gone (s.objOf x) k).length = l4 at *
    omega
  refine ⟨key, ?_⟩
  generalize (scanW s i x k).length = l at *
  generalize usedOf s.objs (scanR s i x k) = u at *
  clear h1 h2 h3 h4 h5
  omega
theorem set2_mix (s : R) (o : RObj) {k : Nat} {v : Int × Int} (hv : o.vals[k]? = some v) (h2 : v.1 = 2) (hl : headLen o + 2 * k < (mixW s s.gone o k).length) : set2 (mixW s s.gone o k) (headLen o + 2 * k) (2, s.newAt v.2.toNat) = mixW s s.gone o (k + 1) := by
  have h1 := (mixW_val s s.gone o hv).1
  rw [h2] at h1
  rw [mixW_step s s.gone o hv h2]
  unfold set2
  rw [set_same h1 hl]
  congr 1
  unfold R.outW
  rw [if_pos h2]
  rfl
theorem scan_word (ha : RAll s) {i x k : Nat} (hi : i < s.objs.length) (hx : (s.scanTo i)[i]? = some x) {q j : Nat} (hq : (newRow s ((s.scanTo i).take i)).length = q) (hj : (j : Int) < oWords (s.objOf x)) : wordAt (scanW s i x k) ((q + j : Nat) : Int) = (mixW s s.gone (s.objOf x) k).getD j 0 := by
  have := mix_size ha hi hx k
  exact wordMid hq (by omega)
theorem walk_scan (ha : RAll s) {i x : Nat} (hi : i < s.objs.length) (hx : (s.scanTo i)[i]? = some x) {q : Nat} (hq : (newRow s ((s.scanTo i).take i)).length = q) : Walk s (nvals (s.objOf x)).toNat q (headLen (s.objOf x)) (scanW s i x) (scanR s i x) := by
  obtain ⟨hxr, hxo, hosh⟩ := scan_x ha hi hx
  obtain ⟨f0, f1, f2, f3, f4, f5⟩ := nvals_facts hosh
  refine ⟨fun k _ => scanW_len ha hi hx k, fun k hk => ?_⟩
  have hin : (headLen (s.objOf x) : Int) + 2 * (k : Int) + 1 < oWords (s.objOf x) := by
    have := f3 (by omega)
    omega
  have hms := mix_size ha hi hx k
  have w1 := scan_word (k := k) ha hi hx hq (j := headLen (s.objOf x) + 2 * k) (by omega)
  have w2 := scan_word (k := k) ha hi hx hq (j := headLen (s.objOf x) + 2 * k + 1) (by omega)
  rw [← Nat.add_assoc] at w1
  rw [show ((q + (headLen (s.objOf x) + 2 * k + 1) : Nat) : Int) = ((q + headLen (s.objOf x) + 2 * k : Nat) : Int) + 1 by omega] at w2
  refine ⟨_, _, w1, w2, ?_, ?_⟩
  · intro hne
    by_cases hkv : k < (s.objOf x).vals.length
    · have hv := List.getElem?_eq_getElem hkv
      have hvv := (mixW_val s s.gone (s.objOf x) hv).1
      rw [hvv] at hne
      have hr : scanR s i x (k + 1) = scanR s i x k := by
        unfold scanR
        rw [scanVals_succ, hv]
        simp only
        rw [if_neg hne]
      refine ⟨?_, hr⟩
      unfold scanW
      unfold scanR at hr
      rw [hr, mixW_skip s s.gone (s.objOf x) hv hne]
    · have hr : scanR s i x (k + 1) = scanR s i x k := by
        unfold scanR
        rw [scanVals_succ, List.getElem?_eq_none (by omega)]
      refine ⟨?_, hr⟩
      unfold scanW
      unfold scanR at hr
      rw [hr, mixW_over s s.gone (s.objOf x) (by omega)]
  · intro h2
    have hkv : k < (s.objOf x).vals.length := by
      rcases Nat.lt_or_ge k (s.objOf x).vals.length with h1 | h1
      · exact h1
      · exfalso
        have h3 : (s.objOf x).kind = 3 := by
          rcases Int.decEq (s.objOf x).kind 3 with h | h
          · have := f4 h; omega
          · exact h
        rw [mixW_nought s s.gone hosh h3 h1] at h2
        omega
    have hv := List.getElem?_eq_getElem hkv
    have hvv := mixW_val s s.gone (s.objOf x) hv
    rw [hvv.1] at h2
    have hmem := List.getElem_mem hkv
    generalize (s.objOf x).vals[k] = v at *
    have hy := ha.row.closed x hxo v hmem h2
    have hr : scanR s i x (k + 1) = metOf (scanR s i x k) v.2.toNat := by
      unfold scanR
      rw [scanVals_succ, hv]
      simp only
      rw [if_pos h2]
    have hFe : (scanW s i x k ++ if v.2.toNat ∈ scanR s i x k then [] else objWords s (s.objOf v.2.toNat)) = newRow s ((s.scanTo i).take i) ++ (mixW s s.gone (s.objOf x) k ++ oldRow s ((scanR s i x (k + 1)).drop (i + 1))) := by
      rw [hr, oldRow_met (scanR_take i x k hx).2]
      unfold scanW scanR
      simp only [List.append_assoc]
    have hset : set2 (scanW s i x k ++ if v.2.toNat ∈ scanR s i x k then [] else objWords s (s.objOf v.2.toNat)) (q + headLen (s.objOf x) + 2 * k) (2, s.newAt v.2.toNat) = scanW s i x (k + 1) := by
      rw [hFe, Nat.add_assoc, ← hq, set2_mid (by omega), set2_mix s (s.objOf x) hv h2 (by omega)]
      rfl
    have hl' := (scanW_len ha hi hx (k + 1)).2
    rw [← hset, set2_len] at hl'
    refine ⟨v.2.toNat, hy, ?_, ?_, hr, ?_, hl', hset⟩
    · rw [hvv.2]
      unfold R.outW
      rw [if_pos h2]
    · rw [← hr]; exact scanR_pre i x (k + 1) hi hx
    · rw [hFe]
      simp only [List.length_append]
      omega
end

section
variable {P : List Nat} {wp w0 w : World} {bc bh : Nat} {mv od : List Int} {a ma oa : Option Addr} {c mc oc : Nat} {s : R}
/-- The words when the first i objects of the row have been looked into. -/
def cwords (s : R) (i : Nat) : List Int := newRow s ((s.scanTo i).take i) ++ oldRow s ((s.scanTo i).drop i)
theorem cwords_scan {i x : Nat} (hx : (s.scanTo i)[i]? = some x) : cwords s i = scanW s i x 0 := by
  obtain ⟨hil, rfl⟩ := List.getElem?_eq_some_iff.1 hx
  unfold cwords scanW
  rw [mixW_zero, List.drop_eq_getElem_cons hil]
  unfold oldRow
  rw [List.flatMap_cons]
  rfl
theorem scan_done (ha : RAll s) {i x : Nat} (hi : i < s.objs.length) (hx : (s.scanTo i)[i]? = some x) : scanR s i x (nvals (s.objOf x)).toNat = s.scanTo (i + 1) ∧ scanW s i x (nvals (s.objOf x)).toNat = cwords s (i + 1) := by
  obtain ⟨_, _, hosh⟩ := scan_x ha hi hx
  obtain ⟨f0, f1, f2, _⟩ := nvals_facts hosh
  have hr : scanR s i x (nvals (s.objOf x)).toNat = s.scanTo (i + 1) := by
    have := scanVals_all (row := s.scanTo i) (vals := (s.objOf x).vals) ((nvals (s.objOf x)).toNat - (s.objOf x).vals.length)
    rw [show (s.objOf x).vals.length + ((nvals (s.objOf x)).toNat - (s.objOf x).vals.length) = (nvals (s.objOf x)).toNat by omega] at this
    unfold scanR
    rw [this, scanTo_succ, hx]
  refine ⟨hr, ?_⟩
  have ht := (scanR_take i x (nvals (s.objOf x)).toNat hx).1
  rw [hr] at ht
  unfold cwords scanW
  unfold scanR at hr
  rw [hr, mixW_end s s.gone (s.objOf x) (by omega), ht]
  unfold newRow
  rw [List.flatMap_append]
  simp [List.append_assoc]
theorem inner_play (ha : RAll s) {i x : Nat} (hi : i < s.objs.length) (hx : (s.scanTo i)[i]? = some x) (hm : MemAt w0 bh 1 s.words) (h : CW P wp w0 w bc bh (cwords s i) mv od a ma oa c mc oc) (hp : CP s (s.scanTo i) mv od) :
    Calls Tryz.prog 144 #[.pointer (some ⟨bc, 0, none⟩), .int .i64 (s.newAt x)] w fun e w' => e = .returned (.tuple #[]) ∧ ∃ mv' od' a' oa' c' oc', CW P wp w0 w' bc bh (cwords s (i + 1)) mv' od' a' ma oa' c' mc oc' ∧ CP s (s.scanTo (i + 1)) mv' od' := by
  obtain ⟨_, _, hosh⟩ := scan_x ha hi hx
  obtain ⟨f0, f1, f2, f3, f4, f5⟩ := nvals_facts hosh
  obtain ⟨n0, n1, n2⟩ := scan_newAt ha hi hx
  have hkd := hosh.kind
  rw [cwords_scan hx] at h
  have hwl := (scanW_len ha hi hx 0).2
  have hob := (words_bd hkd).1
  obtain ⟨q, hq⟩ : ∃ q, (newRow s ((s.scanTo i).take i)).length = q := ⟨_, rfl⟩
  have hhead := scan_word (k := 0) ha hi hx hq (j := 0) (by omega)
  rw [mixW_head, Nat.add_zero] at hhead
  rw [hq] at n1
  have hval := memValues_any q h.mb.mem (by omega) (by omega) hhead ⟨hkd.1, hkd.2.1⟩ hkd.2.2.1 hkd.2.2.2.1
  have hnv : (if (s.objOf x).kind = 1 then (s.objOf x).size else if (s.objOf x).kind = 3 then 2 * (s.objOf x).size else 0) = (((nvals (s.objOf x)).toNat : Nat) : Int) := by rw [Int.toNat_of_nonneg f0]; rfl
  rw [hnv] at hval
  have hr0 : scanR s i x 0 = s.scanTo i := rfl
  have := inner_walk ha hm (walk_scan ha hi hx hq) (fun h0 => first_eq hosh q (by omega)) (by omega) (by omega) hval h (by rw [hr0]; exact hp)
  rw [(scan_done ha hi hx).1, (scan_done ha hi hx).2] at this
  rw [← n1]
  exact this
end
end Go.Proofs.YtfoncalkgmeklaaGreat

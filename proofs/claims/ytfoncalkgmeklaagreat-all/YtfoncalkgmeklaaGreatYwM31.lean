import Derived.Test.YtfoncalkgmeklaaGreatYwM30
import Derived.Test.YtfoncalkgmeklaaGreatYwM28

/- The collection of the program: Collect. -/
namespace Go.Proofs.YtfoncalkgmeklaaGreat
open Go.RowKit

theorem ints_zero (m : Nat) : ints (List.replicate m 0) = reps m (.int .i64 0) := by simp [ints, reps]
theorem CW.lt {P : List Nat} {wp w0 w : World} {bc bh : Nat} {fw mv od : List Int} {a ma oa : Option Addr} {c mc oc : Nat} (h : CW P wp w0 w bc bh fw mv od a ma oa c mc oc) : ∀ x ∈ bc :: (ab a ++ (ab ma ++ ab oa)), x < w.heap.size := by
  intro x hx
  rcases List.mem_cons.1 hx with rfl | hx
  · exact h.mb.blk.lt
  · rcases List.mem_append.1 hx with h1 | h1
    · exact own_lt h.mb.own x h1
    · rcases List.mem_append.1 h1 with h2 | h2
      · exact own_lt h.moved x h2
      · exact own_lt h.order x h2
/-- The collection at its start: what was moved in the first new block, the collection in the second, the places in the third. -/
theorem cw_start (w : World) (bh m : Nat) (hm : m ≤ 1000) :
    CW (ab (some (⟨w.heap.size + 2, 0, none⟩ : Addr))) (((w.alloc (.cells (reps m (.int .i64 0)).toArray 3)).alloc (.cells #[.pointer (some ⟨bh, 1, none⟩), .int .i64 0, .slice none 0 0, .slice (some ⟨w.heap.size, 0, none⟩) m m, .slice none 0 0] 157)).alloc (.cells #[] 3)) w
      (((w.alloc (.cells (reps m (.int .i64 0)).toArray 3)).alloc (.cells #[.pointer (some ⟨bh, 1, none⟩), .int .i64 0, .slice none 0 0, .slice (some ⟨w.heap.size, 0, none⟩) m m, .slice none 0 0] 157)).alloc (.cells #[] 3))
      (w.heap.size + 1) bh [] (List.replicate m 0) [] none (some ⟨w.heap.size, 0, none⟩) none 0 m 0 ∧
    (((w.alloc (.cells (reps m (.int .i64 0)).toArray 3)).alloc (.cells #[.pointer (some ⟨bh, 1, none⟩), .int .i64 0, .slice none 0 0, .slice (some ⟨w.heap.size, 0, none⟩) m m, .slice none 0 0] 157)).alloc (.cells #[] 3)).ownsRow 0 3 1 (.slice (some ⟨w.heap.size + 2, 0, none⟩) 0 0) 0 (ints []) := by
  have hb1 := ((Blk.new w (reps m (.int .i64 0)) 3).alloc (.cells #[.pointer (some ⟨bh, 1, none⟩), .int .i64 0, .slice none 0 0, .slice (some ⟨w.heap.size, 0, none⟩) m m, .slice none 0 0] 157)).alloc (.cells #[] 3)
  have hb2 : Blk (((w.alloc (.cells (reps m (.int .i64 0)).toArray 3)).alloc (.cells #[.pointer (some ⟨bh, 1, none⟩), .int .i64 0, .slice none 0 0, .slice (some ⟨w.heap.size, 0, none⟩) m m, .slice none 0 0] 157)).alloc (.cells #[] 3)) (w.heap.size + 1) [.pointer (some ⟨bh, 1, none⟩), .int .i64 0, .slice none 0 0, .slice (some ⟨w.heap.size, 0, none⟩) m m, .slice none 0 0] 157 := by
    have := (Blk.new (w.alloc (.cells (reps m (.int .i64 0)).toArray 3)) [.pointer (some ⟨bh, 1, none⟩), .int .i64 0, .slice none 0 0, .slice (some ⟨w.heap.size, 0, none⟩) m m, .slice none 0 0] 157).alloc (.cells #[] 3)
    rw [size_alloc] at this
    exact this
  have hb3 : Blk (((w.alloc (.cells (reps m (.int .i64 0)).toArray 3)).alloc (.cells #[.pointer (some ⟨bh, 1, none⟩), .int .i64 0, .slice none 0 0, .slice (some ⟨w.heap.size, 0, none⟩) m m, .slice none 0 0] 157)).alloc (.cells #[] 3)) (w.heap.size + 2) [] 3 := by
    have := Blk.new ((w.alloc (.cells (reps m (.int .i64 0)).toArray 3)).alloc (.cells #[.pointer (some ⟨bh, 1, none⟩), .int .i64 0, .slice none 0 0, .slice (some ⟨w.heap.size, 0, none⟩) m m, .slice none 0 0] 157)) [] 3
    rw [size_alloc, size_alloc] at this
    exact this
  have hc := (((Chg.refl [] w).alloc (.cells (reps m (.int .i64 0)).toArray 3)).alloc (.cells #[.pointer (some ⟨bh, 1, none⟩), .int .i64 0, .slice none 0 0, .slice (some ⟨w.heap.size, 0, none⟩) m m, .slice none 0 0] 157)).alloc (.cells #[] 3)
  have hown := hb1.owns (size := 1) (base := 0) (n := m) (cap := m) (Nat.zero_le _) (Nat.le_refl _) (by unfold maxLen; omega) (by rw [length_reps]; omega)
  rw [List.take_of_length_le (by rw [length_reps]; omega)] at hown
  generalize ((w.alloc (.cells (reps m (.int .i64 0)).toArray 3)).alloc (.cells #[.pointer (some ⟨bh, 1, none⟩), .int .i64 0, .slice none 0 0, .slice (some ⟨w.heap.size, 0, none⟩) m m, .slice none 0 0] 157)).alloc (.cells #[] 3) = w3 at *
  have hown3 := hb3.owns (size := 1) (base := 0) (n := 0) (cap := 0) (Nat.zero_le _) (Nat.le_refl _) (by unfold maxLen; omega) rfl
  refine ⟨⟨⟨?_, World.ownsRow_nil _ _ _ _, by decide⟩, ?_, World.ownsRow_nil _ _ _ _, by simp [ab], by simp [ab], by simp [ab], ?_, hc, ?_, ?_⟩, by simpa [ints] using hown3⟩
  · simpa using hb2
  · rw [List.length_replicate, ints_zero]; exact hown
  · intro x hx
    simp [ab] at hx
    omega
  · intro x hx
    simp [ab] at hx ⊢
    omega
  · intro x hx
    simp [ab] at hx
    subst hx
    exact ⟨hb3.lt, rfl⟩
theorem oldRow_metTo {s : R} {k y : Nat} (h : (s.held 32)[k]? = some y) : (oldRow s (s.metTo k) ++ if y ∈ s.metTo k then [] else objWords s (s.objOf y)) = oldRow s (s.metTo (k + 1)) := by
  have := oldRow_met (s := s) (row := s.metTo k) (y := y) (i := 0) (Nat.zero_le _)
  rw [List.drop_zero, List.drop_zero] at this
  rw [metTo_succ h, this]
theorem cwords_zero {s : R} : cwords s 0 = oldRow s (s.scanTo 0) := by simp [cwords, newRow]
theorem cwords_end {s : R} {i : Nat} (hi : i ≤ s.objs.length) (hl : (s.scanTo i).length ≤ i) : cwords s i = s.gone.words := by
  have e := reach_eq hl hi
  unfold cwords
  rw [← e, List.take_of_length_le (by rw [e]; exact hl), List.drop_eq_nil_of_le (by rw [e]; exact hl), newRow_all]
  simp [oldRow]
theorem MB.setWords {w w' : World} {b : Nat} {pre0 : Value} {lim : Int} {ws fw : List Int} {post : List Value} {T : TypeId} {a a' : Option Addr} {c c' : Nat} (h : MB w b [pre0] lim ws post T a c) (k : Chg [] w w') (ho : w'.ownsRow 0 3 1 (.slice a' fw.length c') fw.length (ints fw)) :
    MB (w'.setCell ⟨b, 2, none⟩ (.slice a' fw.length c')) b [pre0] lim fw post T a' c' := by
  have hb := h.blk.chg k (by simp)
  refine ⟨hb.setCell 2 (.slice a' fw.length c'), ownsRow_setCell_other' ho (fun g hg e => ?_) _, h.ty⟩
  exact (owns_ty ho g (ownBlock_ab hg)).ne (fun e => h.ty e.symm) (by rw [e]; exact hb.ty)

section
variable {s : R} {w : World} {bh : Nat} {lim : Int} {pre0 : Value} {post : List Value} {T : TypeId} {a : Option Addr} {c : Nat}
set_option maxRecDepth 100000 in
set_option maxHeartbeats 4000000 in
theorem memCollect_any (ha : RAll s) (h : MB w bh [pre0] lim s.words post T a c) {ra : Option Addr} {n rc : Nat} (hr : w.ownsRow 0 3 1 (.slice ra n rc) n (ints ((s.held 32).map fun y => placeOf s.objs y s.row))) :
    Calls Tryz.prog 135 #[.pointer (some ⟨bh, 1, none⟩), .slice ra n rc] w fun e w' => ∃ pa pc, e = .returned (.slice pa n pc) ∧ ∃ a', (∃ c', MB w' bh [pre0] lim s.gone.words post T a' c') ∧ w'.ownsRow 0 3 1 (.slice pa n pc) n (ints ((s.held 32).map s.newAt)) ∧ (∀ x ∈ ab pa, w.heap.size ≤ x) ∧ Stp (bh :: ab a) w (bh :: ab a') w' := by
  obtain ⟨i0, hi0, hz0, hz1, hz2⟩ := info_parts info3
  have hhl : (s.held 32).length = n := by have := hr.1; simpa [ints] using this
  have hn32 : n ≤ 32 := by rw [← hhl]; exact held_len s 32
  obtain ⟨m, hm⟩ : ∃ m, s.words.length = m := ⟨_, rfl⟩
  have hm512 : m ≤ 512 := by rw [← hm]; exact words_fit ha
  have hmem : MemAt w bh 1 s.words := h.mem
  have c1 : w.cell? ⟨bh, 2, none⟩ = some (.slice a m c) := by rw [← hm]; exact h.blk.cell_of rfl
  have hmk : ∀ u : World, (Instr.makeSlice 26 (.int .i64 (m : Int)) (.int .i64 (m : Int))).run Tryz.prog u =
      .ok (.slice (some ⟨u.heap.size, 0, none⟩) m m) (u.alloc (.cells (reps m (Value.int .i64 0)).toArray 3)) := fun u => by
    have h := run_make (P := Tryz.prog) u 26 3 i0 (.int .i64 0) Tryz.underlying26 hi0 hz0 .i64 .i64 (m : Int) (m : Int) (by omega) (Int.le_refl _) (by rw [hz2]; omega) (by omega)
    rw [Int.toNat_natCast] at h
    simpa [hz1, Value.cells, madeCells_one] using h
  have hst := cw_start w bh m (by omega)
  have hcp0 : CP s (s.metTo 0) (List.replicate m 0) [] := by rw [← hm]; exact CP.init s
  have hlt : bh < w.heap.size := h.blk.lt
  have H := hide h; have HST := hide hst; have HCP := hide hcp0; have HA := hide ha; have HR := hide hr; have HHL := hide hhl; have HMEM := hide hmem; clear h hst hcp0 ha hr hhl hmem
  go_enter Tryz.func135, Tryz.ntmps135
  go_wp2_with fail
  clear hmk c1
  go_loopw [6, 7, 8] (fun v i _ wr => ∃ (k : Nat) (pa : Option Addr) (pc : Nat) (mv od : List Int) (a' oa' : Option Addr) (c' oc' : Nat), k ≤ n ∧ i = .int .i64 k ∧ v = .slice pa k pc ∧ wr.ownsRow 0 3 1 (.slice pa k pc) k (ints (((s.held 32).take k).map s.newAt)) ∧ (∀ x ∈ ab pa, w.heap.size ≤ x) ∧
    CW (ab pa) wr w wr (w.heap.size + 1) bh (oldRow s (s.metTo k)) mv od a' (some ⟨w.heap.size, 0, none⟩) oa' c' m oc' ∧ CP s (s.metTo k) mv od) (fun _ i _ _ => n - (intOf i).toNat)
  case atStart => exact ⟨0, _, _, _, _, _, _, _, _, by omega, rfl, rfl, (unhide HST).2, by simp [ab]; omega, (unhide HST).1, unhide HCP⟩
  case round =>
    obtain ⟨k, pa, pc, mv, od, a', oa', c', oc', hk, rfl, rfl, hpo, hpn, hcw, hcp⟩ := hrel
    by_cases hlt' : k < n
    · have zk : (k : Int) < (n : Int) := by omega
      obtain ⟨y, hy⟩ : ∃ y, (s.held 32)[k]? = some y := ⟨_, List.getElem?_eq_getElem (by rw [unhide HHL]; exact hlt')⟩
      have hyr : y ∈ s.row := held_row (unhide HA) 32 y (List.mem_of_getElem? hy)
      obtain ⟨gr, hgr, _, hcr⟩ := owns_at (unhide HR) (by omega)
      have cr : wr.cell? ⟨gr, k, none⟩ = some (.int .i64 (placeOf s.objs y s.row)) := by
        refine cell_chg0 hcw.chg (hcr k _ ?_)
        simp [ints, List.getElem?_map, hy]
      have hol : ((oldRow s (s.metTo k)).length : Int) = usedOf s.objs (s.metTo k) := oldRow_len (unhide HA).ok (pre_lt (unhide HA) hcp.pre)
      have hmv := move_play (unhide HA) hcw (unhide HMEM) hcp hol hyr (by rw [← metTo_succ hy]; exact metTo_pre s (k + 1))
      rw [oldRow_metTo hy, ← metTo_succ hy] at hmv
      have htk : ((s.held 32).take (k + 1)).map s.newAt = ((s.held 32).take k).map s.newAt ++ [s.newAt y] := by rw [List.take_add_one, hy]; simp
      have hpl : (((s.held 32).take k).map s.newAt).length = k := by have := hpo.1; simpa [ints] using this
      subst hgr
      have HMV := hide hmv; have HPO := hide hpo; have HPN := hide hpn; have HTK := hide htk; clear hmv hpo hpn hcw hcp htk hy hyr hol hcr HST
      generalize placeOf s.objs y s.row = pl at *
      generalize s.newAt y = ny at *
      generalize ((s.held 32).take k).map s.newAt = pls at *
      have hbc : w.heap.size + 1 = w.heap.size + 1 := rfl
      generalize w.heap.size + 1 = bc at *
      go_wp2_with fail
      refine (unhide HMV).mono ?_
      rintro e w2 ⟨rfl, mv2, od2, a2, oa2, c2, oc2, hcw2, hcp2⟩
      have hpo2 := owns_same (unhide HPO) (w' := w2) (fun x hx => (hcw2.same x hx).2)
      have HCW2 := hide hcw2; have HCP2 := hide hcp2; have HPO2 := hide hpo2; clear hcw2 hcp2 hpo2 cr
      go_wp2_with (at_builtin; go_must (refine wpList_append_gen _ rfl (.tmp 31) (.tmp 33) 26 rfl 3 i0 (.int .i64 0) 1 8 Tryz.underlying26 hi0 hz0 hz1 hz2 rfl (by decide) (.slice pa k pc) k (ints pls) rfl ?c0 (some ⟨w2.heap.size, 0, none⟩) 1 1 (ints [ny]) rfl rfl ?c1 (ints_one _) ?c2 ?c3 ?_))
      case c0 => exact World.ownsRow.alloc (unhide HPO2) _
      case c1 => first | exact fun _ => ⟨_, rfl, fun j u hj => by rw [addr_add, Nat.zero_add]; exact (Blk.new w2 (ints [ny]) 3).cell_of hj⟩ | exact fun j u hj => hj
      case c2 => unfold maxLen; omega
      case c3 => omega
      intro va9 cap9 w9 ho9 hg9 hat9
      have hk9 : Chg (ab pa) w2 w9 := grown_ab (S := []) ((Chg.refl [] w2).alloc _) hg9
      have hv9 : ∀ x ∈ ab va9, x ∈ ab pa ∨ w2.heap.size ≤ x := at_ab (Nat.le_succ _) hat9
      have hcw9 := (unhide HCW2).reprot (S := ab pa) (P' := ab va9) hk9 (fun x hx => ⟨(unhide HCW2).prot x hx, unhide HPN x hx⟩) (fun x hx => ⟨own_lt ho9 x hx, fun hy => by
        rcases hv9 x hx with h1 | h1
        · exact (unhide HCW2).prot x h1 hy
        · have := (unhide HCW2).lt x hy; omega⟩)
      have hpn9 : ∀ x ∈ ab va9, w.heap.size ≤ x := fun x hx => by
        rcases hv9 x hx with h1 | h1
        · exact unhide HPN x h1
        · exact Nat.le_trans (unhide HCW2).chg.size h1
      have hpo9 : w9.ownsRow 0 3 1 (.slice va9 (k + 1) cap9) (k + 1) (ints (((s.held 32).take (k + 1)).map s.newAt)) := by rw [unhide HTK, ints_append]; exact ho9
      have HC9 := hide hcw9; have HPN9 := hide hpn9; have HPO9 := hide hpo9; clear hcw9 hpn9 hpo9 ho9 hg9 hat9 hk9 hv9
      go_wp2
      go_roundw
      case rel =>
        exact ⟨k + 1, va9, cap9, mv2, od2, a2, oa2, c2, oc2, by omega, by go_num, rfl, unhide HPO9, unhide HPN9, unhide HC9, unhide HCP2⟩
      case measure => simp [intOf]; omega
    · have hkn : k = n := by omega
      subst hkn
      have hma : s.metTo k = s.scanTo 0 := metTo_all (by rw [unhide HHL]; exact Nat.le_refl _)
      rw [hma, ← cwords_zero] at hcw
      rw [hma] at hcp
      rw [List.take_of_length_le (by rw [unhide HHL]; exact Nat.le_refl _)] at hpo
      have HCW := hide hcw; have HCP2 := hide hcp; have HPO := hide hpo; have HPN := hide hpn; clear hcw hcp hpo hpn HST HCP hma
      generalize w.heap.size + 1 = bc at *
      generalize wr = wo at *
      go_wp2_with fail
      go_loopw [9, 10] (fun i' _ wq => ∃ (j : Nat) (mv od : List Int) (a' oa' : Option Addr) (c' oc' : Nat), j ≤ (s.scanTo j).length ∧ i' = .int .i64 j ∧ CW (ab pa) wo w wq bc bh (cwords s j) mv od a' (some ⟨w.heap.size, 0, none⟩) oa' c' m oc' ∧ CP s (s.scanTo j) mv od) (fun i' _ _ => s.objs.length - (intOf i').toNat)
      case atStart => exact ⟨0, mv, od, a', oa', c', oc', Nat.zero_le _, rfl, unhide HCW, unhide HCP2⟩
      case round =>
        obtain ⟨j, mv2, od2, a2, oa2, c2, oc2, hj, rfl, hcw2, hcp2⟩ := hrel
        have hgl := (Good.scan (unhide HA).ok.inv j).len
        have x4 := hcw2.cells.2.2.2.1
        have hodl : od2.length = (s.scanTo j).length := by rw [hcp2.order]; simp
        have hb512 := (pre_bd (unhide HA) hcp2.pre).2
        by_cases hlt2 : j < (s.scanTo j).length
        · obtain ⟨x, hx⟩ : ∃ x, (s.scanTo j)[j]? = some x := ⟨_, List.getElem?_eq_getElem hlt2⟩
          have hji : j < s.objs.length := by omega
          obtain ⟨go, hgo, _, hco⟩ := owns_at hcw2.order (by omega)
          have co : wr.cell? ⟨go, j, none⟩ = some (.int .i64 (s.newAt x)) := hco j _ (by rw [hcp2.order]; simp [ints, hx])
          have hin := inner_play (unhide HA) hji hx (unhide HMEM) hcw2 hcp2
          have hmono : (s.scanTo j).length ≤ (s.scanTo (j + 1)).length := (scanTo_pre s j).length_le
          have hj1 : j + 1 ≤ (s.scanTo (j + 1)).length := by omega
          subst hgo
          have zj : (j : Int) < (od2.length : Int) := by omega
          have hol : (od2.length : Int) ≤ 512 := by omega
          have HIN := hide hin; have HJ1 := hide hj1; clear hin hcw2 hcp2 hx hgl hodl hlt2 hmono hb512 hj1 hco hj
          generalize s.newAt x = nx at *
          go_wp2_with fail
          refine (unhide HIN).mono ?_
          rintro e w3 ⟨rfl, mv3, od3, a3, oa3, c3, oc3, hcw3, hcp3⟩
          have HC3 := hide hcw3; have HP3 := hide hcp3; clear hcw3 hcp3 x4 co
          go_wp2
          go_roundw
          case rel => exact ⟨j + 1, mv3, od3, a3, oa3, c3, oc3, unhide HJ1, by go_num, unhide HC3, unhide HP3⟩
          case measure => simp [intOf]; omega
        · have hend := cwords_end (s := s) (i := j) (by omega) (by omega)
          rw [hend] at hcw2
          have x2 := hcw2.cells.2.1
          have hmb' := (unhide H).setWords hcw2.chg hcw2.mb.own
          have hbk := (unhide H).blk.chg hcw2.chg (by simp)
          have y2 : wr.cell? ⟨bh, 2, none⟩ = some (.slice a s.words.length c) := hbk.cell_of rfl
          have f2 := hbk.frozen 2
          have hpo2 := owns_same (unhide HPO) (w' := wr) (fun z hz => (hcw2.same z hz).2)
          have hpo3 := ownsRow_setCell_other' hpo2 (p := ⟨bh, 2, none⟩) (fun g hg e => by have := unhide HPN g (ownBlock_ab hg); simp at e; omega) (.slice a2 s.gone.words.length c2)
          have hstp : Stp (bh :: ab a) w (bh :: ab a2) (wr.setCell ⟨bh, 2, none⟩ (.slice a2 s.gone.words.length c2)) := ⟨(hcw2.chg.mono (by simp)).setCell (.inl (by simp)) _, fun z hz => by
            rcases List.mem_cons.1 hz with rfl | hz
            · exact .inl List.mem_cons_self
            · exact .inr (hcw2.newer z (List.mem_cons_of_mem _ (List.mem_append_left _ hz)))⟩
          have zj : ¬ ((j : Int) < (od2.length : Int)) := by omega
          have hjb : (j : Int) ≤ 512 := by omega
          have hol : (od2.length : Int) ≤ 512 := by omega
          have HMB := hide hmb'; have HPO3 := hide hpo3; have HSTP := hide hstp; clear hmb' hpo3 hstp hpo2 hbk hcw2 hcp2 hend hgl hodl hlt2 hb512
          generalize s.gone.words.length = gl at *
          generalize s.words.length = wl at *
          go_wp2
          go_ret
          exact ⟨pa, pc, rfl, a2, ⟨c2, unhide HMB⟩, unhide HPO3, unhide HPN, unhide HSTP⟩
end
end Go.Proofs.YtfoncalkgmeklaaGreat

/- The collection of the program: the slots' places are told, and told anew. -/
namespace Go.Proofs.YtfoncalkgmeklaaGreat
open Go.RowKit
variable {fx : Fx}

def livePl (sl : List Slot) : Nat → List Int
  | 0 => []
  | k + 1 => livePl sl k ++ if (sl.getD k slot0).live then [(sl.getD k slot0).place] else []
theorem livePl_succ (sl : List Slot) (k : Nat) : livePl sl (k + 1) = livePl sl k ++ if (sl.getD k slot0).live then [(sl.getD k slot0).place] else [] := rfl
theorem livePl_len (sl : List Slot) : ∀ k, (livePl sl k).length ≤ k
  | 0 => Nat.le_refl _
  | k + 1 => by
    have := livePl_len sl k
    rw [livePl_succ, List.length_append]
    split <;> simp <;> omega
theorem livePl_held {s : R} {sl : List Slot} (hl : sl.length = 32) (hs : ∀ k x, sl[k]? = some x → SlotOk s k x) : ∀ k, k ≤ 32 → livePl sl k = (s.held k).map fun y => placeOf s.objs y s.row
  | 0, _ => rfl
  | k + 1, h => by
    have ih := livePl_held hl hs k (by omega)
    obtain ⟨h1, h2, h3⟩ := hs k _ (slots_get hl (k := k) (by omega))
    rw [livePl_succ, ih, held_succ, h1]
    cases ha : s.at? (k : Int) with
    | none => simp
    | some q =>
      have := (h3 q ha).1
      simpa using this
set_option maxRecDepth 100000 in
set_option maxHeartbeats 1000000 in
theorem slotsPlaces_any {w : World} {b off : Nat} {sl : List Slot} (h : SlotsAt w b off sl) :
    Calls Tryz.prog 134 #[.pointer (some ⟨b, off, none⟩)] w fun e w' => ∃ pa n pc, e = .returned (.slice pa n pc) ∧ Out w w' pa n pc (livePl sl 32) := by
  obtain ⟨i0, hi0, hz0, hz1, hz2⟩ := info_parts info3
  have hl : sl.length = 32 := by obtain ⟨_, _, _, _, _, hl⟩ := h; exact hl
  have H := hide h; clear h
  go_enter Tryz.func134, Tryz.ntmps134
  go_wp2_with fail
  go_loopw [3, 4] (fun v i wr => ∃ (k n : Nat) (pa : Option Addr) (pc : Nat), k ≤ 32 ∧ i = .int .i64 k ∧ v = .slice pa n pc ∧ Out w wr pa n pc (livePl sl k)) (fun _ i _ => 32 - (intOf i).toNat)
  case atStart =>
    refine ⟨0, 0, _, _, by omega, rfl, rfl, World.ownsRow_lit w #[] 0 (Nat.zero_le _) (by unfold maxLen; omega) rfl, by simp [ab], (Chg.refl [] w).alloc _⟩
  case round =>
    obtain ⟨k, n, pa, pc, hk, rfl, rfl, ho⟩ := hrel
    by_cases hlt : k < 32
    · have zk : (k : Int) < 32 := by omega
      have hlen := ho.len
      have hll := livePl_len sl k
      obtain ⟨d0, _, d2, _⟩ := (unhide H).at (slots_get hl hlt)
      have e0 := cell_chg0 ho.chg d0
      have e2 := cell_chg0 ho.chg d2
      have hsu := livePl_succ sl k
      generalize sl.getD k slot0 = y at *
      obtain ⟨lv, gv, pl, sc⟩ := y
      simp only at e0 e2 hsu
      have HO := hide ho; have HSU := hide hsu; clear ho hsu d0 d2
      cases lv with
      | false =>
        clear e2
        go_wp2
        go_roundw
        case rel => exact ⟨k + 1, n, pa, pc, by omega, by go_num, rfl, by rw [unhide HSU]; simpa using unhide HO⟩
        case measure => simp [intOf]; omega
      | true =>
        go_wp2_with (at_builtin; go_must (refine wpList_append_gen _ rfl (.tmp 17) (.tmp 25) 26 rfl 3 i0 (.int .i64 0) 1 8 Tryz.underlying26 hi0 hz0 hz1 hz2 rfl (by decide) (.slice pa n pc) n (ints (livePl sl k)) rfl ?c0 (some ⟨wr.heap.size, 0, none⟩) 1 1 (ints [pl]) rfl rfl ?c1 (ints_one _) ?c2 ?c3 ?_))
        case c0 => exact World.ownsRow.alloc (unhide HO).own _
        case c1 => first | exact fun _ => ⟨_, rfl, fun j u hj => by rw [addr_add, Nat.zero_add]; exact (Blk.new wr (ints [pl]) 3).cell_of hj⟩ | exact fun j u hj => hj
        case c2 => unfold maxLen; omega
        case c3 => omega
        intro va9 cap9 w9 ho9 hg9 hat9
        have hp9 := (unhide HO).push (zs := [pl]) (m := 1) (.cells #[.int .i64 pl] 3) ho9 hg9 (Nat.le_succ _) hat9
        have HP9 := hide hp9; clear hp9 ho9 hg9 hat9 e0 e2
        go_wp2
        go_roundw
        case rel => exact ⟨k + 1, n + 1, va9, cap9, by omega, by go_num, rfl, by rw [unhide HSU]; simpa using unhide HP9⟩
        case measure => simp [intOf]; omega
    · have hk32 : k = 32 := by omega
      subst hk32
      have HO := hide ho; clear ho
      go_wp2
      go_ret
      exact ⟨pa, n, pc, rfl, unhide HO⟩

/-! The places told anew -/
def Slot.at' (x : Slot) (p : Int) : Slot := { x with place := p }
theorem slotCells_place : ∀ (l : List Slot) (k : Nat) (x : Slot) (p : Int), l[k]? = some x → (slotCells l).set (k * 4 + 2) (.int .i64 p) = slotCells (l.set k (x.at' p))
  | [], k, x, p, e => by simp at e
  | y :: r, 0, x, p, e => by simp at e; subst e; simp [slotCells, Slot.at']
  | y :: r, k + 1, x, p, e => by
    have ih := slotCells_place r k x p (by simpa using e)
    have e0 : (k + 1) * 4 + 2 = (k * 4 + 2) + 4 := by omega
    rw [e0]
    simp only [slotCells, List.set_cons_succ]
    rw [ih]
theorem MB.setPlace {w : World} {bh : Nat} {sl : List Slot} {op lim : Int} {ws : List Int} {a : Option Addr} {c : Nat} (h : MB w bh [.bool false] lim ws (holdCells fx sl op) 67 a c) {k : Nat} {x : Slot} (hk : sl[k]? = some x) (p : Int) : MB (w.setCell ⟨bh, 3 + k * 4 + 2, none⟩ (.int .i64 p)) bh [.bool false] lim ws (holdCells fx (sl.set k (x.at' p)) op) 67 a c := by
  have hlt := (List.getElem?_eq_some_iff.1 hk).1
  have hb := h.list.setCell (3 + k * 4 + 2) (.int .i64 p)
  have hlen := slotCells_len sl
  rw [List.set_append_right _ _ (by simp; omega), show 3 + k * 4 + 2 - ([Value.bool false, .int .i64 lim, .slice a ws.length c] : List Value).length = k * 4 + 2 by simp; omega, List.set_append_left _ _ (by omega), slotCells_place sl k x p hk] at hb
  refine ⟨by simpa [holdCells] using hb, ?_, h.ty⟩
  refine ownsRow_setCell_other' h.own (fun g hg e => ?_) _
  simp at e
  subst e
  exact h.nin (ownBlock_ab hg)
theorem held_pre (s : R) (k : Nat) : ∀ j, s.held k <+: s.held (k + j)
  | 0 => List.prefix_rfl
  | j + 1 => by
    refine (held_pre s k j).trans ?_
    rw [← Nat.add_assoc, held_succ]
    split
    · exact List.prefix_rfl
    · exact List.prefix_append _ _
theorem held_at {s : R} {k q : Nat} (hk : k < 32) (h : s.at? (k : Int) = some q) : (s.held 32)[(s.held k).length]? = some (s.handles.getD q rhan0).obj := by
  have h1 := held_pre s (k + 1) (32 - (k + 1))
  rw [show k + 1 + (32 - (k + 1)) = 32 by omega, held_succ, h] at h1
  obtain ⟨r, hr⟩ := h1
  rw [← hr]
  simp
theorem slotOk_gone {s : R} {k : Nat} {x : Slot} (h : SlotOk s k x) (hn : s.at? (k : Int) = none) : SlotOk s.gone k x := ⟨h.1, h.2.1, fun q hq => by have : s.at? (k : Int) = some q := hq; rw [hn] at this; cases this⟩
theorem slotOk_moved {s : R} {k q : Nat} {x : Slot} (h : SlotOk s k x) (hq : s.at? (k : Int) = some q) : SlotOk s.gone k (x.at' (s.newAt (s.handles.getD q rhan0).obj)) := by
  refine ⟨h.1, h.2.1, fun q' hq' => ?_⟩
  have e : s.at? (k : Int) = some q' := hq'
  rw [hq] at e
  cases e
  exact ⟨rfl, (h.2.2 q hq).2⟩

section
variable {w : World} {bh : Nat} {sl : List Slot} {op lim : Int} {ws : List Int} {a : Option Addr} {c : Nat} {s : R}
set_option maxRecDepth 100000 in
set_option maxHeartbeats 2000000 in
theorem slotsMove_any (h : MB w bh [.bool false] lim ws (holdCells fx sl op) 67 a c) (hl : sl.length = 32) (hs : ∀ k x, sl[k]? = some x → SlotOk s k x) {pa : Option Addr} {n pc : Nat} (hp : w.ownsRow 0 3 1 (.slice pa n pc) n (ints ((s.held 32).map s.newAt))) :
    Calls Tryz.prog 136 #[.pointer (some ⟨bh, 3, none⟩), .slice pa n pc] w fun e w' => e = .returned (.tuple #[]) ∧ ∃ sl', sl'.length = 32 ∧ (∀ k x, sl'[k]? = some x → SlotOk s.gone k x) ∧ MB w' bh [.bool false] lim ws (holdCells fx sl' op) 67 a c ∧ Chg [bh] w w' := by
  have hhl : (s.held 32).length = n := by have := hp.1; simpa [ints] using this
  have hn32 : n ≤ 32 := by rw [← hhl]; exact held_len s 32
  have hpb : ∀ x ∈ ab pa, x ≠ bh := fun x hx e => (owns_ty hp x hx).ne (fun e => h.ty e.symm) (by rw [e]; exact h.blk.ty)
  have H := hide h; have HS := hide hs; have HP := hide hp; have HHL := hide hhl; have HPB := hide hpb; clear h hs hp hhl hpb
  go_enter Tryz.func136, Tryz.ntmps136
  go_wp2_with fail
  go_loopw [4, 5] (fun nx i wr => ∃ (k : Nat) (cur : List Slot), k ≤ 32 ∧ i = .int .i64 k ∧ nx = .int .i64 ((s.held k).length : Int) ∧ cur.length = 32 ∧ (∀ (j : Nat) (x : Slot), cur[j]? = some x → if j < k then SlotOk s.gone j x else sl[j]? = some x) ∧ MB wr bh [.bool false] lim ws (holdCells fx cur op) 67 a c ∧ Chg [bh] w wr) (fun _ i _ => 32 - (intOf i).toNat)
  case atStart => exact ⟨0, sl, by omega, rfl, rfl, hl, fun j x hj => by rw [if_neg (by omega)]; exact hj, unhide H, Chg.refl _ _⟩
  case round =>
    obtain ⟨k, cur, hk, rfl, rfl, hcl, hcur, hmb, hch⟩ := hrel
    by_cases hlt : k < 32
    · have zk : (k : Int) < 32 := by omega
      have hgc := slots_get hcl hlt
      obtain ⟨d0, _, d2, _⟩ := (hmb.slots3 hcl).at hgc
      have f2 := hmb.blk.frozen (3 + k * 4 + 2)
      have hck := hcur k _ hgc
      rw [if_neg (by omega)] at hck
      have hok := unhide HS k _ hck
      have hlv := hok.1
      have hkl := held_len s k
      have hsu := held_succ s k
      generalize cur.getD k slot0 = y at *
      cases ha : s.at? (k : Int) with
      | none =>
        rw [ha] at hlv hsu
        simp only [Option.isSome_none] at hlv hsu
        rw [hlv] at d0
        have hcur2 : ∀ (j : Nat) (x : Slot), cur[j]? = some x → if j < k + 1 then SlotOk s.gone j x else sl[j]? = some x := fun j x hj => by
          have := hcur j x hj
          by_cases h1 : j < k
          · rw [if_pos h1] at this; rw [if_pos (by omega)]; exact this
          · by_cases h2 : j = k
            · subst h2
              rw [hgc] at hj
              cases hj
              rw [if_pos (by omega)]
              exact slotOk_gone hok ha
            · rw [if_neg h1] at this; rw [if_neg (by omega)]; exact this
        have HC2 := hide hcur2; have HMB := hide hmb; have HCH := hide hch; have HSU := hide hsu; clear hcur2 hmb hch hcur hck hok hgc hlv hsu d2 f2
        go_wp2
        go_roundw
        case rel =>
          have hr : ∃ (k' : Nat) (cur' : List Slot), k' ≤ 32 ∧ Value.int .i64 ((k : Int) + 1) = .int .i64 k' ∧ Value.int .i64 ((s.held k).length : Int) = .int .i64 ((s.held k').length : Int) ∧ cur'.length = 32 ∧ (∀ (j : Nat) (x : Slot), cur'[j]? = some x → if j < k' then SlotOk s.gone j x else sl[j]? = some x) ∧ MB wr bh [.bool false] lim ws (holdCells fx cur' op) 67 a c ∧ Chg [bh] w wr :=
            ⟨k + 1, cur, by omega, by go_num, by rw [unhide HSU], hcl, unhide HC2, unhide HMB, unhide HCH⟩
          first | exact hr | ((repeat apply Exists.intro); exact ⟨hr, rfl⟩)
        case measure => simp [intOf]; omega
      | some q =>
        rw [ha] at hlv hsu
        simp only [Option.isSome_some] at hlv hsu
        rw [hlv] at d0
        have hat := held_at hlt ha
        have hnx : (s.held k).length < n := by rw [← unhide HHL]; exact (List.getElem?_eq_some_iff.1 hat).1
        obtain ⟨gp, hgp, hgl, hcp⟩ := owns_at (unhide HP) (by omega)
        have cp : wr.cell? ⟨gp, (s.held k).length, none⟩ = some (.int .i64 (s.newAt (s.handles.getD q rhan0).obj)) := by
          refine cell_chgS hch (hcp _ _ ?_) ?_
          · simp [ints, hat]
          · have := unhide HPB gp (by rw [hgp]; simp [ab])
            simpa using this
        have hmv := slotOk_moved hok ha
        have hm2 := hmb.setPlace hgc (s.newAt (s.handles.getD q rhan0).obj)
        generalize s.newAt (s.handles.getD q rhan0).obj = ny at *
        have hcur2 : ∀ (j : Nat) (x : Slot), (cur.set k (y.at' ny))[j]? = some x → if j < k + 1 then SlotOk s.gone j x else sl[j]? = some x := fun j x hj => by
          rcases getD_slot_set (by omega) hj with ⟨rfl, rfl⟩ | ⟨h1, h2⟩
          · rw [if_pos (by omega)]; exact hmv
          · have := hcur j x h2
            by_cases h3 : j < k
            · rw [if_pos h3] at this; rw [if_pos (by omega)]; exact this
            · rw [if_neg h3] at this; rw [if_neg (by omega)]; exact this
        have hch2 : Chg [bh] w (wr.setCell ⟨bh, 3 + k * 4 + 2, none⟩ (.int .i64 ny)) := hch.setCell (.inl (by simp)) _
        have hln : ((s.held (k + 1)).length : Int) = ((s.held k).length : Int) + 1 := by rw [hsu]; simp
        have zn : ((s.held k).length : Int) < (n : Int) := by omega
        have zh : ((s.held k).length : Int) ≤ 32 := by omega
        have hz0 : 0 ≤ ((s.held k).length : Int) := by omega
        subst hgp
        have HC2 := hide hcur2; have HM2 := hide hm2; have HCH := hide hch2; have HLN := hide hln; clear hcur2 hm2 hch hch2 hmb hcur hck hok hgc hlv hsu hln hat hmv hcp
        generalize (s.held k).length = hn at *
        go_wp2_with fail
        go_region
        go_wp2
        go_roundw
        case rel => exact ⟨k + 1, cur.set k (y.at' ny), by omega, by go_num, by rw [unhide HLN], by simpa using hcl, unhide HC2, (unhide HM2).chg ((Chg.refl [] _).drew) (by simp) (by simp), (unhide HCH).drew⟩
        case measure => simp [intOf]; omega
    · have hk32 : k = 32 := by omega
      subst hk32
      have hcur2 : ∀ (j : Nat) (x : Slot), cur[j]? = some x → SlotOk s.gone j x := fun j x hj => by
        have := hcur j x hj
        rwa [if_pos (by have := (List.getElem?_eq_some_iff.1 hj).1; omega)] at this
      have HC2 := hide hcur2; have HMB := hide hmb; have HCH := hide hch; clear hcur2 hmb hch hcur
      go_wp2
      go_end0
      exact ⟨rfl, cur, hcl, unhide HC2, unhide HMB, unhide HCH⟩
end

/-! The heap's collection -/
theorem gone_words_len {s : R} (ha : RAll s) : s.gone.words.length ≤ 512 := words_fit (gone_ok ha)
set_option maxRecDepth 100000 in
set_option maxHeartbeats 1000000 in
theorem collect_mb {w : World} {bh : Nat} {sl : List Slot} {op lim : Int} {a : Option Addr} {c : Nat} {s : R} (ha : RAll s) (h : MB w bh [.bool false] lim s.words (holdCells fx sl op) 67 a c) (hl : sl.length = 32) (hs : ∀ k x, sl[k]? = some x → SlotOk s k x) :
    Calls Tryz.prog 111 #[.pointer (some ⟨bh, 0, none⟩)] w fun e w' => e = .returned (.tuple #[]) ∧ ∃ sl' a' c', sl'.length = 32 ∧ (∀ k x, sl'[k]? = some x → SlotOk s.gone k x) ∧ MB w' bh [.bool false] lim s.gone.words (holdCells fx sl' op) 67 a' c' ∧ Stp (bh :: ab a) w (bh :: ab a') w' := by
  have h1 := slotsPlaces_any (h.slots hl)
  have e1 := livePl_held hl hs 32 (Nat.le_refl _)
  rw [e1] at h1
  have hlt := h.blk.lt
  have H := hide h; have HS := hide hs; have HA := hide ha; have H1 := hide h1; clear h hs ha h1 e1
  go_enter Tryz.func111, Tryz.ntmps111
  go_wp2_with fail
  refine (unhide H1).mono ?_
  rintro e w1 ⟨ra, n, rc, rfl, ho⟩
  have hmb1 := (unhide H).chg ho.chg (by simp) (by simp)
  have hc := memCollect_any (unhide HA) hmb1 ho.own
  have HC := hide hc; have HO := hide ho; clear hc ho hmb1
  go_wp2_with fail
  refine (unhide HC).mono ?_
  rintro e w2 ⟨pa, pc, rfl, a2, ⟨c2, hm2⟩, hp2, hpn2, st2⟩
  have hmv := slotsMove_any hm2 hl (unhide HS) hp2
  have HMV := hide hmv; have ST2 := hide st2; clear hmv hm2 hp2 hpn2 st2
  go_wp2_with fail
  refine (unhide HMV).mono ?_
  rintro e w3 ⟨rfl, sl3, hl3, hs3, hm3, hc3⟩
  have HS3 := hide hs3; have HM3 := hide hm3; have HC3 := hide hc3; clear hs3 hm3 hc3
  go_wp2
  go_end0
  exact ⟨rfl, sl3, a2, c2, hl3, unhide HS3, unhide HM3, ((Stp.of_chg (unhide HO).chg).trans (unhide ST2)).trans ⟨(unhide HC3).mono (by simp), fun _ h => .inl h⟩⟩
/-- The document's collection, of the program's heap. -/
theorem collect_G {w : World} {bh : Nat} {s : R} {F : List Nat} (hg : (G fx) w bh s F) (hd : s.dead = false) (ha : RAll s) :
    Calls Tryz.prog 111 #[.pointer (some ⟨bh, 0, none⟩)] w fun e w' => ∃ F', e = .returned (.tuple #[]) ∧ (G fx) w' bh s.gone F' ∧ Stp F w F' w' := by
  obtain ⟨sl, a, c, hmb, rfl, hl, hs⟩ := G_live hg hd
  refine (collect_mb ha hmb hl hs).mono ?_
  rintro e w' ⟨rfl, sl', a', c', hl', hs', hm', st'⟩
  refine ⟨_, rfl, ⟨sl', a', c', s.gone.words, s.limit, s.scopes, ?_, rfl, hl', fun _ => ⟨rfl, rfl, rfl, hs'⟩⟩, st'⟩
  have : s.gone.dead = false := hd
  rw [this]
  exact hm'
set_option maxHeartbeats 1000000 in
theorem p_collect {bh : Nat} {s : R} (hd : s.dead = false) (ha : RAll s) : PCall1 (G fx) 70 bh [] s (s.collectQ).1 (s.collectQ).2 := by
  intro w F hg
  have c0 : w.cell? ⟨bh, 0, none⟩ = some (.bool false) := by
    obtain ⟨sl, a, c, hmb, _⟩ := G_live hg hd
    exact hmb.blk.cell_of (i := 0) rfl
  have hq : s.collectQ = (0, s.gone) := by unfold R.collectQ; rw [if_neg (by rw [hd]; simp)]; rfl
  rw [hq]
  have HC := hide (collect_G hg hd ha); clear hg
  show Calls Tryz.prog 70 #[.pointer (some ⟨bh, 0, none⟩)] w _
  go_enter Tryz.func70, Tryz.ntmps70
  go_wp2_with fail
  refine (unhide HC).mono ?_
  rintro e w1 ⟨F1, rfl, hg1, st1⟩
  have HG1 := hide hg1; have ST1 := hide st1; clear hg1 st1 c0
  go_wp2
  go_ret
  exact ⟨F1, rfl, unhide HG1, G_lt (unhide HG1), unhide ST1⟩
end Go.Proofs.YtfoncalkgmeklaaGreat

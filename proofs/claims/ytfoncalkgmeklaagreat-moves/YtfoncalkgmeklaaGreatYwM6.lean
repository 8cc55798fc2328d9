import Derived.Test.YtfoncalkgmeklaaGreatYwM5
import Derived.Deep.RegionLaw

/- made: a new object of the document's heap takes its words, and a handle of it: P13. -/
namespace Go.Proofs.YtfoncalkgmeklaaGreat
open Go.RowKit

def R.flagNow (s : R) : Bool := s.flags.getD (s.made % s.flags.length) false
/-- Behind the flag's look: whether all is collected first. -/
def R.made1 (s : R) : R := { s with made := s.made + 1 }
def R.made2 (s : R) : R := if s.flagNow then { s.made1 with row := s.made1.reach } else s.made1
def R.made3 (s : R) (n : Int) : R := if usedOf s.objs s.made2.row + n > s.limit then { s.made2 with row := s.made2.reach } else s.made2
def R.push (s : R) (o : RObj) : R := { s with objs := s.objs ++ [o], row := s.row ++ [s.objs.length] }
def R.make (s : R) (o : RObj) : Int × Int × R :=
  match s.free? with
  | none => (0, 11, s)
  | some _ =>
    if usedOf s.objs (s.made3 (oWords o)).row + oWords o > s.limit then (0, 12, { s.made3 (oWords o) with dead := true })
    else ((s.made3 (oWords o)).push o).handle s.objs.length s.scopes

theorem RInv.withRow {s : R} (hi : RInv s) {row : List Nat} (hg : Good s row) : RInv { s with row := row } :=
  ⟨hi.limit, hi.nflags, hi.kinds, hg.lt, hg.len, hi.nums, hi.vals, hi.valLen, hi.scopes⟩
theorem RInv.made1 {s : R} (hi : RInv s) : RInv s.made1 := ⟨hi.limit, hi.nflags, hi.kinds, hi.rows, hi.rowLen, hi.nums, hi.vals, hi.valLen, hi.scopes⟩
theorem RInv.made2 {s : R} (hi : RInv s) : RInv s.made2 := by
  unfold R.made2
  split
  · exact hi.made1.withRow (Good.reach hi.made1)
  · exact hi.made1
theorem RInv.made3 {s : R} (hi : RInv s) (n : Int) : RInv (s.made3 n) := by
  unfold R.made3
  split
  · exact hi.made2.withRow (Good.reach hi.made2)
  · exact hi.made2
theorem made2_objs (s : R) : s.made2.objs = s.objs ∧ s.made2.handles = s.handles ∧ s.made2.limit = s.limit ∧ s.made2.flags = s.flags ∧ s.made2.scopes = s.scopes ∧ s.made2.dead = s.dead ∧ s.made2.made = s.made + 1 := by
  unfold R.made2; split <;> exact ⟨rfl, rfl, rfl, rfl, rfl, rfl, rfl⟩
theorem made3_objs (s : R) (n : Int) : (s.made3 n).objs = s.objs ∧ (s.made3 n).handles = s.handles ∧ (s.made3 n).limit = s.limit ∧ (s.made3 n).flags = s.flags ∧ (s.made3 n).scopes = s.scopes ∧ (s.made3 n).dead = s.dead ∧ (s.made3 n).made = s.made + 1 := by
  unfold R.made3; split <;> exact made2_objs s

theorem RInv.push {s : R} (hi : RInv s) {o : RObj} (hk : 1 ≤ o.kind ∧ o.kind ≤ 3 ∧ 0 ≤ o.size ∧ o.size ≤ 64 ∧ (o.kind ≠ 2 → o.size ≤ 16)) (hv : ∀ v ∈ o.vals, 0 ≤ v.1 ∧ v.1 ≤ 2 ∧ (v.1 = 2 → 0 ≤ v.2 ∧ v.2 < s.objs.length)) (hvl : o.vals.length ≤ 16) : RInv (s.push o) := by
  refine ⟨hi.limit, hi.nflags, ?_, ?_, ?_, ?_, ?_, ?_, hi.scopes⟩
  · intro x hx
    rcases List.mem_append.1 hx with h | h
    · exact hi.kinds x h
    · simp at h; subst h; exact hk
  · intro i hx
    show i < (s.objs ++ [o]).length
    rcases List.mem_append.1 hx with h | h
    · have := hi.rows i h; simp; omega
    · simp at h; simp; omega
  · show (s.row ++ [s.objs.length]).length ≤ (s.objs ++ [o]).length
    have := hi.rowLen
    simp; omega
  · intro h hh
    have := hi.nums h hh
    refine ⟨this.1, this.2.1, ?_⟩
    show h.obj < (s.objs ++ [o]).length
    simp; omega
  · intro x hx v hvx
    have fin : ∀ v : Int × Int, (0 ≤ v.1 ∧ v.1 ≤ 2 ∧ (v.1 = 2 → 0 ≤ v.2 ∧ v.2 < s.objs.length)) → 0 ≤ v.1 ∧ v.1 ≤ 2 ∧ (v.1 = 2 → 0 ≤ v.2 ∧ v.2 < (s.objs ++ [o]).length) := by
      intro v hv
      refine ⟨hv.1, hv.2.1, fun h2 => ?_⟩
      have := hv.2.2 h2
      simp; omega
    rcases List.mem_append.1 hx with h | h
    · exact fin v (hi.vals x h v hvx)
    · simp at h; subst h; exact fin v (hv v hvx)
  · intro x hx
    rcases List.mem_append.1 hx with h | h
    · exact hi.valLen x h
    · simp at h; subst h; exact hvl

theorem infoObjP : (Tryz.prog.info? 68).map (fun i => (i.zero, i.size, i.bytes)) = some (some (.pointer none), 1, 8) := by kernel_rfl

/-- What made is told of its object: it lies in blocks of its own. -/
structure Fresh (w : World) (br : Nat) (L : RL) (o : RObj) (b : Nat) (va : Option Addr) (vc : Nat) : Prop where
  blk : Blk w b (objCells o (.slice va o.vals.length vc)) 72
  own : w.ownsRow 0 33 2 (.slice va o.vals.length vc) o.vals.length (valCells o.vals)
  obs : b ∉ L.foot br
  vas : ∀ x ∈ ab va, x ∉ L.foot br
theorem Fresh.stp {w w' : World} {br : Nat} {L L' : RL} {o : RObj} {b : Nat} {va : Option Addr} {vc : Nat} (h : Fresh w br L o b va vc) (k : Stp (L.foot br) w (L'.foot br) w') : Fresh w' br L' o b va vc := by
  refine ⟨h.blk.chg k.chg h.obs, owns_chg h.own k.chg (fun g hg => h.vas g (ownBlock_ab hg)), fun hb => ?_, fun x hx hb => ?_⟩
  · rcases k.foot b hb with h1 | h1
    · exact h.obs h1
    · have := h.blk.lt; omega
  · rcases k.foot x hb with h1 | h1
    · exact h.vas x hx h1
    · obtain ⟨c, f, e⟩ := owns_ty h.own x hx
      have : x < w.heap.size := by
        rcases Nat.lt_or_ge x w.heap.size with h2 | h2
        · exact h2
        · rw [Array.getElem?_eq_none h2] at e; cases e
      omega

theorem Stp.lift {F F' E : List Nat} {w w' : World} (h : Stp F w F' w') : Stp (F ++ E) w (F' ++ E) w' :=
  ⟨h.chg.mono (fun x hx => by simp [hx]), fun x hx => by
    rcases List.mem_append.1 hx with h1 | h1
    · rcases h.foot x h1 with h2 | h2
      · exact .inl (by simp [h2])
      · exact .inr h2
    · exact .inl (by simp [h1])⟩
theorem step_append_gen {P : Program} (w : World) {ops : Array Oper} {o : Oper} {a : Act} {K : Act → World → Prop} {Q : Exit → Act → World → Prop} {E : Prop} (hgd : o.guard = none) (s x : Operand) (t : TypeId)
    (ho : o.op = .call { callee := .builtin .append, args := #[s, x], argTypes := #[t, t] })
    (e : TypeId) (i : TypeInfo) (z : Value) (size bytes : Nat) (ht : P.underlying t = some (.slice e)) (hi : P.info? e = some i) (hz : i.zero = some z)
    (hsize : i.size = size) (hby : i.bytes = bytes) (hzs : z.cells.size = size) (hsz : 0 < size)
    (v : Value) (n : Nat) (xs : List Value) (hs : a.eval s = v) (hown : w.ownsRow 0 e size v n xs)
    (sa : Option Addr) (m c : Nat) (news : List Value) (hx : a.eval x = .slice sa m c) (hl : news.length = m * size) (hsrc : 0 < m → ∃ ad, sa = some ad ∧ ∀ j u, news[j]? = some u → w.cell? (ad.add j) = some u) (h1 : ∀ u ∈ news, u.oneCell' = true)
    (h63 : n + m ≤ maxLen) (hbytes : (n + m) * bytes ≤ 140737488355328)
    (h : ∀ va cap w', w'.ownsRow 0 e size (.slice va (n + m) cap) (n + m) (xs ++ news) → w.grownBy w' v.ownBlock → (Value.slice va (n + m) cap = .slice none 0 0 ↔ v = .slice none 0 0 ∧ m = 0) →
      ((Value.slice va (n + m) cap).ownBlock = v.ownBlock ∨ (Value.slice va (n + m) cap).ownBlock = some w.heap.size) → K (a.put o.dst (.slice va (n + m) cap)) w') :
    if Region.wanted o (yielded ops a.tmps) = true then Oper.wp P o a w K Q else E := by
  have hw : Region.wanted o (yielded ops a.tmps) = true := by simp [Region.wanted, hgd]
  rw [if_pos hw]
  obtain ⟨v', w', hr, h2, h3, h4, h5⟩ := run_append_gen (P := P) w t o.type e i z size bytes ht hi hz hsize hby hzs hsz v n xs hown sa m c news hl hsrc h1 h63 hbytes
  unfold Oper.wp execOp
  simp only [ho, resolve, invoke, builtin, Sem.run_bind, Sem.run_pure, Result.andThen_ok, List.map_toArray, List.map_cons, List.map_nil, hs, hx, hr]
  obtain ⟨va, cap, rfl⟩ := owns_form h2
  exact h va cap w' h2 h3 h4 h5

set_option maxRecDepth 100000 in
set_option maxHeartbeats 4000000 in
theorem refMade_any {br : Nat} {s : R} {L : RL} {w : World} (o : RObj) (b : Nat) (va : Option Addr) (vc : Nat) (h : RRep w br s L) (hi : RInv s) (hbd : RBd s) (hf : Fresh w br L o b va vc)
    (hk : 1 ≤ o.kind ∧ o.kind ≤ 3 ∧ 0 ≤ o.size ∧ o.size ≤ 64 ∧ (o.kind ≠ 2 → o.size ≤ 16)) (hmd : s.made < 3298534883328) (hmo : s.objs.length < 3298534883328)
    (hvo : ∀ v ∈ o.vals, 0 ≤ v.1 ∧ v.1 ≤ 2 ∧ (v.1 = 2 → 0 ≤ v.2 ∧ v.2 < s.objs.length)) (hvl : o.vals.length ≤ 16) :
    Calls Tryz.prog 76 #[.pointer (some ⟨br, 0, none⟩), .pointer (some ⟨b, 0, none⟩)] w fun e w' => ∃ L', e = .returned (.tuple #[.int .i64 (s.make o).1, .int .i64 (s.make o).2.1]) ∧
      RRep w' br (s.make o).2.2 L' ∧ Stp (L.foot br ++ (b :: ab va)) w (L'.foot br) w' := by
  have hwb := words_bd hk
  unfold oWords at hwb
  have k0 := hf.blk.cell_of (i := 0) rfl
  have k1 := hf.blk.cell_of (i := 1) rfl
  have z3 : 0 ≤ o.size := hk.2.2.1
  have z4 : o.size ≤ 64 := hk.2.2.2.1
  have zw1 : 1 ≤ wordsOf o.kind o.size := hwb.1
  have zw2 : wordsOf o.kind o.size ≤ 66 := hwb.2
  have H := hide h; have HI := hide hi; have HBD := hide hbd; have HFR := hide hf; have HK := hide hk; have HVO := hide hvo; clear h hi hbd hf hk hwb hvo
  cases hfree : s.free? with
  | none =>
    have hfin : s.make o = (0, 11, s) := by simp [R.make, hfree]
    have HFIN := hide hfin; have HFREE := hide hfree; clear hfin hfree
    go_enter Tryz.func76, Tryz.ntmps76
    go_wp2_with fail
    refine (refFree_any (unhide H) (unhide HI) (unhide HBD)).mono ?_
    rintro e w' ⟨rfl, rfl⟩
    rw [unhide HFREE]
    simp only [posOf]
    go_wp2
    go_ret2
    exact ⟨L, by rw [unhide HFIN]; rfl, by rw [unhide HFIN]; exact unhide H, ⟨Chg.refl _ _, fun x hx => .inl (by simp [hx])⟩⟩
  | some sl =>
    have hmk : s.make o = if usedOf s.objs (s.made3 (oWords o)).row + oWords o > s.limit then (0, 12, { s.made3 (oWords o) with dead := true }) else ((s.made3 (oWords o)).push o).handle s.objs.length s.scopes := by simp [R.make, hfree]
    have HMK := hide hmk; have HFREE := hide hfree; clear hmk hfree
    go_enter Tryz.func76, Tryz.ntmps76
    go_wp2_with fail
    refine (refFree_any (unhide H) (unhide HI) (unhide HBD)).mono ?_
    rintro e w' ⟨rfl, rfl⟩
    rw [unhide HFREE]
    simp only [posOf]
    go_wp2_with fail
    go_quiet ((go_at_call 26; refine (refWordsOf_any _ _ _ z3 z4).mono ?_; rintro e w' ⟨rfl, rfl⟩; exact ⟨rfl, _, rfl⟩))
    have h1 := (unhide H).drewN nq
    have hf1 := (unhide HFR).stp (Stp.quiet _ _ nq)
    have st1 : Stp (L.foot br) w' (L.foot br) (w'.drewN nq) := Stp.quiet _ _ nq
    generalize w'.drewN nq = w1 at *
    have c2 := h1.ref.cell_of (i := 2) rfl
    have f2 := h1.ref.frozen 2
    have hu := h1.store (s' := s.made1) 2 (.int .i64 ((s.made : Int) + 1)) rfl rfl rfl rfl (by simp [refCells, R.made1])
    have HU := hide hu; have HF1 := hide hf1; have ST1 := hide st1; clear hu hf1 st1 h1 k0 k1 H HFR
    go_upto_region 7 with fail
    have hf2 := (unhide HF1).stp (unhide HU).2
    have st2 := (unhide ST1).trans (unhide HU).2
    have h2 := (unhide HU).1
    generalize w1.setCell ⟨br, 2, none⟩ (.int .i64 ((s.made : Int) + 1)) = w2 at *
    have H2 := hide h2; have HF2 := hide hf2; have ST2 := hide st2; clear h2 hf2 st2 HU HF1 ST1 c2 f2
    go_cut [54] (fun v wx => v = .bool s.flagNow ∧ RRep wx br s.made1 L ∧ Fresh wx br L o b va vc ∧ Stp (L.foot br) w' (L.foot br) wx)
    case first =>
      have c1 := (unhide H2).ref.cell_of (i := 1) rfl
      have efl : s.made1.flags = s.flags := rfl
      rw [efl] at c1
      by_cases hfl : s.flags.length = 0
      · have hnow : s.flagNow = false := by
          have : s.flags = [] := List.eq_nil_of_length_eq_zero hfl
          simp [R.flagNow, this]
        rw [hfl] at c1
        have HNOW := hide hnow; clear hnow hfl efl
        go_quiet (fail)
        go_wp2_with fail
        go_meet
        exact ⟨by rw [unhide HNOW], (unhide H2).drewN _, (unhide HF2).stp (Stp.quiet _ _ _), (unhide ST2).drewN _⟩
      · have hfp : (0 : Int) < (s.flags.length : Int) := by omega
        have hfn : s.flags.length ≤ 64 := (unhide HI).nflags
        have hdec2 : decide (0 < s.flags.length) = true := by simp; omega
        have hne0 : ¬ ((s.flags.length : Int) = 0) := by omega
        obtain ⟨gf, hgf, _, hcf⟩ := owns_at (unhide H2).flags (by rw [efl]; omega)
        have hlt : s.made % s.flags.length < s.flags.length := Nat.mod_lt _ (by omega)
        have cf : w2.cell? ⟨gf, s.made % s.flags.length, none⟩ = some (.bool s.flagNow) := hcf _ _ (by
          rw [efl]
          unfold R.flagNow
          simp [List.getD, hlt])
        have hmod : (s.made : Int) % (s.flags.length : Int) = ((s.made % s.flags.length : Nat) : Int) := by simp
        rw [hgf] at c1
        generalize s.made % s.flags.length = mm at *
        generalize s.flagNow = fn at *
        have hmi : (mm : Int) < (s.flags.length : Int) := by omega
        have hmi0 : (0 : Int) ≤ (mm : Int) := by omega
        clear hfl efl hgf hcf
        go_quiet (fail)
        go_wp2_with fail
        go_meet
        exact ⟨rfl, (unhide H2).drewN _, (unhide HF2).stp (Stp.quiet _ _ _), (unhide ST2).drewN _⟩
    case rest =>
      obtain ⟨rfl, h3, hf3, st3⟩ := hcut
      have H3 := hide h3; have HF3 := hide hf3; have ST3 := hide st3; clear h3 hf3 st3 H2 HF2 ST2
      go_upto_if 54 with fail
      go_cut [] (fun wx => ∃ L2, RRep wx br s.made2 L2 ∧ Fresh wx br L2 o b va vc ∧ Stp (L.foot br) w' (L2.foot br) wx)
      case first =>
        cases hnow : s.flagNow
        · have e2 : s.made2 = s.made1 := by simp [R.made2, hnow]
          have E2 := hide e2; clear e2
          go_wp2_with fail
          go_meet
          exact ⟨L, by rw [unhide E2]; exact unhide H3, unhide HF3, unhide ST3⟩
        · have e2 : s.made2 = { s.made1 with row := s.made1.reach } := by simp [R.made2, hnow]
          have E2 := hide e2; clear e2
          go_wp2_with fail
          refine (refReach_any (unhide H3) (unhide HI).made1 ⟨(unhide HBD).objs, (unhide HBD).handles, hmd⟩).mono ?_
          rintro e w4 ⟨a4, n4, c4, rfl, ho4⟩
          have hu4 := (unhide H3).setRow ho4
          have c5 := ((unhide H3).ref.chg ho4.chg (by simp)).cell_of (i := 5) rfl
          have f5 := ((unhide H3).ref.chg ho4.chg (by simp)).frozen 5
          have HU4 := hide hu4; clear hu4 ho4
          go_wp2_with fail
          go_meet
          exact ⟨_, by rw [unhide E2]; exact (unhide HU4).1, (unhide HF3).stp (unhide HU4).2, (unhide ST3).trans (unhide HU4).2⟩
      case rest =>
        obtain ⟨L4, h4, hf4, st4⟩ := hcut
        have c5 := h4.ref.cell_of (i := 5) rfl
        have hI2 := (unhide HI).made2
        have hrl : s.made2.row.length ≤ 3298534883328 := by have h1 := hI2.rowLen; rw [(made2_objs s).1] at h1; omega
        have hub := used_bd hI2 s.made2.row hI2.rows
        rw [(made2_objs s).1] at hub
        have zu1 : 0 ≤ usedOf s.objs s.made2.row := hub.1
        have zu2 : usedOf s.objs s.made2.row ≤ 66 * 3298534883328 := by have := hub.2; omega
        have H4 := hide h4; have HF4 := hide hf4; have ST4 := hide st4; have HI2 := hide hI2; clear h4 hf4 st4 hI2 hub H3 HF3 ST3
        go_wp2_with fail
        refine (refUsed_any _ _ _ s.made2.row (unhide H4) (unhide HI2) (unhide H4).row (unhide HI2).rows hrl).mono ?_
        rintro e w5 ⟨rfl, q5, hw5⟩
        have h5 : RRep w5 br s.made2 L4 := by rw [hw5]; exact (unhide H4).drewN q5
        have hf5 : Fresh w5 br L4 o b va vc := by rw [hw5]; exact (unhide HF4).stp (Stp.quiet _ _ _)
        have st5 : Stp (L.foot br) w' (L4.foot br) w5 := by rw [hw5]; exact (unhide ST4).drewN _
        rw [(made2_objs s).1]
        have c0 := h5.ref.cell_of (i := 0) rfl
        rw [(made2_objs s).2.2.1] at c0
        have zl1 : 1 ≤ s.limit := (unhide HI).limit.1
        have zl2 : s.limit ≤ 512 := (unhide HI).limit.2
        have H5 := hide h5; have HF5 := hide hf5; have ST5 := hide st5; clear h5 hf5 st5 hw5 H4 HF4 ST4 c5
        have e3 : s.made3 (oWords o) = if usedOf s.objs s.made2.row + wordsOf o.kind o.size > s.limit then { s.made2 with row := s.made2.reach } else s.made2 := rfl
        generalize hU2 : usedOf s.objs s.made2.row = U2 at *
        have E3 := hide e3; have HU2 := hide hU2; clear e3 hU2
        go_upto_if 73 with fail
        go_cut [9] (fun v wx => v = .int .i64 (usedOf s.objs (s.made3 (oWords o)).row) ∧ ∃ L5, RRep wx br (s.made3 (oWords o)) L5 ∧ Fresh wx br L5 o b va vc ∧ Stp (L.foot br) w' (L5.foot br) wx)
        case first =>
          by_cases hgt : s.limit < U2 + wordsOf o.kind o.size
          · have e4 : s.made3 (oWords o) = { s.made2 with row := s.made2.reach } := by rw [unhide E3, if_pos hgt]
            have E4 := hide e4; clear e4
            have hdec : decide (s.limit < U2 + wordsOf o.kind o.size) = true := by simpa using hgt
            go_wp2_with fail
            refine (refReach_any (unhide H5) (unhide HI2) ⟨by rw [(made2_objs s).1]; exact (unhide HBD).objs, by rw [(made2_objs s).2.1]; exact (unhide HBD).handles, by rw [(made2_objs s).2.2.2.2.2.2]; exact hmd⟩).mono ?_
            rintro e w6 ⟨a6, n6, c6, rfl, ho6⟩
            have hu6 := (unhide H5).setRow ho6
            have c5 := ((unhide H5).ref.chg ho6.chg (by simp)).cell_of (i := 5) rfl
            have f5 := ((unhide H5).ref.chg ho6.chg (by simp)).frozen 5
            have hn6 : n6 ≤ 3298534883328 := by
              have h1 := ho6.len
              have h2 := (Good.reach (unhide HI2)).len
              rw [(made2_objs s).1] at h2
              simp [natInts] at h1
              omega
            have hl6 : s.made2.reach.length = n6 := by have := ho6.len; simpa [natInts] using this
            have HU6 := hide hu6; have HL6 := hide hl6; clear hu6 ho6 c0 hl6
            go_wp2_with fail
            have hu7 := unhide HU6
            refine (refUsed_any a6 n6 c6 s.made2.reach hu7.1 ((unhide HI2).withRow (Good.reach (unhide HI2))) (by have := hu7.1.row; rw [show ({ s.made2 with row := s.made2.reach } : R).row.length = n6 from unhide HL6] at this; exact this) (by exact (Good.reach (unhide HI2)).lt) hn6).mono ?_
            rintro e w7 ⟨rfl, q7, hw7⟩
            have hfin7 : ∃ L5, RRep w7 br (s.made3 (oWords o)) L5 ∧ Fresh w7 br L5 o b va vc ∧ Stp (L.foot br) w' (L5.foot br) w7 := by
              refine ⟨_, by rw [hw7, unhide E4]; exact (unhide HU6).1.drewN q7, ?_, ?_⟩
              · rw [hw7]; exact ((unhide HF5).stp (unhide HU6).2).stp (Stp.quiet _ _ _)
              · rw [hw7]; exact ((unhide ST5).trans (unhide HU6).2).drewN _
            have HFIN7 := hide hfin7; clear hfin7 hw7
            go_wp2_with fail
            go_meet
            exact ⟨by rw [unhide E4]; exact congrArg (fun z => Value.int .i64 (usedOf z s.made2.reach)) (made2_objs s).1, unhide HFIN7⟩
          · have e4 : s.made3 (oWords o) = s.made2 := by rw [unhide E3, if_neg hgt]
            have E4 := hide e4; clear e4
            have hdec : decide (s.limit < U2 + wordsOf o.kind o.size) = false := by simpa using hgt
            go_wp2_with fail
            go_meet
            exact ⟨by rw [unhide E4, unhide HU2], L4, by rw [unhide E4]; exact unhide H5, unhide HF5, unhide ST5⟩
        case rest =>
          obtain ⟨rfl, L6, h6, hf6, st6⟩ := hcut
          have hI3 := (unhide HI).made3 (oWords o)
          have hub := used_bd hI3 (s.made3 (oWords o)).row hI3.rows
          have hrl3 : (s.made3 (oWords o)).row.length ≤ 3298534883328 := by have h1 := hI3.rowLen; rw [(made3_objs s _).1] at h1; omega
          rw [(made3_objs s _).1] at hub
          have zv1 : 0 ≤ usedOf s.objs (s.made3 (oWords o)).row := hub.1
          have zv2 : usedOf s.objs (s.made3 (oWords o)).row ≤ 66 * 3298534883328 := by have := hub.2; omega
          have c0 := h6.ref.cell_of (i := 0) rfl
          rw [(made3_objs s _).2.2.1] at c0
          have hmk := unhide HMK
          rw [show oWords o = wordsOf o.kind o.size from rfl] at hmk zv1 zv2 h6 hI3 hrl3 ⊢
          generalize hS3 : s.made3 (wordsOf o.kind o.size) = s3 at *
          have m3 := made3_objs s (wordsOf o.kind o.size)
          rw [hS3] at m3
          generalize hU3 : usedOf s.objs s3.row = U3 at *
          have H6 := hide h6; have HF6 := hide hf6; have ST6 := hide st6; have HI3 := hide hI3; have HMK2 := hide hmk; have M3 := hide m3
          clear h6 hf6 st6 hI3 hmk m3 hub hS3 hU3 HMK H5 HF5 ST5 HI2 HU2 E3 hrl
          by_cases hgt : s.limit < U3 + wordsOf o.kind o.size
          · have hfin : s.make o = (0, 12, { s3 with dead := true }) := by rw [unhide HMK2, if_pos hgt]
            have c3 := (unhide H6).ref.cell_of (i := 3) rfl
            have f3 := (unhide H6).ref.frozen 3
            have hu := (unhide H6).store (s' := { s3 with dead := true }) 3 (.bool true) rfl rfl rfl rfl (by simp [refCells])
            have HU := hide hu; have HFIN := hide hfin; clear hu hfin HMK2
            go_wp2
            go_ret2
            refine ⟨L6, by rw [unhide HFIN]; rfl, by rw [unhide HFIN]; exact (unhide HU).1, ?_⟩
            have := (unhide ST6).trans (unhide HU).2
            exact ⟨this.chg.mono (fun x hx => by simp [hx]), fun x hx => (this.foot x hx).imp (fun h => by simp [h]) id⟩
          · have hfin : s.make o = (s3.push o).handle s.objs.length s.scopes := by rw [unhide HMK2, if_neg hgt]
            have HFIN := hide hfin; clear hfin HMK2
            obtain ⟨ip, hip, hp0, hp1, hp2⟩ := info_parts infoObjP
            have c4 := (unhide H6).ref.cell_of (i := 4) rfl
            have hol3 : s3.objs.length = s.objs.length := by rw [(unhide M3).1]
            have HOL := hide hol3
            rw [hol3] at c4
            clear hol3
            go_wp2_with (at_builtin; go_must (refine wpList_append_gen _ rfl (.tmp 100) (.tmp 102) 50 rfl 68 ip (.pointer none) 1 8 Tryz.underlying50 hip hp0 hp1 hp2 rfl (by decide) (.slice L6.oa s.objs.length L6.oc) s.objs.length (L6.obs.map ptr) rfl ?c0 (some ⟨wc.heap.size, 0, none⟩) 1 1 [ptr b] rfl rfl ?c1 ?c4 ?c2 ?c3 ?_))
            case c0 => have := (unhide H6).objs; rw [unhide HOL] at this; exact World.ownsRow.alloc this _
            case c1 => first | exact fun _ => ⟨_, rfl, fun j u hj => by rw [addr_add, Nat.zero_add]; exact (Blk.new wc [ptr b] 68).cell_of hj⟩ | exact fun j u hj => hj
            case c4 => first | rfl | (intro u hu; simp at hu; subst hu; rfl)
            case c2 => unfold maxLen; omega
            case c3 => omega
            intro va7 cap7 w7 ho7 hg7 hat7
            have hfr6 := unhide HF6
            have hpo := (unhide H6).pushObj o b va vc (va := va7) (cap := cap7) (H := wc.heap.size + 1) ((Chg.refl [] wc).alloc (.cells #[ptr b] 68)) hfr6.blk hfr6.own (fun hb => hfr6.obs (foot_obs hb)) (fun v hv x hx hx2 => hfr6.vas x hx2 (foot_vas hv hx))
              (by rw [unhide HOL]; exact ho7) (by rw [unhide HOL]; exact hg7) (Nat.le_succ _) (by rw [unhide HOL]; exact hat7)
            have hbr7 : Blk w7 br _ 53 := (unhide H6).ref.chg_ty (grown_ab (S := []) ((Chg.refl [] wc).alloc (.cells #[ptr b] 68)) hg7) (fun x hx => (owns_ty (unhide H6).objs x hx).ne (by decide))
            have c4' := hbr7.cell_of (i := 4) rfl
            have f4' := hbr7.frozen 4
            rw [unhide HOL] at hpo c4'
            have HPO := hide hpo; clear hpo hbr7 ho7 hg7 hat7 c4 hfr6 c0
            go_upto_region 17 with fail
            have h8 := (unhide HPO).1
            have st8 : Stp (L.foot br ++ (b :: ab va)) w' (({ L6 with oa := va7, oc := cap7, obs := L6.obs ++ [b], vas := L6.vas ++ [(va, vc)] } : RL).foot br) (w7.setCell ⟨br, 4, none⟩ (.slice va7 (s.objs.length + 1) cap7)) := by
              have hst := (unhide ST6).lift (E := b :: ab va)
              refine hst.trans ⟨(unhide HPO).2.1.mono (fun x hx => ?_), ?_⟩
              · rcases List.mem_cons.1 hx with rfl | hx
                · exact List.mem_append_left _ (foot_br _ _)
                · exact List.mem_append_left _ (foot_oa hx)
              · intro x hx
                rcases foot_cases hx with rfl | hx | hx | hx | hx | hx | ⟨v, hv, hx⟩
                · exact .inl (List.mem_append_left _ (foot_br _ _))
                · exact .inl (List.mem_append_left _ (foot_fa hx))
                · rcases (unhide HPO).2.2 x hx with h1 | h1
                  · exact .inl (List.mem_append_left _ (foot_oa h1))
                  · exact .inr h1
                · exact .inl (List.mem_append_left _ (foot_ra hx))
                · exact .inl (List.mem_append_left _ (foot_ha hx))
                · rcases List.mem_append.1 hx with h1 | h1
                  · exact .inl (List.mem_append_left _ (foot_obs h1))
                  · simp at h1; subst h1; exact .inl (by simp)
                · rcases List.mem_append.1 hv with h1 | h1
                  · exact .inl (List.mem_append_left _ (foot_vas h1 hx))
                  · simp at h1; subst h1; exact .inl (by simp [hx])
            generalize hL8 : ({ L6 with oa := va7, oc := cap7, obs := L6.obs ++ [b], vas := L6.vas ++ [(va, vc)] } : RL) = L8 at *
            generalize hs8 : ({ s3 with objs := s3.objs ++ [o] } : R) = s8 at *
            generalize w7.setCell ⟨br, 4, none⟩ (.slice va7 (s.objs.length + 1) cap7) = w8 at *
            have hl8 : s8.objs.length = s.objs.length + 1 := by rw [← hs8]; simp [(unhide M3).1]
            have hr8 : s8.row = s3.row := by rw [← hs8]
            have c4 := h8.ref.cell_of (i := 4) rfl
            have c5 := h8.ref.cell_of (i := 5) rfl
            have f5 := h8.ref.frozen 5
            rw [hl8] at c4
            rw [hr8] at c5
            have H8 := hide h8; have ST8 := hide st8; have HS8 := hide hs8; have HL8 := hide hl8; have HR8 := hide hr8
            clear h8 st8 hs8 hl8 hr8 hL8 HPO H6 HF6 ST6 c4' f4'
            have hrow8 : w8.ownsRow 0 3 1 (.slice L8.ra s3.row.length L8.rc) s3.row.length (rowCells s3.row) := by have := (unhide H8).row; rw [unhide HR8] at this; exact this
            have HROW8 := hide hrow8; clear hrow8
            obtain ⟨i0, hi0, hz0, hz1, hz2⟩ := info_parts info3
            go_cut [] (fun wx => ∃ L9, RRep wx br (s3.push o) L9 ∧ Stp (L.foot br ++ (b :: ab va)) w' (L9.foot br) wx)
            case first =>
              have hwr : IntKind.i64.wrap (s.objs.length : Int) = (s.objs.length : Int) := by rw [IntKind.wrap_i64]; omega
              have hblk9 : Blk (w8.alloc (.cells #[.int .i64 (s.objs.length : Int)] 3)).drew w8.heap.size (rowCells [s.objs.length]) 3 := Blk.new w8 (rowCells [s.objs.length]) 3
              have hown9 : Hid ((w8.alloc (.cells #[.int .i64 (s.objs.length : Int)] 3)).drew.ownsRow 0 3 1 (.slice L8.ra s3.row.length L8.rc) s3.row.length (rowCells s3.row)) := World.ownsRow.drew (World.ownsRow.alloc (unhide HROW8) _)
              have hsrc9 : Hid (0 < 1 → ∃ ad, some (⟨w8.heap.size, 0, none⟩ : Addr) = some ad ∧ ∀ j u, (rowCells [s.objs.length])[j]? = some u → (w8.alloc (.cells #[.int .i64 (s.objs.length : Int)] 3)).drew.cell? (ad.add j) = some u) :=
                fun _ => ⟨_, rfl, fun j u hj => by rw [addr_add, Nat.zero_add]; exact hblk9.cell_of hj⟩
              have hone9 : Hid (∀ u ∈ rowCells [s.objs.length], u.oneCell' = true) := by intro u hu; simp [rowCells] at hu; subst hu; rfl
              have hmx : Hid (s3.row.length + 1 ≤ maxLen ∧ (s3.row.length + 1) * 8 ≤ 140737488355328) := ⟨by unfold maxLen; omega, by omega⟩
              have hbrn : Hid (∀ w9, (w8.alloc (.cells #[.int .i64 (s.objs.length : Int)] 3)).drew.grownBy w9 (Value.slice L8.ra s3.row.length L8.rc).ownBlock → w9.cell? ⟨br, 5, none⟩ = some (.slice L8.ra s3.row.length L8.rc) ∧ w9.frozen? ⟨br, 5, none⟩ = false) := by
                intro w9 hg9
                have hb9 : Blk w9 br _ 53 := (unhide H8).ref.chg_ty (grown_ab (S := []) ((Chg.refl [] w8).alloc _).drew hg9) (fun x hx => (owns_ty (unhide HROW8) x hx).ne (by decide))
                have h5 := hb9.cell_of (i := 5) rfl
                rw [unhide HR8] at h5
                exact ⟨h5, hb9.frozen 5⟩
              have c5a : (w8.alloc (.cells #[.int .i64 (s.objs.length : Int)] 3)).cell? ⟨br, 5, none⟩ = some (.slice L8.ra s3.row.length L8.rc) := by rw [((Chg.refl [] w8).alloc _).cell (unhide H8).ref.lt (by simp)]; exact c5
              clear hblk9
              go_region_law ((refine step_append_gen _ (by rfl) (.tmp 110) (.tmp 117) 26 (by rfl) 3 i0 (.int .i64 0) 1 8 Tryz.underlying26 hi0 hz0 hz1 hz2 (by rfl) (by decide) (.slice L8.ra s3.row.length L8.rc) s3.row.length (rowCells s3.row) (by rfl) (unhide hown9) (some ⟨w8.heap.size, 0, none⟩) 1 1 (rowCells [s.objs.length]) (by rfl) (by rfl) (unhide hsrc9) (unhide hone9) (unhide hmx).1 (unhide hmx).2 ?_; intro va9 cap9 w9 ho9 hg9 hnil9 hat9; have c9 := (unhide hbrn w9 hg9).1; have f9 := (unhide hbrn w9 hg9).2; have HO9 := hide ho9; have HG9 := hide hg9; have HAT9 := hide hat9; clear ho9 hg9 hat9 hnil9))
              all_goals
                go_wp2_with fail
                go_meet
                have hs8 := unhide HS8
                have hpr := (unhide H8).pushRow s.objs.length (w0 := (w8.alloc (.cells #[.int .i64 (s.objs.length : Int)] 3)).drew) ((Chg.refl [] w8).alloc _).drew (va := va9) (cap := cap9) (H := (w8.alloc (.cells #[.int .i64 (s.objs.length : Int)] 3)).drew.heap.size) (by rw [unhide HR8]; exact unhide HO9) (by rw [unhide HR8]; exact unhide HG9) (by show w8.heap.size ≤ (w8.heap.push _).size; simp) (by rw [unhide HR8]; exact unhide HAT9)
                rw [unhide HR8] at hpr
                have hpe : ({ s8 with row := s3.row ++ [s.objs.length] } : R) = s3.push o := by rw [← hs8]; unfold R.push; rw [(unhide M3).1]
                rw [hpe] at hpr
                exact ⟨_, hpr.1, (unhide ST8).trans hpr.2⟩
            case rest =>
              obtain ⟨L9, h9, st9⟩ := hcut
              have hIp : RInv (s3.push o) := (unhide HI3).push (unhide HK) (by rw [(unhide M3).1]; exact unhide HVO) hvl
              have hBp : RBd (s3.push o) := by
                have m3 := unhide M3
                refine ⟨?_, ?_, ?_⟩
                · show (s3.objs ++ [o]).length ≤ _; rw [m3.1]; simp; omega
                · show s3.handles.length ≤ _; rw [m3.2.1]; exact (unhide HBD).handles
                · show s3.made ≤ _; rw [m3.2.2.2.2.2.2]; omega
              have hlp : (s3.push o).objs.length = s.objs.length + 1 := by show (s3.objs ++ [o]).length = _; rw [(unhide M3).1]; simp
              have hsp : (s3.push o).scopes = s.scopes := (unhide M3).2.2.2.2.1
              have c4 := h9.ref.cell_of (i := 4) rfl
              have c7 := h9.ref.cell_of (i := 7) rfl
              rw [hlp] at c4
              rw [hsp] at c7
              have hdr : Chg [] wc wc.drew := (Chg.refl [] wc).drew
              have hcall : Hid (Calls Tryz.prog 108 #[.pointer (some ⟨br, 0, none⟩), .int .i64 (s.objs.length : Int), .int .i64 s.scopes] wc.drew fun e w' => ∃ L', e = .returned (.tuple #[.int .i64 ((s3.push o).handle s.objs.length s.scopes).1, .int .i64 ((s3.push o).handle s.objs.length s.scopes).2.1]) ∧
                RRep w' br ((s3.push o).handle s.objs.length s.scopes).2.2 L' ∧ Stp (L9.foot br) wc.drew (L'.foot br) w') := refHandle_any s.objs.length s.scopes (h9.chg hdr (by simp)) hIp hBp
              have ST9 := hide st9; clear h9 st9 hIp hBp hlp hsp hdr H8 ST8
              have hwr : IntKind.i64.wrap (s.objs.length : Int) = (s.objs.length : Int) := by rw [IntKind.wrap_i64]; omega
              go_wp2_with fail
              go_region_with (go_at_call 108; refine (unhide hcall).mono ?_; rintro e w10 ⟨L10, rfl, h10, st10⟩; have H10 := hide h10; have ST10 := hide st10; clear h10 st10)
              all_goals go_wp2
              all_goals go_ret2
              all_goals
                refine ⟨L10, by rw [unhide HFIN]; rfl, by rw [unhide HFIN]; exact unhide H10, ?_⟩
                exact (unhide ST9).trans ((⟨((Chg.refl _ wc).drew), fun x hx => .inl hx⟩ : Stp (L9.foot br) wc (L9.foot br) wc.drew).trans (unhide ST10))
end Go.Proofs.YtfoncalkgmeklaaGreat

/- Array, Bytes, Table of the document's heap. -/
namespace Go.Proofs.YtfoncalkgmeklaaGreat
open Go.RowKit

def mkArray (n : Int) : RObj := ⟨1, n, List.replicate n.toNat (0, 0), ⟨#[]⟩⟩
def mkBytes (t : ByteArray) : RObj := ⟨2, t.size, [], t⟩
def mkTable (n : Int) : RObj := ⟨3, n, [], ⟨#[]⟩⟩
def R.arrayQ (s : R) (n : Int) : Int × Int × R := if s.dead then (0, 2, s) else if n < 0 ∨ 16 < n then (0, 6, s) else s.make (mkArray n)
def R.bytesQ (s : R) (t : ByteArray) : Int × Int × R := if s.dead then (0, 2, s) else if 64 < t.size then (0, 6, s) else s.make (mkBytes t)
def R.tableQ (s : R) (n : Int) : Int × Int × R := if s.dead then (0, 2, s) else if n < 0 ∨ 8 < n then (0, 6, s) else s.make (mkTable n)

theorem infoVal : (Tryz.prog.info? 33).map (fun i => (i.zero, i.size, i.bytes)) = some (some (.agg #[.int .i64 0, .int .i64 0]), 2, 16) := by kernel_rfl
theorem valCells_zero (n : Nat) : madeCells #[.int .i64 0, .int .i64 0] (n * 2) = (valCells (List.replicate n (0, 0))).toArray := by
  apply Array.ext
  · simp [madeCells, length_valCells]
  · intro i h1 h2
    have e : ∀ (m j : Nat), j < m * 2 → (valCells (List.replicate m (0, 0)))[j]? = some (.int .i64 0) := by
      intro m
      induction m with
      | zero => intro j hj; omega
      | succ m ih =>
        intro j hj
        rw [List.replicate_succ]
        simp only [valCells]
        match j with
        | 0 => rfl
        | 1 => rfl
        | j + 2 => exact ih j (by omega)
    have hi : i < n * 2 := by simpa [madeCells] using h1
    have e1 := e n i hi
    have e2 : (madeCells #[.int .i64 0, .int .i64 0] (n * 2))[i]? = some (.int .i64 0) := by
      simp only [madeCells, Array.getElem?_map]
      rw [Array.getElem?_range, if_pos hi]
      have : i % 2 = 0 ∨ i % 2 = 1 := by omega
      rcases this with h | h <;> simp [h]
    rw [Array.getElem?_eq_getElem h1] at e2
    rw [List.getElem?_eq_getElem (by simpa using h2)] at e1
    simp at e1 e2
    simp [e1, e2]

/-- What a fresh object is to made. -/
theorem fresh_new {w w' : World} {br : Nat} {s : R} {L : RL} (h : RRep w br s L) {o : RObj} {b : Nat} {va : Option Addr} {vc : Nat} (hb : Blk w' b (objCells o (.slice va o.vals.length vc)) 72) (ho : w'.ownsRow 0 33 2 (.slice va o.vals.length vc) o.vals.length (valCells o.vals))
    (hbn : w.heap.size ≤ b) (hvn : ∀ x ∈ ab va, w.heap.size ≤ x) : Fresh w' br L o b va vc :=
  ⟨hb, ho, fun hm => by have := h.lt b hm; omega, fun x hx hm => by have := h.lt x hm; have := hvn x hx; omega⟩
theorem stp_new {w w1 w2 : World} {F E F' : List Nat} (hc : Chg [] w w1) (hE : ∀ x ∈ E, w.heap.size ≤ x) (hs : Stp (F ++ E) w1 F' w2) : Stp F w F' w2 := by
  refine ⟨Chg.trans_new (hc.mono (by simp)) hs.chg (fun x hx => ?_), fun x hx => ?_⟩
  · rcases List.mem_append.1 hx with h | h
    · exact .inl h
    · exact .inr (hE x h)
  · rcases hs.foot x hx with h | h
    · rcases List.mem_append.1 h with h | h
      · exact .inl h
      · exact .inr (hE x h)
    · exact .inr (Nat.le_trans hc.size h)

set_option maxRecDepth 100000 in
set_option maxHeartbeats 1000000 in
theorem refArray_any {br : Nat} {s : R} {L : RL} {w : World} (n : Int) (h : RRep w br s L) (hi : RInv s) (hbd : RBd s) (hmd : s.made < 3298534883328) (hmo : s.objs.length < 3298534883328) :
    Calls Tryz.prog 28 #[.pointer (some ⟨br, 0, none⟩), .int .i64 n] w fun e w' => ∃ L', e = .returned (.tuple #[.int .i64 (s.arrayQ n).1, .int .i64 (s.arrayQ n).2.1]) ∧ RRep w' br (s.arrayQ n).2.2 L' ∧ Stp (L.foot br) w (L'.foot br) w' := by
  have c3 := h.ref.cell_of (i := 3) rfl
  have H := hide h; have HI := hide hi; have HBD := hide hbd; clear h hi hbd
  cases hd : s.dead with
  | true =>
    have hfin : s.arrayQ n = (0, 2, s) := by simp [R.arrayQ, hd]
    rw [hd] at c3
    have HFIN := hide hfin; clear hfin hd
    go_enter Tryz.func28, Tryz.ntmps28
    go_wp2
    go_ret2
    exact ⟨L, by rw [unhide HFIN]; rfl, by rw [unhide HFIN]; exact unhide H, Stp.refl _ _⟩
  | false =>
    rw [hd] at c3
    by_cases hn : n < 0 ∨ 16 < n
    · have hfin : s.arrayQ n = (0, 6, s) := by simp [R.arrayQ, hd, hn]
      have HFIN := hide hfin; clear hfin hd
      go_enter Tryz.func28, Tryz.ntmps28
      rcases hn with hn | hn
      · go_wp2
        go_ret2
        exact ⟨L, by rw [unhide HFIN]; rfl, by rw [unhide HFIN]; exact unhide H, Stp.refl _ _⟩
      · have h0 : 0 ≤ n := by omega
        go_wp2
        go_ret2
        exact ⟨L, by rw [unhide HFIN]; rfl, by rw [unhide HFIN]; exact unhide H, Stp.refl _ _⟩
    · have hfin : s.arrayQ n = s.make (mkArray n) := by simp [R.arrayQ, hd, hn]
      have HFIN := hide hfin; clear hfin hd
      have h0 : 0 ≤ n := by omega
      have h16 : n ≤ 16 := by omega
      clear hn
      obtain ⟨m, rfl⟩ := Int.eq_ofNat_of_zero_le h0
      obtain ⟨i0, hi0, hz0, hz1, hz2⟩ := info_parts infoVal
      have hmk : ∀ u : World, (Instr.makeSlice 70 (.int .i64 (m : Int)) (.int .i64 (m : Int))).run Tryz.prog u =
          .ok (.slice (some ⟨u.heap.size, 0, none⟩) m m) (u.alloc (.cells (valCells (List.replicate m (0, 0))).toArray 33)) := fun u => by
        have h := run_make (P := Tryz.prog) u 70 33 i0 (.agg #[.int .i64 0, .int .i64 0]) Tryz.underlying70 hi0 hz0 .i64 .i64 (m : Int) (m : Int) h0 (Int.le_refl _) (by rw [hz2]; omega) (by omega)
        rw [Int.toNat_natCast, hz1] at h
        rw [show (Value.agg #[.int .i64 0, .int .i64 0]).cells = #[.int .i64 0, .int .i64 0] from rfl, valCells_zero] at h
        exact h
      have ho : (mkArray (m : Int)).vals = List.replicate m (0, 0) := by simp [mkArray]
      generalize hvc : valCells (List.replicate m ((0 : Int), (0 : Int))) = VC at *
      have HVC := hide hvc; clear hvc
      go_enter Tryz.func28, Tryz.ntmps28
      go_wp2_with fail
      have hvc := unhide HVC
      have hch : Chg [] w ((w.alloc (.cells VC.toArray 33)).alloc (.cells #[.int .i64 1, .int .i64 (m : Int), .slice (some ⟨w.heap.size, 0, none⟩) m m, .string ⟨#[]⟩] 72)) := ((Chg.refl [] w).alloc _).alloc _
      have hb1 : Blk (w.alloc (.cells VC.toArray 33)) w.heap.size VC 33 := Blk.new w VC _
      have hb2 : Blk ((w.alloc (.cells VC.toArray 33)).alloc (.cells #[.int .i64 1, .int .i64 (m : Int), .slice (some ⟨w.heap.size, 0, none⟩) m m, .string ⟨#[]⟩] 72)) (w.heap.size + 1) (objCells (mkArray (m : Int)) (.slice (some ⟨w.heap.size, 0, none⟩) (mkArray (m : Int)).vals.length m)) 72 := by
        have hsz : (w.alloc (.cells VC.toArray 33)).heap.size = w.heap.size + 1 := by simp
        rw [← hsz, ho, List.length_replicate]
        exact Blk.new (w.alloc (.cells VC.toArray 33)) (objCells (mkArray (m : Int)) (.slice (some ⟨w.heap.size, 0, none⟩) m m)) _
      have hlen : VC.length = m * 2 := by rw [← hvc, length_valCells]; simp
      have hown := (hb1.alloc (.cells #[.int .i64 1, .int .i64 (m : Int), .slice (some ⟨w.heap.size, 0, none⟩) m m, .string ⟨#[]⟩] 72)).owns (size := 2) (base := 0) (n := m) (cap := m) (Nat.zero_le _) (Nat.le_refl _) (by unfold maxLen; omega) hlen
      rw [← hlen, List.take_length] at hown
      have hfr := fresh_new (unhide H) (o := mkArray (m : Int)) (va := some ⟨w.heap.size, 0, none⟩) (vc := m) hb2 (by rw [ho, List.length_replicate, hvc]; exact hown) (Nat.le_succ _) (by simp [ab])
      refine (refMade_any (mkArray (m : Int)) (w.heap.size + 1) (some ⟨w.heap.size, 0, none⟩) m ((unhide H).chg hch (by simp)) (unhide HI) (unhide HBD) hfr ⟨by simp [mkArray], by simp [mkArray], by simp [mkArray], by simp [mkArray]; omega, by simp [mkArray]; omega⟩ hmd hmo (by
        intro v hv
        rw [ho] at hv
        have := List.eq_of_mem_replicate hv
        subst this
        simp) (by rw [ho]; simp; omega)).mono ?_
      rintro e w3 ⟨L3, rfl, h3, st3⟩
      have hst := stp_new hch (by intro x hx; simp [ab] at hx; omega) st3
      have H3 := hide h3; have ST := hide hst; clear h3 st3 hst hfr hown hlen hb2 hb1 hch hvc
      go_wp2
      go_ret2
      exact ⟨L3, by rw [unhide HFIN]; rfl, by rw [unhide HFIN]; exact unhide H3, unhide ST⟩

set_option maxRecDepth 100000 in
set_option maxHeartbeats 1000000 in
theorem refTable_any {br : Nat} {s : R} {L : RL} {w : World} (n : Int) (h : RRep w br s L) (hi : RInv s) (hbd : RBd s) (hmd : s.made < 3298534883328) (hmo : s.objs.length < 3298534883328) :
    Calls Tryz.prog 32 #[.pointer (some ⟨br, 0, none⟩), .int .i64 n] w fun e w' => ∃ L', e = .returned (.tuple #[.int .i64 (s.tableQ n).1, .int .i64 (s.tableQ n).2.1]) ∧ RRep w' br (s.tableQ n).2.2 L' ∧ Stp (L.foot br) w (L'.foot br) w' := by
  have c3 := h.ref.cell_of (i := 3) rfl
  have H := hide h; have HI := hide hi; have HBD := hide hbd; clear h hi hbd
  cases hd : s.dead with
  | true =>
    have hfin : s.tableQ n = (0, 2, s) := by simp [R.tableQ, hd]
    rw [hd] at c3
    have HFIN := hide hfin; clear hfin hd
    go_enter Tryz.func32, Tryz.ntmps32
    go_wp2
    go_ret2
    exact ⟨L, by rw [unhide HFIN]; rfl, by rw [unhide HFIN]; exact unhide H, Stp.refl _ _⟩
  | false =>
    rw [hd] at c3
    by_cases hn : n < 0 ∨ 8 < n
    · have hfin : s.tableQ n = (0, 6, s) := by simp [R.tableQ, hd, hn]
      have HFIN := hide hfin; clear hfin hd
      go_enter Tryz.func32, Tryz.ntmps32
      rcases hn with hn | hn
      · go_wp2
        go_ret2
        exact ⟨L, by rw [unhide HFIN]; rfl, by rw [unhide HFIN]; exact unhide H, Stp.refl _ _⟩
      · have h0 : 0 ≤ n := by omega
        go_wp2
        go_ret2
        exact ⟨L, by rw [unhide HFIN]; rfl, by rw [unhide HFIN]; exact unhide H, Stp.refl _ _⟩
    · have hfin : s.tableQ n = s.make (mkTable n) := by simp [R.tableQ, hd, hn]
      have HFIN := hide hfin; clear hfin hd
      have h0 : 0 ≤ n := by omega
      have h8 : n ≤ 8 := by omega
      clear hn
      go_enter Tryz.func32, Tryz.ntmps32
      go_wp2_with fail
      have hch : Chg [] w (w.alloc (.cells #[.int .i64 3, .int .i64 n, .slice none 0 0, .string ⟨#[]⟩] 72)) := (Chg.refl [] w).alloc _
      have hb2 : Blk (w.alloc (.cells #[.int .i64 3, .int .i64 n, .slice none 0 0, .string ⟨#[]⟩] 72)) w.heap.size (objCells (mkTable n) (.slice none (mkTable n).vals.length 0)) 72 := Blk.new w (objCells (mkTable n) (.slice none 0 0)) _
      have hfr := fresh_new (unhide H) (o := mkTable n) (va := none) (vc := 0) hb2 (World.ownsRow_nil _ _ _ _) (Nat.le_refl _) (by simp [ab])
      refine (refMade_any (mkTable n) w.heap.size none 0 ((unhide H).chg hch (by simp)) (unhide HI) (unhide HBD) hfr ⟨by simp [mkTable], by simp [mkTable], by simpa [mkTable] using h0, by simp [mkTable]; omega, by simp [mkTable]; omega⟩ hmd hmo (by intro v hv; simp [mkTable] at hv) (by simp [mkTable])).mono ?_
      rintro e w3 ⟨L3, rfl, h3, st3⟩
      have hst := stp_new hch (by intro x hx; simp [ab] at hx; omega) st3
      have H3 := hide h3; have ST := hide hst; clear h3 st3 hst hfr hb2 hch
      go_wp2
      go_ret2
      exact ⟨L3, by rw [unhide HFIN]; rfl, by rw [unhide HFIN]; exact unhide H3, unhide ST⟩

set_option maxRecDepth 100000 in
set_option maxHeartbeats 1000000 in
theorem refBytes_any {br : Nat} {s : R} {L : RL} {w : World} (t : ByteArray) (ht : t.size ≤ maxLen) (h : RRep w br s L) (hi : RInv s) (hbd : RBd s) (hmd : s.made < 3298534883328) (hmo : s.objs.length < 3298534883328) :
    Calls Tryz.prog 30 #[.pointer (some ⟨br, 0, none⟩), .string t] w fun e w' => ∃ L', e = .returned (.tuple #[.int .i64 (s.bytesQ t).1, .int .i64 (s.bytesQ t).2.1]) ∧ RRep w' br (s.bytesQ t).2.2 L' ∧ Stp (L.foot br) w (L'.foot br) w' := by
  unfold maxLen at ht
  have c3 := h.ref.cell_of (i := 3) rfl
  have H := hide h; have HI := hide hi; have HBD := hide hbd; clear h hi hbd
  cases hd : s.dead with
  | true =>
    have hfin : s.bytesQ t = (0, 2, s) := by simp [R.bytesQ, hd]
    rw [hd] at c3
    have HFIN := hide hfin; clear hfin hd
    go_enter Tryz.func30, Tryz.ntmps30
    go_wp2
    go_ret2
    exact ⟨L, by rw [unhide HFIN]; rfl, by rw [unhide HFIN]; exact unhide H, Stp.refl _ _⟩
  | false =>
    rw [hd] at c3
    by_cases hn : 64 < t.size
    · have hfin : s.bytesQ t = (0, 6, s) := by simp [R.bytesQ, hd, hn]
      have HFIN := hide hfin; clear hfin hd
      go_enter Tryz.func30, Tryz.ntmps30
      go_wp2
      go_ret2
      exact ⟨L, by rw [unhide HFIN]; rfl, by rw [unhide HFIN]; exact unhide H, Stp.refl _ _⟩
    · have hfin : s.bytesQ t = s.make (mkBytes t) := by simp [R.bytesQ, hd, hn]
      have HFIN := hide hfin; clear hfin hd
      go_enter Tryz.func30, Tryz.ntmps30
      go_wp2_with fail
      have hch : Chg [] w (w.alloc (.cells #[.int .i64 2, .int .i64 (t.size : Int), .slice none 0 0, .string t] 72)) := (Chg.refl [] w).alloc _
      have hb2 : Blk (w.alloc (.cells #[.int .i64 2, .int .i64 (t.size : Int), .slice none 0 0, .string t] 72)) w.heap.size (objCells (mkBytes t) (.slice none (mkBytes t).vals.length 0)) 72 := Blk.new w (objCells (mkBytes t) (.slice none 0 0)) _
      have hfr := fresh_new (unhide H) (o := mkBytes t) (va := none) (vc := 0) hb2 (World.ownsRow_nil _ _ _ _) (Nat.le_refl _) (by simp [ab])
      refine (refMade_any (mkBytes t) w.heap.size none 0 ((unhide H).chg hch (by simp)) (unhide HI) (unhide HBD) hfr ⟨by simp [mkBytes], by simp [mkBytes], by simp [mkBytes], by simp [mkBytes]; omega, by simp [mkBytes]⟩ hmd hmo (by intro v hv; simp [mkBytes] at hv) (by simp [mkBytes])).mono ?_
      rintro e w3 ⟨L3, rfl, h3, st3⟩
      have hst := stp_new hch (by intro x hx; simp [ab] at hx; omega) st3
      have H3 := hide h3; have ST := hide hst; clear h3 st3 hst hfr hb2 hch
      go_wp2
      go_ret2
      exact ⟨L3, by rw [unhide HFIN]; rfl, by rw [unhide HFIN]; exact unhide H3, unhide ST⟩

end Go.Proofs.YtfoncalkgmeklaaGreat

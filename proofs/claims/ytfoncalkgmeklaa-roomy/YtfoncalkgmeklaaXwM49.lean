import Derived.Test.YtfoncalkgmeklaaXwM48
import Derived.Test.YtfoncalkgmeklaaXwM47
import Derived.Test.YtfoncalkgmeklaaXwM17

/- The book of handles: what Close and Release end. -/
namespace Go.Proofs.Ytfoncalkgmeklaa
open Go.RowKit

def endIs (kind x : Int) (g : RHan) : Bool := (kind == 20 && g.num == x) || (kind == 17 && g.scope == x)
def endQ (kind x : Int) (g : RHan) : RHan := if endIs kind x g then g.off else g
theorem endQ_num (kind x : Int) (g : RHan) : (endQ kind x g).num = g.num ∧ (endQ kind x g).scope = g.scope ∧ (endQ kind x g).live = (g.live && !endIs kind x g) := by
  unfold endQ
  cases h : endIs kind x g <;> simp [RHan.off]
theorem map_endQ (kind x : Int) (hs : List RHan) : (hs.map (endQ kind x)).map RHan.num = hs.map RHan.num ∧ (hs.map (endQ kind x)).map RHan.scope = hs.map RHan.scope ∧ pastOf (hs.map (endQ kind x)) = pastOf hs := by
  refine ⟨?_, ?_, ?_⟩
  · rw [List.map_map]; exact List.map_congr_left fun g _ => (endQ_num kind x g).1
  · rw [List.map_map]; exact List.map_congr_left fun g _ => (endQ_num kind x g).2.1
  · unfold pastOf
    refine List.map_congr_left fun k _ => ?_
    rw [List.countP_map]
    congr 1
    refine congrArg (fun p => List.countP p hs) (funext fun g => ?_)
    simp [sameSlot, (endQ_num kind x g).1]
/-- Which are live when the first i have been looked at. -/
def liveTo (kind x : Int) (hs : List RHan) (i : Nat) : List Bool := ((hs.take i).map (endQ kind x)).map RHan.live ++ (hs.drop i).map RHan.live
theorem liveTo_len (kind x : Int) (hs : List RHan) (i : Nat) : (liveTo kind x hs i).length = hs.length := by
  unfold liveTo; simp; omega
theorem liveTo_next {kind x : Int} {hs : List RHan} {i : Nat} {g : RHan} (e : hs[i]? = some g) : liveTo kind x hs (i + 1) = if endIs kind x g then (liveTo kind x hs i).set i false else liveTo kind x hs i := by
  obtain ⟨hlt, rfl⟩ := List.getElem?_eq_some_iff.1 e
  have hd : hs.drop i = hs[i] :: hs.drop (i + 1) := List.drop_eq_getElem_cons hlt
  have ht : hs.take (i + 1) = hs.take i ++ [hs[i]] := List.take_succ_eq_append_getElem hlt
  have hl : (((hs.take i).map (endQ kind x)).map RHan.live).length = i := by simp; omega
  unfold liveTo
  rw [ht, hd]
  simp only [List.map_append, List.map_cons, List.map_nil, List.append_assoc, List.cons_append, List.nil_append]
  rw [(endQ_num kind x hs[i]).2.2]
  split
  · rename_i h
    rw [List.set_append_right _ _ (by omega), hl, Nat.sub_self, List.set_cons_zero]
    simp [h]
  · rename_i h
    simp [h]
theorem liveTo_all (kind x : Int) (hs : List RHan) : liveTo kind x hs hs.length = (hs.map (endQ kind x)).map RHan.live := by simp [liveTo]
theorem liveTo_zero (kind x : Int) (hs : List RHan) : liveTo kind x hs 0 = hs.map RHan.live := by simp [liveTo]
set_option maxRecDepth 100000 in
set_option maxHeartbeats 8000000 in
theorem ends_book {w0 w : World} {bb : Nat} {hs : List RHan} {op : Int} {na sa la : Option Addr} {nc sc lc : Nat} {F : List Nat} (h : BK w0 w bb hs op na sa la nc sc lc F) (hl : hs.length ≤ 8796093022208) (o : LOp) (hop : 0 ≤ op ∧ op ≤ 16) :
    Calls Try.prog 20 #[.pointer (some ⟨bb, 0, none⟩), o.val] w fun e w' => e = .returned (.tuple #[]) ∧ BK w0 w' bb (hs.map (endQ o.kind o.x)) (if o.kind = 17 then op - 1 else op) na sa la nc sc lc F ∧ Chg (bb :: ab la) w w' := by
  obtain ⟨hop0, hop1⟩ := hop
  have kb : Chg [] w (w.alloc (.cells #[.int .i64 o.kind, .int .i64 o.x, .int .i64 o.y, .int .i64 o.k.1, .int .i64 o.k.2, .int .i64 o.v.1, .int .i64 o.v.2, .string o.s] 35)) := (Chg.refl [] w).alloc _
  have hb0 := Blk.new w o.cells 35
  have h1 := h.quiet kb
  have hnot : w.heap.size ∉ bb :: ab la := fun hm => by
    have := h.lt w.heap.size (by rcases List.mem_cons.1 hm with e | e; exact e ▸ List.mem_cons_self; exact List.mem_cons_of_mem _ (List.mem_append_right _ (List.mem_append_right _ e)))
    omega
  rw [show hs.map RHan.live = liveTo o.kind o.x hs 0 from (liveTo_zero _ _ _).symm] at h1
  have hln : (hs.map RHan.num).length = hs.length := by simp
  have hls : (hs.map RHan.scope).length = hs.length := by simp
  unfold LOp.val
  have H1 := hide h1; have KB := hide kb; have HB0 := hide hb0; have HNOT := hide hnot; clear h1 kb hb0 hnot h
  go_enter Try.func20, Try.ntmps20
  go_wp2_with fail
  go_loopw [4] (fun i wr => ∃ i' : Nat, i' ≤ hs.length ∧ i = .int .i64 i' ∧ BKr w0 wr bb (hs.map RHan.num) (hs.map RHan.scope) (liveTo o.kind o.x hs i') (pastOf hs) op na sa la nc sc lc F ∧ Chg (bb :: ab la) (w.alloc (.cells o.cells.toArray 35)) wr) (fun i _ => hs.length - (intOf i).toNat)
  case atStart => exact ⟨0, Nat.zero_le _, rfl, unhide H1, Chg.refl _ _⟩
  case round =>
    obtain ⟨i, hi, rfl, hbk, hch⟩ := hrel
    have hbo := (unhide HB0).chg hch (unhide HNOT)
    have ok0 := hbo.cell_of (i := 0) (v := .int .i64 o.kind) rfl
    have ok1 := hbo.cell_of (i := 1) (v := .int .i64 o.x) rfl
    obtain ⟨c0, c1, c2, c35⟩ := hbk.cells
    rw [hln] at c0
    rw [hls] at c1
    rw [liveTo_len] at c2
    clear hbo H1
    by_cases hlt : i < hs.length
    · obtain ⟨g, hg⟩ : ∃ g, hs[i]? = some g := ⟨_, List.getElem?_eq_getElem hlt⟩
      obtain ⟨gn, hgn, q1⟩ := hbk.numAt (i := i) (by rw [hln]; exact hlt)
      obtain ⟨gs, hgs, q2⟩ := hbk.scAt (i := i) (by rw [hls]; exact hlt)
      obtain ⟨gl, hgl, q3, q4⟩ := hbk.liveAt (i := i) (by rw [liveTo_len]; exact hlt)
      rw [show (hs.map RHan.num).getD i 0 = g.num from by simp [List.getD, hg]] at q1
      rw [show (hs.map RHan.scope).getD i 0 = g.scope from by simp [List.getD, hg]] at q2
      have hnx := liveTo_next (kind := o.kind) (x := o.x) hg
      have hset := hbk.setLive hgl (i := i) (by rw [liveTo_len]; exact hlt) false
      have hei : endIs o.kind o.x g = ((o.kind == 20 && g.num == o.x) || (o.kind == 17 && g.scope == o.x)) := rfl
      have zi : (i : Int) < (hs.length : Int) := by omega
      subst hgn hgs hgl
      generalize (liveTo o.kind o.x hs i).getD i false = lv at *
      generalize g.num = gnum at *
      generalize g.scope = gsc at *
      have HNX := hide hnx; have HSET := hide hset; have HBK := hide hbk; have HCH := hide hch; clear hnx hset hbk hch hg
      have stay : endIs o.kind o.x g = false → liveTo o.kind o.x hs (i + 1) = liveTo o.kind o.x hs i := fun he => by rw [unhide HNX, he]; rfl
      have put : endIs o.kind o.x g = true → liveTo o.kind o.x hs (i + 1) = (liveTo o.kind o.x hs i).set i false := fun he => by rw [unhide HNX, he]; rfl
      have HSTAY := hide stay; have HPUT := hide put; have HEI := hide hei; clear stay put hei
      by_cases k20 : o.kind = 20
      · have b20 : (o.kind == 20) = true := by simp [k20]
        have b17 : (o.kind == 17) = false := by simp [k20]
        by_cases kn : gnum = o.x
        · have bn : (gnum == o.x) = true := by simp [kn]
          have he := unhide HPUT (by rw [unhide HEI]; simp [b20, bn])
          have hset : Hid (∀ q : Nat, BKr w0 ((wr.drewN q).setCell ⟨gl, i, none⟩ (.bool false)) bb (hs.map RHan.num) (hs.map RHan.scope) (liveTo o.kind o.x hs (i + 1)) (pastOf hs) op (some ⟨gn, 0, none⟩) (some ⟨gs, 0, none⟩) (some ⟨gl, 0, none⟩) nc sc lc F) := fun q => by rw [he]; exact ((unhide HBK).quiet ((Chg.refl [] wr).drewN q)).setLive rfl (by rw [liveTo_len]; exact hlt) false
          clear he HSTAY HPUT HEI HNX k20 kn
          go_wp2_with fail
          go_quiet (fail)
          go_wp2
          go_roundw
          case rel => exact ⟨i + 1, by omega, by go_num, unhide hset _, ((unhide HCH).drewN _).setCell (.inl (by simp [ab])) _⟩
          case measure => simp [intOf]; omega
        · have bn : (gnum == o.x) = false := by simp [kn]
          have he := unhide HSTAY (by rw [unhide HEI]; simp [b17, bn])
          have HE := hide he; clear he HSTAY HPUT HEI HNX k20 kn
          go_wp2_with fail
          go_quiet (fail)
          go_wp2
          go_roundw
          case rel => exact ⟨i + 1, by omega, by go_num, by rw [unhide HE]; exact (unhide HBK).quiet ((Chg.refl [] wr).drewN _), (unhide HCH).drewN _⟩
          case measure => simp [intOf]; omega
      · have b20 : (o.kind == 20) = false := by simp [k20]
        by_cases k17 : o.kind = 17
        · have b17 : (o.kind == 17) = true := by simp [k17]
          by_cases kn : gsc = o.x
          · have bn : (gsc == o.x) = true := by simp [kn]
            have he := unhide HPUT (by rw [unhide HEI]; simp [b17, bn])
            have hset : Hid (∀ q : Nat, BKr w0 ((wr.drewN q).setCell ⟨gl, i, none⟩ (.bool false)) bb (hs.map RHan.num) (hs.map RHan.scope) (liveTo o.kind o.x hs (i + 1)) (pastOf hs) op (some ⟨gn, 0, none⟩) (some ⟨gs, 0, none⟩) (some ⟨gl, 0, none⟩) nc sc lc F) := fun q => by rw [he]; exact ((unhide HBK).quiet ((Chg.refl [] wr).drewN q)).setLive rfl (by rw [liveTo_len]; exact hlt) false
            clear he HSTAY HPUT HEI HNX k20 k17 kn
            go_wp2_with fail
            go_quiet (fail)
            go_wp2
            go_roundw
            case rel => exact ⟨i + 1, by omega, by go_num, unhide hset _, ((unhide HCH).drewN _).setCell (.inl (by simp [ab])) _⟩
            case measure => simp [intOf]; omega
          · have bn : (gsc == o.x) = false := by simp [kn]
            have he := unhide HSTAY (by rw [unhide HEI]; simp [b20, bn])
            have HE := hide he; clear he HSTAY HPUT HEI HNX k20 k17 kn
            go_wp2_with fail
            go_quiet (fail)
            go_wp2
            go_roundw
            case rel => exact ⟨i + 1, by omega, by go_num, by rw [unhide HE]; exact (unhide HBK).quiet ((Chg.refl [] wr).drewN _), (unhide HCH).drewN _⟩
            case measure => simp [intOf]; omega
        · have b17 : (o.kind == 17) = false := by simp [k17]
          have he := unhide HSTAY (by rw [unhide HEI]; simp [b20, b17])
          have HE := hide he; clear he HSTAY HPUT HEI HNX k20 k17
          go_wp2_with fail
          go_quiet (fail)
          go_wp2
          go_roundw
          case rel => exact ⟨i + 1, by omega, by go_num, by rw [unhide HE]; exact (unhide HBK).quiet ((Chg.refl [] wr).drewN _), (unhide HCH).drewN _⟩
          case measure => simp [intOf]; omega
    · have hie : i = hs.length := by omega
      subst hie
      rw [liveTo_all] at hbk
      obtain ⟨m1, m2, m3⟩ := map_endQ o.kind o.x hs
      have f35 := hbk.blk.frozen 35
      have hall : Chg (bb :: ab la) w wr := ((unhide KB).mono (by simp)).trans hch
      by_cases k17 : o.kind = 17
      · have K17 := hide k17
        have b17 : (o.kind == 17) = true := by simp [k17]
        have hop2 := hbk.setOpen (op - 1)
        rw [← m1, ← m2, ← m3] at hop2
        have HOP2 := hide hop2; have HALL := hide hall; clear hop2 hall hbk hch k17 m1 m2 m3 c1 c2
        go_wp2
        go_end0
        exact ⟨rfl, by first | (rw [if_pos (unhide K17)]; exact unhide HOP2) | (have := unhide HOP2; rw [unhide K17] at this; exact this), (unhide HALL).setCell (.inl (by simp)) _⟩
      · have K17 := hide k17
        have b17 : (o.kind == 17) = false := by simp [k17]
        rw [← m1, ← m2, ← m3] at hbk
        have HBK := hide hbk; have HALL := hide hall; clear hbk hall hch k17 m1 m2 m3 c1 c2 c35
        go_wp2
        go_end0
        exact ⟨rfl, by first | (rw [if_neg (unhide K17)]; exact unhide HBK) | exact unhide HBK, unhide HALL⟩
end Go.Proofs.Ytfoncalkgmeklaa

/- What a step does to the handles, as the book sees it (plain). -/
namespace Go.Proofs.Ytfoncalkgmeklaa
open Go.RowKit

/-- The handles and scopes stay. -/
structure Calm2 (s s' : R) : Prop where
  han : s'.handles = s.handles
  sco : s'.scopes = s.scopes
theorem Calm2.refl (s : R) : Calm2 s s := ⟨rfl, rfl⟩
/-- One handle more, as the book wants it. -/
def OneMore (s s' : R) (x sc : Int) : Prop := ∃ (k : Nat) (g : RHan), s.free? = some k ∧ x = 32 * (s.past (k : Int) : Int) + (k : Int) ∧ g.num = x ∧ g.scope = sc ∧ g.live = true ∧ s'.handles = s.handles ++ [g] ∧ s'.scopes = s.scopes
theorem handle_book (s : R) (o : Nat) (c : Int) : ((s.handle o c).2.1 = 0 ∧ OneMore s (s.handle o c).2.2 (s.handle o c).1 c) ∨ ((s.handle o c).2.1 = 11 ∧ s.free? = none ∧ (s.handle o c).2.2 = s) := by
  unfold R.handle
  cases hf : s.free? with
  | none => exact .inr ⟨rfl, rfl, rfl⟩
  | some k => exact .inl ⟨rfl, k, _, hf, rfl, rfl, rfl, rfl, rfl, rfl⟩
theorem make_book (s : R) (o : RObj) : ((s.make o).2.1 = 0 ∧ OneMore s (s.make o).2.2 (s.make o).1 s.scopes) ∨ ((s.make o).2.1 = 11 ∧ s.free? = none ∧ (s.make o).2.2 = s) ∨ ((s.make o).2.1 = 12) := by
  cases hf : s.free? with
  | none =>
    right; left
    unfold R.make
    rw [hf]
    exact ⟨rfl, rfl, rfl⟩
  | some k =>
    have e := made3_objs s (oWords o)
    have hm : s.make o = if usedOf s.objs (s.made3 (oWords o)).row + oWords o > s.limit then ((0 : Int), (12 : Int), { s.made3 (oWords o) with dead := true }) else ((s.made3 (oWords o)).push o).handle s.objs.length s.scopes := by
      unfold R.make
      rw [hf]
    rw [hm]
    split
    · exact .inr (.inr rfl)
    · left
      have hff : ((s.made3 (oWords o)).push o).free? = some k := by
        have : ((s.made3 (oWords o)).push o).free? = s.free? := by unfold R.free? R.at?; show (List.range 32).find? (fun k => ((s.made3 (oWords o)).handles.findIdx? _).isNone) = _; rw [e.2.1]
        rw [this, hf]
      have hpp : ((s.made3 (oWords o)).push o).past (k : Int) = s.past (k : Int) := by
        unfold R.past; show (s.made3 (oWords o)).handles.countP _ = _; rw [e.2.1]
      rw [show ((s.made3 (oWords o)).push o).handle s.objs.length s.scopes = ((32 * (s.past (k : Int) : Int) + (k : Int) : Int), (0 : Int), { ((s.made3 (oWords o)).push o) with handles := ((s.made3 (oWords o)).push o).handles ++ [⟨32 * (s.past (k : Int) : Int) + (k : Int), s.scopes, s.objs.length, true⟩] }) from by
        unfold R.handle
        rw [hff]
        simp only [hpp]]
      refine ⟨rfl, k, ⟨32 * (s.past (k : Int) : Int) + (k : Int), s.scopes, s.objs.length, true⟩, hf, rfl, rfl, rfl, rfl, ?_, ?_⟩
      · show (s.made3 (oWords o)).handles ++ _ = _; rw [e.2.1]
      · show (s.made3 (oWords o)).scopes = _; rw [e.2.2.2.2.1]
theorem outer_book (s : R) (v : Int × Int) : ((s.outer v).2.1 = 0 ∧ (s.outer v).1.1 = 2 ∧ OneMore s (s.outer v).2.2 (s.outer v).1.2 s.scopes) ∨ ((s.outer v).2.1 = 0 ∧ (s.outer v).1.1 ≠ 2 ∧ (s.outer v).2.2 = s) ∨ ((s.outer v).2.1 = 11 ∧ s.free? = none ∧ (s.outer v).2.2 = s) := by
  unfold R.outer
  by_cases h2 : v.1 = 2
  · rw [if_pos h2]
    rcases handle_book s v.2.toNat s.scopes with ⟨h0, h1⟩ | ⟨h0, h1, h3⟩
    · left
      rw [if_pos h0]
      exact ⟨rfl, rfl, h1⟩
    · right; right
      rw [if_neg (by rw [h0]; omega)]
      exact ⟨h0, h1, rfl⟩
  · rw [if_neg h2]
    exact .inr (.inl ⟨rfl, h2, rfl⟩)
/-- What a step answers and does, as the book sees it. -/
inductive BookStep (s : R) (o : LOp) : Prop
  | more (h : (handlesQ o (s.askQ o)).2 = true) (e : (s.askQ o).e = 0) (k : o.kind ≠ 16 ∧ o.kind ≠ 17 ∧ o.kind ≠ 20) (m : OneMore s (s.stepQ o) (handlesQ o (s.askQ o)).1 (noteScope o.kind s.scopes)) : BookStep s o
  | mem (h : (handlesQ o (s.askQ o)).2 = false) (e : (s.askQ o).e = 12) : BookStep s o
  | full (h : (handlesQ o (s.askQ o)).2 = false) (e : (s.askQ o).e = 11) (f : s.free? = none) (c : Calm2 s (s.stepQ o)) : BookStep s o
  | none (h : (handlesQ o (s.askQ o)).2 = false) (e : (s.askQ o).e ≠ 11 ∧ (s.askQ o).e ≠ 12) (k : (s.askQ o).e = 0 → o.kind ≠ 16 ∧ o.kind ≠ 17 ∧ o.kind ≠ 20) (c : Calm2 s (s.stepQ o)) : BookStep s o
  | opens (h : (handlesQ o (s.askQ o)).2 = false) (e : (s.askQ o).e = 0) (k : o.kind = 16) (n : (s.askQ o).n = s.scopes + 1) (a : (s.stepQ o).handles = s.handles) (b : (s.stepQ o).scopes = s.scopes + 1) : BookStep s o
  | ends (h : (handlesQ o (s.askQ o)).2 = false) (e : (s.askQ o).e = 0) (k : o.kind = 17 ∨ o.kind = 20) (a : (s.stepQ o).handles = s.handles.map (endQ o.kind o.x)) (b : (s.stepQ o).scopes = if o.kind = 17 then s.scopes - 1 else s.scopes) : BookStep s o

theorem hq_bad {o : LOp} {a : Ans} (h : a.e ≠ 0) : (handlesQ o a).2 = false := by unfold handlesQ; rw [if_pos h]
theorem bs_make {s : R} {o : LOp} {q : Int × Int × R} (he : (s.askQ o).e = q.2.1) (hn : (s.askQ o).n = q.1) (hs : s.stepQ o = q.2.2) (hk : o.kind = 1 ∨ o.kind = 2 ∨ o.kind = 3 ∨ o.kind = 22 ∨ o.kind = 23)
    (hq : (q.2.1 ≠ 0 ∧ q.2.1 ≠ 11 ∧ q.2.1 ≠ 12 ∧ q.2.2 = s) ∨ (q.2.1 = 0 ∧ OneMore s q.2.2 q.1 s.scopes) ∨ (q.2.1 = 11 ∧ s.free? = none ∧ q.2.2 = s) ∨ q.2.1 = 12) : BookStep s o := by
  rcases hq with ⟨h1, h2, h3, h4⟩ | ⟨h1, h2⟩ | ⟨h1, h2, h3⟩ | h1
  · exact .none (hq_bad (by rw [he]; exact h1)) (by rw [he]; exact ⟨h2, h3⟩) (fun h0 => absurd (he ▸ h0) h1) (by rw [hs, h4]; exact Calm2.refl s)
  · have hh : handlesQ o (s.askQ o) = (q.1, true) := by
      unfold handlesQ
      rw [if_neg (by rw [he, h1]; simp), if_pos (by omega), hn]
    refine .more (by rw [hh]) (by rw [he]; exact h1) (by omega) ?_
    rw [hh, hs]
    rw [show noteScope o.kind s.scopes = s.scopes from by unfold noteScope; rw [if_neg (by omega), if_neg (by omega)]]
    exact h2
  · exact .full (hq_bad (by rw [he, h1]; omega)) (by rw [he]; exact h1) h2 (by rw [hs, h3]; exact Calm2.refl s)
  · exact .mem (hq_bad (by rw [he, h1]; omega)) (by rw [he]; exact h1)
theorem bs_handle {s : R} {o : LOp} {q : Int × Int × R} (he : (s.askQ o).e = q.2.1) (hn : (s.askQ o).n = q.1) (hs : s.stepQ o = q.2.2) (hk : o.kind = 18 ∨ o.kind = 19)
    (hq : (q.2.1 ≠ 0 ∧ q.2.1 ≠ 11 ∧ q.2.1 ≠ 12 ∧ q.2.2 = s) ∨ (q.2.1 = 0 ∧ OneMore s q.2.2 q.1 (noteScope o.kind s.scopes)) ∨ (q.2.1 = 11 ∧ s.free? = none ∧ q.2.2 = s)) : BookStep s o := by
  rcases hq with ⟨h1, h2, h3, h4⟩ | ⟨h1, h2⟩ | ⟨h1, h2, h3⟩
  · exact .none (hq_bad (by rw [he]; exact h1)) (by rw [he]; exact ⟨h2, h3⟩) (fun h0 => absurd (he ▸ h0) h1) (by rw [hs, h4]; exact Calm2.refl s)
  · have hh : handlesQ o (s.askQ o) = (q.1, true) := by
      unfold handlesQ
      rw [if_neg (by rw [he, h1]; simp), if_pos (by omega), hn]
    exact .more (by rw [hh]) (by rw [he]; exact h1) (by omega) (by rw [hh, hs]; exact h2)
  · exact .full (hq_bad (by rw [he, h1]; omega)) (by rw [he]; exact h1) h2 (by rw [hs, h3]; exact Calm2.refl s)
theorem bs_value {s : R} {o : LOp} {q : (Int × Int) × Int × R} (he : (s.askQ o).e = q.2.1) (hv : (s.askQ o).v = q.1) (hs : s.stepQ o = q.2.2) (hk : o.kind = 9 ∨ o.kind = 12 ∨ o.kind = 15)
    (hq : (q.2.1 ≠ 0 ∧ q.2.1 ≠ 11 ∧ q.2.1 ≠ 12 ∧ q.2.2 = s) ∨ (q.2.1 = 0 ∧ q.1.1 = 2 ∧ OneMore s q.2.2 q.1.2 s.scopes) ∨ (q.2.1 = 0 ∧ q.1.1 ≠ 2 ∧ q.2.2 = s) ∨ (q.2.1 = 11 ∧ s.free? = none ∧ q.2.2 = s)) : BookStep s o := by
  have hh0 : q.2.1 = 0 → handlesQ o (s.askQ o) = (q.1.2, q.1.1 == 2) := fun h1 => by
    unfold handlesQ
    rw [if_neg (by rw [he, h1]; simp), if_neg (by omega), if_pos hk, hv]
  rcases hq with ⟨h1, h2, h3, h4⟩ | ⟨h1, h5, h2⟩ | ⟨h1, h5, h2⟩ | ⟨h1, h2, h3⟩
  · exact .none (hq_bad (by rw [he]; exact h1)) (by rw [he]; exact ⟨h2, h3⟩) (fun h0 => absurd (he ▸ h0) h1) (by rw [hs, h4]; exact Calm2.refl s)
  · refine .more (by rw [hh0 h1]; simp [h5]) (by rw [he]; exact h1) (by omega) ?_
    rw [hh0 h1, hs]
    rw [show noteScope o.kind s.scopes = s.scopes from by unfold noteScope; rw [if_neg (by omega), if_neg (by omega)]]
    exact h2
  · exact .none (by rw [hh0 h1]; simp [h5]) (by rw [he, h1]; omega) (fun _ => by omega) (by rw [hs, h2]; exact Calm2.refl s)
  · exact .full (hq_bad (by rw [he, h1]; omega)) (by rw [he]; exact h1) h2 (by rw [hs, h3]; exact Calm2.refl s)
theorem bs_other {s : R} {o : LOp} (he : (s.askQ o).e ≠ 11 ∧ (s.askQ o).e ≠ 12) (hk : o.kind ≠ 1 ∧ o.kind ≠ 2 ∧ o.kind ≠ 3 ∧ o.kind ≠ 22 ∧ o.kind ≠ 23 ∧ o.kind ≠ 18 ∧ o.kind ≠ 19 ∧ o.kind ≠ 9 ∧ o.kind ≠ 12 ∧ o.kind ≠ 15) (hz : (s.askQ o).e = 0 → o.kind ≠ 16 ∧ o.kind ≠ 17 ∧ o.kind ≠ 20) (hc : Calm2 s (s.stepQ o)) : BookStep s o := by
  refine .none ?_ he hz hc
  unfold handlesQ
  split
  · rfl
  · rw [if_neg (by omega), if_neg (by omega)]
theorem hq_plain {o : LOp} {a : Ans} (hk : o.kind = 16 ∨ o.kind = 17 ∨ o.kind = 20) : (handlesQ o a).2 = false := by
  unfold handlesQ
  split
  · rfl
  · rw [if_neg (by omega), if_neg (by omega)]
theorem num_once {s : R} (hn : RNum s) {i j : Nat} {h g : RHan} (e1 : s.handles[i]? = some h) (e2 : s.handles[j]? = some g) (he : h.num = g.num) : i = j := by
  have key : ∀ {i j : Nat} {h g : RHan}, s.handles[i]? = some h → s.handles[j]? = some g → h.num = g.num → ¬ i < j := by
    intro i j h g e1 e2 he hlt
    have a1 := hn.num i h e1
    have a2 := hn.num j g e2
    rw [he] at a1
    have hi := (List.getElem?_eq_some_iff.1 e1).1
    have h1 : (s.handles.take (i + 1)).countP (sameSlot (g.num % 32)) = (s.handles.take i).countP (sameSlot (g.num % 32)) + 1 := by
      have e3 : s.handles[i] = h := (List.getElem?_eq_some_iff.1 e1).2
      rw [List.take_succ_eq_append_getElem hi, List.countP_append, e3]
      simp [sameSlot, he]
    have h2 : (s.handles.take (i + 1)).countP (sameSlot (g.num % 32)) ≤ (s.handles.take j).countP (sameSlot (g.num % 32)) := by
      have : s.handles.take (i + 1) <+: s.handles.take j := by
        rw [show s.handles.take (i + 1) = (s.handles.take j).take (i + 1) from by rw [List.take_take, Nat.min_eq_left (by omega)]]
        exact List.take_prefix _ _
      exact this.sublist.countP_le
    omega
  rcases Nat.lt_trichotomy i j with h1 | h1 | h1
  · exact absurd h1 (key e1 e2 he)
  · exact h1
  · exact absurd h1 (key e2 e1 he.symm)
theorem release_map {s : R} (hn : RNum s) {x : Int} {q : Nat} (hf : s.find? x = some q) : s.handles.set q (s.handles.getD q rhan0).off = s.handles.map (endQ 20 x) := by
  obtain ⟨g, hg, hlv, hnum⟩ := find_some hf
  obtain ⟨hlt, rfl⟩ := List.getElem?_eq_some_iff.1 hg
  apply List.ext_getElem?
  intro j
  rw [List.getElem?_set, List.getElem?_map]
  by_cases hj : q = j
  · subst hj
    rw [if_pos rfl, if_pos hlt, List.getElem?_eq_getElem hlt]
    simp [endQ, endIs, hnum, List.getD, hlt]
  · rw [if_neg hj]
    cases hc : s.handles[j]? with
    | none => rfl
    | some h =>
      have hne : h.num ≠ x := fun e => hj (num_once hn hg hc (by rw [hnum, e]))
      simp [endQ, endIs, hne]
set_option maxHeartbeats 2000000 in
theorem book_step {s : R} (o : LOp) (hd : s.dead = false) (ha : RAll s) : BookStep s o := by
  by_cases hkn : ¬ (1 ≤ o.kind ∧ o.kind ≤ 23)
  · have hu := step_unknown s hkn
    exact bs_other (by rw [hu.2]; simp) (by omega) (fun _ => by omega) (by rw [hu.1]; exact Calm2.refl s)
  have hk : 1 ≤ o.kind ∧ o.kind ≤ 23 := by omega
  obtain ⟨kind, x, y, k, v, t⟩ := o
  simp only at hk
  have hc : kind = 1 ∨ kind = 2 ∨ kind = 3 ∨ kind = 4 ∨ kind = 5 ∨ kind = 6 ∨ kind = 7 ∨ kind = 8 ∨ kind = 9 ∨ kind = 10 ∨ kind = 11 ∨ kind = 12 ∨ kind = 13 ∨ kind = 14 ∨ kind = 15 ∨ kind = 16 ∨ kind = 17 ∨ kind = 18 ∨ kind = 19 ∨ kind = 20 ∨ kind = 21 ∨ kind = 22 ∨ kind = 23 := by omega
  have l1 := look1_e s x
  rcases hc with rfl | rfl | rfl | rfl | rfl | rfl | rfl | rfl | rfl | rfl | rfl | rfl | rfl | rfl | rfl | rfl | rfl | rfl | rfl | rfl | rfl | rfl | rfl
  · refine bs_make (q := s.arrayQ x) rfl rfl rfl (by simp) ?_
    unfold R.arrayQ
    rw [hd]
    simp only [Bool.false_eq_true, if_false]
    split
    · exact .inl ⟨by simp, by simp, by simp, rfl⟩
    · rcases make_book s (mkArray x) with h | h | h
      · exact .inr (.inl h)
      · exact .inr (.inr (.inl h))
      · exact .inr (.inr (.inr h))
  · refine bs_make (q := s.bytesQ t) rfl rfl rfl (by simp) ?_
    unfold R.bytesQ
    rw [hd]
    simp only [Bool.false_eq_true, if_false]
    split
    · exact .inl ⟨by simp, by simp, by simp, rfl⟩
    · rcases make_book s (mkBytes t) with h | h | h
      · exact .inr (.inl h)
      · exact .inr (.inr (.inl h))
      · exact .inr (.inr (.inr h))
  · refine bs_make (q := s.tableQ x) rfl rfl rfl (by simp) ?_
    unfold R.tableQ
    rw [hd]
    simp only [Bool.false_eq_true, if_false]
    split
    · exact .inl ⟨by simp, by simp, by simp, rfl⟩
    · rcases make_book s (mkTable x) with h | h | h
      · exact .inr (.inl h)
      · exact .inr (.inr (.inl h))
      · exact .inr (.inr (.inr h))
  · refine bs_other ?_ (by simp) (fun _ => by simp) (Calm2.refl s)
    show (s.kindQ x).2 ≠ 11 ∧ (s.kindQ x).2 ≠ 12
    unfold R.kindQ; split <;> simp; omega
  · refine bs_other ?_ (by simp) (fun _ => by simp) (Calm2.refl s)
    show (s.lenQ x).2 ≠ 11 ∧ (s.lenQ x).2 ≠ 12
    unfold R.lenQ; split
    · split <;> simp
    · simp; omega
  · refine bs_other ?_ (by simp) (fun _ => by simp) (Calm2.refl s)
    show (s.textQ x).2 ≠ 11 ∧ (s.textQ x).2 ≠ 12
    unfold R.textQ; split
    · split <;> simp
    · simp; omega
  · refine bs_other ?_ (by simp) (fun _ => by simp) (Calm2.refl s)
    show (s.placeQ x).2 ≠ 11 ∧ (s.placeQ x).2 ≠ 12
    unfold R.placeQ; split <;> simp; omega
  · refine bs_other ?_ (by simp) (fun _ => by simp) (Calm2.refl s)
    show s.wordsE ≠ 11 ∧ s.wordsE ≠ 12
    unfold R.wordsE; split <;> simp
  · refine bs_value (q := s.getQ x y) rfl rfl rfl (by simp) ?_
    have le := element_e s x y (0, 0)
    unfold R.getQ
    split
    · rcases outer_book s ((s.objOf (s.element x y (0, 0)).1).vals.getD y.toNat (0, 0)) with h | h | h
      · exact .inr (.inl h)
      · exact .inr (.inr (.inl h))
      · exact .inr (.inr (.inr h))
    · rename_i h0
      exact .inl ⟨h0, by simp; omega, by simp; omega, rfl⟩
  · refine bs_other ?_ (by simp) (fun _ => by simp) ?_
    · show (s.setQ x y v).1 ≠ 11 ∧ (s.setQ x y v).1 ≠ 12
      have le := element_e s x y v
      unfold R.setQ; split <;> simp; omega
    · show Calm2 s (s.setQ x y v).2
      unfold R.setQ; split <;> exact ⟨rfl, rfl⟩
  · refine bs_other ?_ (by simp) (fun _ => by simp) (Calm2.refl s)
    show (s.sameQ x y).2 ≠ 11 ∧ (s.sameQ x y).2 ≠ 12
    have le := two_e s x y
    unfold R.sameQ; simp; omega
  · refine bs_value (q := s.findQ x k) rfl rfl rfl (by simp) ?_
    have le := table_e s x k (0, 0)
    unfold R.findQ
    repeat' split
    all_goals first
      | (rcases outer_book s _ with h | h | h
         · exact .inr (.inl h)
         · exact .inr (.inr (.inl h))
         · exact .inr (.inr (.inr h)))
      | (refine .inl ⟨?_, ?_, ?_, rfl⟩ <;> simp <;> omega)
  · refine bs_other ?_ (by simp) (fun _ => by simp) ?_
    · show (s.putQ x k v).1 ≠ 11 ∧ (s.putQ x k v).1 ≠ 12
      have le := table_e s x k v
      unfold R.putQ
      repeat' split
      all_goals (simp <;> omega)
    · show Calm2 s (s.putQ x k v).2
      unfold R.putQ
      repeat' split
      all_goals exact ⟨rfl, rfl⟩
  · refine bs_other ?_ (by simp) (fun _ => by simp) ?_
    · show (s.cutQ x k).1 ≠ 11 ∧ (s.cutQ x k).1 ≠ 12
      have le := table_e s x k (0, 0)
      unfold R.cutQ
      repeat' split
      all_goals (simp <;> omega)
    · show Calm2 s (s.cutQ x k).2
      unfold R.cutQ
      repeat' split
      all_goals exact ⟨rfl, rfl⟩
  · refine bs_value (q := s.keyQ x y) rfl rfl rfl (by simp) ?_
    unfold R.keyQ
    repeat' split
    all_goals first
      | (rcases outer_book s _ with h | h | h
         · exact .inr (.inl h)
         · exact .inr (.inr (.inl h))
         · exact .inr (.inr (.inr h)))
      | (refine .inl ⟨?_, ?_, ?_, rfl⟩ <;> simp <;> omega)
  · by_cases h16 : s.scopes = 16
    · refine bs_other ?_ (by simp) ?_ ?_
      · show s.openQ.2.1 ≠ 11 ∧ s.openQ.2.1 ≠ 12
        unfold R.openQ; rw [hd, if_neg (by simp), if_pos h16]; simp
      · show s.openQ.2.1 = 0 → _
        unfold R.openQ; rw [hd, if_neg (by simp), if_pos h16]; simp
      · show Calm2 s s.openQ.2.2
        unfold R.openQ; rw [hd, if_neg (by simp), if_pos h16]; exact Calm2.refl s
    · have e : s.openQ = (s.scopes + 1, 0, { s with scopes := s.scopes + 1 }) := by unfold R.openQ; rw [if_neg (by rw [hd]; simp), if_neg h16]
      refine .opens (hq_plain (by simp)) ?_ rfl ?_ ?_ ?_
      · show s.openQ.2.1 = 0; rw [e]
      · show s.openQ.1 = _; rw [e]
      · show s.openQ.2.2.handles = _; rw [e]
      · show s.openQ.2.2.scopes = _; rw [e]
  · by_cases hx : x = 0 ∨ x ≠ s.scopes
    · have e : s.closeQ x = (10, s) := by unfold R.closeQ; rw [if_neg (by rw [hd]; simp), if_pos hx]
      refine bs_other ?_ (by simp) ?_ ?_
      · show (s.closeQ x).1 ≠ 11 ∧ (s.closeQ x).1 ≠ 12; rw [e]; simp
      · show (s.closeQ x).1 = 0 → _; rw [e]; simp
      · show Calm2 s (s.closeQ x).2; rw [e]; exact Calm2.refl s
    · have e : s.closeQ x = (0, { s with handles := s.handles.map (RHan.shut x), scopes := s.scopes - 1 }) := by unfold R.closeQ; rw [if_neg (by rw [hd]; simp), if_neg hx]
      refine .ends (hq_plain (by simp)) ?_ (by simp) ?_ ?_
      · show (s.closeQ x).1 = 0; rw [e]
      · show (s.closeQ x).2.handles = _
        rw [e]
        refine List.map_congr_left fun g _ => ?_
        simp [endQ, endIs, RHan.shut]
      · show (s.closeQ x).2.scopes = _; rw [e]; rfl
  · refine bs_handle (q := s.escapeQ x) rfl rfl rfl (by simp) ?_
    unfold R.escapeQ
    split
    · split
      · exact .inl ⟨by simp, by simp, by simp, rfl⟩
      · rcases handle_book s (s.look1 x).1 (s.scopes - 1) with h | h
        · exact .inr (.inl h)
        · exact .inr (.inr h)
    · rename_i h0
      exact .inl ⟨h0, by simp; omega, by simp; omega, rfl⟩
  · refine bs_handle (q := s.keepQ x) rfl rfl rfl (by simp) ?_
    unfold R.keepQ
    split
    · rcases handle_book s (s.look1 x).1 (-1) with h | h
      · exact .inr (.inl h)
      · exact .inr (.inr h)
    · rename_i h0
      exact .inl ⟨h0, by simp; omega, by simp; omega, rfl⟩
  · by_cases h0 : (s.look1 x).2 = 0
    · have hl0 := look1_eq s x
      rw [hd] at hl0
      cases hf : s.find? x with
      | none =>
        rw [hf] at hl0
        simp only [Bool.false_eq_true, if_false] at hl0
        rw [hl0] at h0
        simp at h0
      | some q =>
        by_cases hs : (s.handles.getD q rhan0).scope = -1
        · have e : s.releaseQ x = (0, { s with handles := s.handles.set q (s.handles.getD q rhan0).off }) := by
            unfold R.releaseQ
            rw [if_pos h0, hf]
            show (if (s.handles.getD q rhan0).scope = -1 then _ else _) = _
            rw [if_pos hs]
            rfl
          refine .ends (hq_plain (by simp)) ?_ (by simp) ?_ ?_
          · show (s.releaseQ x).1 = 0; rw [e]
          · show (s.releaseQ x).2.handles = _; rw [e]; exact release_map ha.num hf
          · show (s.releaseQ x).2.scopes = _; rw [e]; rfl
        · have e : s.releaseQ x = (10, s) := by
            unfold R.releaseQ
            rw [if_pos h0, hf]
            show (if (s.handles.getD q rhan0).scope = -1 then _ else _) = _
            rw [if_neg hs]
          refine bs_other ?_ (by simp) ?_ ?_
          · show (s.releaseQ x).1 ≠ 11 ∧ (s.releaseQ x).1 ≠ 12; rw [e]; simp
          · show (s.releaseQ x).1 = 0 → _; rw [e]; simp
          · show Calm2 s (s.releaseQ x).2; rw [e]; exact Calm2.refl s
    · have e : s.releaseQ x = ((s.look1 x).2, s) := by unfold R.releaseQ; rw [if_neg h0]
      refine bs_other ?_ (by simp) ?_ ?_
      · show (s.releaseQ x).1 ≠ 11 ∧ (s.releaseQ x).1 ≠ 12; rw [e]; simp; omega
      · show (s.releaseQ x).1 = 0 → _; rw [e]; intro h; exact absurd h h0
      · show Calm2 s (s.releaseQ x).2; rw [e]; exact Calm2.refl s
  · refine bs_other ?_ (by simp) (fun _ => by simp) ?_
    · show s.collectQ.1 ≠ 11 ∧ s.collectQ.1 ≠ 12
      unfold R.collectQ; split <;> simp
    · show Calm2 s s.collectQ.2
      unfold R.collectQ; split <;> exact ⟨rfl, rfl⟩
  · refine bs_make (q := s.joinQ x y) rfl rfl rfl (by simp) ?_
    have le := two_e s x y
    unfold R.joinQ
    split
    · split
      · split
        · exact .inl ⟨by simp, by simp, by simp, rfl⟩
        · rcases make_book s _ with h | h | h
          · exact .inr (.inl h)
          · exact .inr (.inr (.inl h))
          · exact .inr (.inr (.inr h))
      · exact .inl ⟨by simp, by simp, by simp, rfl⟩
    · rename_i h0
      exact .inl ⟨h0, by simp; omega, by simp; omega, rfl⟩
  · refine bs_make (q := s.copyQ x) rfl rfl rfl (by simp) ?_
    unfold R.copyQ
    split
    · rcases make_book s _ with h | h | h
      · exact .inr (.inl h)
      · exact .inr (.inr (.inl h))
      · exact .inr (.inr (.inr h))
    · rename_i h0
      exact .inl ⟨h0, by simp; omega, by simp; omega, rfl⟩
end Go.Proofs.Ytfoncalkgmeklaa

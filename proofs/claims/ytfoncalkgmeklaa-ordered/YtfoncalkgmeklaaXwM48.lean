import Derived.Test.YtfoncalkgmeklaaXwM45
import Derived.BigQuiet

/- The book of handles, beside the heap: its cells, and the lowest free slot. -/
namespace Go.Proofs.Ytfoncalkgmeklaa
open Go.RowKit

def bools (l : List Bool) : List Value := l.map Value.bool
theorem bools_append (a b : List Bool) : bools (a ++ b) = bools a ++ bools b := by simp [bools]
theorem bools_ones (l : List Bool) : ∀ u ∈ bools l, u.oneCell' = true := by
  intro u hu
  obtain ⟨b, _, rfl⟩ := List.mem_map.1 hu
  rfl
/-- A book that lies at bb, beside a heap of the blocks F, made since w0. -/
structure BKr (w0 w : World) (bb : Nat) (ns ss : List Int) (ls : List Bool) (ps : List Int) (op : Int) (na sa la : Option Addr) (nc sc lc : Nat) (F : List Nat) : Prop where
  blk : Blk w bb ([.slice na ns.length nc, .slice sa ss.length sc, .slice la ls.length lc] ++ (ints ps ++ [.int .i64 op])) 47
  nums : w.ownsRow 0 3 1 (.slice na ns.length nc) ns.length (ints ns)
  scs : w.ownsRow 0 3 1 (.slice sa ss.length sc) ss.length (ints ss)
  live : w.ownsRow 0 4 1 (.slice la ls.length lc) ls.length (bools ls)
  plen : ps.length = 32
  apart : ∀ x ∈ ab na, x ∉ ab sa
  out : ∀ x ∈ bb :: (ab na ++ (ab sa ++ ab la)), x ∉ F ∧ w0.heap.size ≤ x
section
variable {w0 w : World} {bb : Nat} {ns ss : List Int} {ls : List Bool} {ps : List Int} {op : Int} {na sa la : Option Addr} {nc sc lc : Nat} {F : List Nat}
theorem BKr.bn (h : BKr w0 w bb ns ss ls ps op na sa la nc sc lc F) : bb ∉ ab na ∧ bb ∉ ab sa ∧ bb ∉ ab la := by
  refine ⟨fun hm => ?_, fun hm => ?_, fun hm => ?_⟩
  · exact (owns_ty h.nums bb hm).ne (T' := 47) (by decide) h.blk.ty
  · exact (owns_ty h.scs bb hm).ne (T' := 47) (by decide) h.blk.ty
  · exact (owns_ty h.live bb hm).ne (T' := 47) (by decide) h.blk.ty
theorem BKr.nl (h : BKr w0 w bb ns ss ls ps op na sa la nc sc lc F) : (∀ x ∈ ab na, x ∉ ab la) ∧ (∀ x ∈ ab sa, x ∉ ab la) :=
  ⟨fun x hx hy => (owns_ty h.nums x hx).ne (T' := 4) (by decide) (owns_ty h.live x hy), fun x hx hy => (owns_ty h.scs x hx).ne (T' := 4) (by decide) (owns_ty h.live x hy)⟩
theorem BKr.lt (h : BKr w0 w bb ns ss ls ps op na sa la nc sc lc F) : ∀ x ∈ bb :: (ab na ++ (ab sa ++ ab la)), x < w.heap.size := by
  intro x hx
  rcases List.mem_cons.1 hx with rfl | hx
  · exact h.blk.lt
  · rcases List.mem_append.1 hx with h1 | h1
    · exact own_lt h.nums x h1
    · rcases List.mem_append.1 h1 with h2 | h2
      · exact own_lt h.scs x h2
      · exact own_lt h.live x h2
theorem BKr.chg (h : BKr w0 w bb ns ss ls ps op na sa la nc sc lc F) {w' : World} {S : List Nat} (k : Chg S w w') (hS : ∀ x ∈ bb :: (ab na ++ (ab sa ++ ab la)), x ∉ S) : BKr w0 w' bb ns ss ls ps op na sa la nc sc lc F :=
  ⟨h.blk.chg k (hS _ List.mem_cons_self), owns_chg h.nums k (fun g hg => hS g (List.mem_cons_of_mem _ (List.mem_append_left _ (ownBlock_ab hg)))), owns_chg h.scs k (fun g hg => hS g (List.mem_cons_of_mem _ (List.mem_append_right _ (List.mem_append_left _ (ownBlock_ab hg))))),
    owns_chg h.live k (fun g hg => hS g (List.mem_cons_of_mem _ (List.mem_append_right _ (List.mem_append_right _ (ownBlock_ab hg))))), h.plen, h.apart, h.out⟩
theorem BKr.quiet (h : BKr w0 w bb ns ss ls ps op na sa la nc sc lc F) {w' : World} (k : Chg [] w w') : BKr w0 w' bb ns ss ls ps op na sa la nc sc lc F := h.chg k (by simp)
theorem BKr.stp (h : BKr w0 w bb ns ss ls ps op na sa la nc sc lc F) {w' : World} {F' : List Nat} (st : Stp F w F' w') : BKr w0 w' bb ns ss ls ps op na sa la nc sc lc F' := by
  have h1 := h.chg st.chg (fun x hx => (h.out x hx).1)
  refine ⟨h1.blk, h1.nums, h1.scs, h1.live, h1.plen, h1.apart, fun x hx => ⟨fun hm => ?_, (h.out x hx).2⟩⟩
  rcases st.foot x hm with h8 | h8
  · exact (h.out x hx).1 h8
  · have := h.lt x hx; omega
theorem BKr.cells (h : BKr w0 w bb ns ss ls ps op na sa la nc sc lc F) : w.cell? ⟨bb, 0, none⟩ = some (.slice na ns.length nc) ∧ w.cell? ⟨bb, 1, none⟩ = some (.slice sa ss.length sc) ∧ w.cell? ⟨bb, 2, none⟩ = some (.slice la ls.length lc) ∧ w.cell? ⟨bb, 35, none⟩ = some (.int .i64 op) := by
  refine ⟨h.blk.cell_of rfl, h.blk.cell_of rfl, h.blk.cell_of rfl, h.blk.cell_of ?_⟩
  have := h.plen
  rw [List.getElem?_append_right (by simp), List.getElem?_append_right (by simp [ints]; omega)]
  simp [ints, this]
theorem BKr.pastAt (h : BKr w0 w bb ns ss ls ps op na sa la nc sc lc F) {k : Nat} (hk : k < 32) : w.cell? ⟨bb, 3 + k, none⟩ = some (.int .i64 (ps.getD k 0)) := by
  have := h.plen
  refine h.blk.cell_of ?_
  rw [List.getElem?_append_right (by simp), List.getElem?_append_left (by simp [ints]; omega)]
  simp [ints, List.getD, this, hk]
theorem BKr.numAt (h : BKr w0 w bb ns ss ls ps op na sa la nc sc lc F) {i : Nat} (hi : i < ns.length) : ∃ g, na = some ⟨g, 0, none⟩ ∧ w.cell? ⟨g, i, none⟩ = some (.int .i64 (ns.getD i 0)) := by
  obtain ⟨g, e, _, hc⟩ := owns_at h.nums (by omega)
  exact ⟨g, e, hc i _ (ints_at hi)⟩
theorem BKr.scAt (h : BKr w0 w bb ns ss ls ps op na sa la nc sc lc F) {i : Nat} (hi : i < ss.length) : ∃ g, sa = some ⟨g, 0, none⟩ ∧ w.cell? ⟨g, i, none⟩ = some (.int .i64 (ss.getD i 0)) := by
  obtain ⟨g, e, _, hc⟩ := owns_at h.scs (by omega)
  exact ⟨g, e, hc i _ (ints_at hi)⟩
theorem BKr.liveAt (h : BKr w0 w bb ns ss ls ps op na sa la nc sc lc F) {i : Nat} (hi : i < ls.length) : ∃ g, la = some ⟨g, 0, none⟩ ∧ w.cell? ⟨g, i, none⟩ = some (.bool (ls.getD i false)) ∧ w.frozen? ⟨g, i, none⟩ = false := by
  obtain ⟨g, rfl, _, hc⟩ := owns_at h.live (by omega)
  obtain ⟨rest, hb, _⟩ := owns_blk h.live
  exact ⟨g, rfl, hc i _ (by simp [bools, List.getD, hi]), hb.frozen _⟩
/-- A cell of the book itself is written. -/
theorem BKr.setPast (h : BKr w0 w bb ns ss ls ps op na sa la nc sc lc F) {k : Nat} (hk : k < 32) (v : Int) : BKr w0 (w.setCell ⟨bb, 3 + k, none⟩ (.int .i64 v)) bb ns ss ls (ps.set k v) op na sa la nc sc lc F := by
  have hb := h.blk.setCell (3 + k) (.int .i64 v)
  have hl := h.plen
  rw [List.set_append_right _ _ (by simp), List.set_append_left _ _ (by simp [ints]; omega), show 3 + k - ([.slice na ns.length nc, .slice sa ss.length sc, .slice la ls.length lc] : List Value).length = k by simp] at hb
  have k1 : Chg [bb] w (w.setCell ⟨bb, 3 + k, none⟩ (.int .i64 v)) := (Chg.refl _ w).setCell (.inl (by simp)) _
  obtain ⟨b1, b2, b3⟩ := h.bn
  refine ⟨by simpa [ints, List.map_set] using hb, owns_chg h.nums k1 (fun g hg e => b1 (by simp at e; rw [← e]; exact ownBlock_ab hg)), owns_chg h.scs k1 (fun g hg e => b2 (by simp at e; rw [← e]; exact ownBlock_ab hg)), owns_chg h.live k1 (fun g hg e => b3 (by simp at e; rw [← e]; exact ownBlock_ab hg)), by simpa using hl, h.apart, h.out⟩
theorem BKr.setOpen (h : BKr w0 w bb ns ss ls ps op na sa la nc sc lc F) (v : Int) : BKr w0 (w.setCell ⟨bb, 35, none⟩ (.int .i64 v)) bb ns ss ls ps v na sa la nc sc lc F := by
  have hb := h.blk.setCell 35 (.int .i64 v)
  have hl := h.plen
  rw [List.set_append_right _ _ (by simp), List.set_append_right _ _ (by simp [ints]; omega), show 35 - ([.slice na ns.length nc, .slice sa ss.length sc, .slice la ls.length lc] : List Value).length - (ints ps).length = 0 by simp [ints, hl]] at hb
  have k1 : Chg [bb] w (w.setCell ⟨bb, 35, none⟩ (.int .i64 v)) := (Chg.refl _ w).setCell (.inl (by simp)) _
  obtain ⟨b1, b2, b3⟩ := h.bn
  refine ⟨by simpa using hb, owns_chg h.nums k1 (fun g hg e => b1 (by simp at e; rw [← e]; exact ownBlock_ab hg)), owns_chg h.scs k1 (fun g hg e => b2 (by simp at e; rw [← e]; exact ownBlock_ab hg)), owns_chg h.live k1 (fun g hg e => b3 (by simp at e; rw [← e]; exact ownBlock_ab hg)), hl, h.apart, h.out⟩
theorem BKr.setLive (h : BKr w0 w bb ns ss ls ps op na sa la nc sc lc F) {g i : Nat} (hg : la = some ⟨g, 0, none⟩) (hi : i < ls.length) (v : Bool) : BKr w0 (w.setCell ⟨g, i, none⟩ (.bool v)) bb ns ss (ls.set i v) ps op na sa la nc sc lc F := by
  subst hg
  have hgm : g ∈ ab (some (⟨g, 0, none⟩ : Addr)) := by simp [ab]
  have k1 : Chg [g] w (w.setCell ⟨g, i, none⟩ (.bool v)) := (Chg.refl _ w).setCell (.inl (by simp)) _
  obtain ⟨b1, b2, b3⟩ := h.bn
  obtain ⟨l1, l2⟩ := h.nl
  have hll : (ls.set i v).length = ls.length := by simp
  obtain ⟨rest, hb, h1, h2, h3, _⟩ := owns_blk h.live
  have hb' := hb.setCell i (.bool v)
  rw [List.set_append_left _ _ (by simp [bools]; exact hi)] at hb'
  have hown := hb'.owns (size := 1) (base := 0) (n := ls.length) (cap := lc) (Nat.zero_le _) h1 h2 (by simpa using h3)
  rw [List.take_append_of_le_length (by simp [bools]), List.take_of_length_le (by simp [bools])] at hown
  refine ⟨by rw [hll]; exact h.blk.chg k1 (fun e => b3 (by simp at e; rw [e]; exact hgm)), owns_chg h.nums k1 (fun y hy e => l1 y (ownBlock_ab hy) (by simp at e; rw [e]; exact hgm)), owns_chg h.scs k1 (fun y hy e => l2 y (ownBlock_ab hy) (by simp at e; rw [e]; exact hgm)), ?_, h.plen, h.apart, h.out⟩
  rw [hll]
  simpa [bools, List.map_set] using hown
end

/-! The lowest slot that no live handle has -/
def slotFreeQ (hs : List RHan) (k : Nat) : Bool := !(hs.any fun h => h.live && h.num % 32 == (k : Int))
def lowQ (hs : List RHan) : Int := match (List.range 32).find? (slotFreeQ hs) with | some k => (k : Int) | none => -1
def pastOf (hs : List RHan) : List Int := (List.range 32).map fun (k : Nat) => (hs.countP (sameSlot (k : Int)) : Int)
abbrev BK (w0 w : World) (bb : Nat) (hs : List RHan) (op : Int) (na sa la : Option Addr) (nc sc lc : Nat) (F : List Nat) : Prop := BKr w0 w bb (hs.map RHan.num) (hs.map RHan.scope) (hs.map RHan.live) (pastOf hs) op na sa la nc sc lc F
theorem any_take {hs : List RHan} {i k : Nat} {h : RHan} (e : hs[i]? = some h) : ((hs.take (i + 1)).any fun h => h.live && h.num % 32 == (k : Int)) = (((hs.take i).any fun h => h.live && h.num % 32 == (k : Int)) || (h.live && h.num % 32 == (k : Int))) := by
  obtain ⟨hlt, rfl⟩ := List.getElem?_eq_some_iff.1 e
  rw [List.take_succ_eq_append_getElem hlt, List.any_append]
  simp
set_option maxRecDepth 100000 in
set_option maxHeartbeats 4000000 in
theorem lowest_any {w0 w : World} {bb : Nat} {hs : List RHan} {op : Int} {na sa la : Option Addr} {nc sc lc : Nat} {F : List Nat} (h : BK w0 w bb hs op na sa la nc sc lc F) (hn : ∀ g ∈ hs, 0 ≤ g.num) (hl : hs.length ≤ 8796093022208) :
    Calls Try.prog 50 #[.pointer (some ⟨bb, 0, none⟩)] w fun e w' => e = .returned (.int .i64 (lowQ hs)) ∧ w' = w := by
  have hnl : (hs.map RHan.num).length = hs.length := by simp
  obtain ⟨c0, _, c2, _⟩ := h.cells
  rw [hnl] at c0
  have hll : (hs.map RHan.live).length = hs.length := by simp
  rw [hll] at c2
  have hcell : ∀ i h', hs[i]? = some h' → ∃ gn gl, na = some ⟨gn, 0, none⟩ ∧ la = some ⟨gl, 0, none⟩ ∧ w.cell? ⟨gn, i, none⟩ = some (.int .i64 h'.num) ∧ w.cell? ⟨gl, i, none⟩ = some (.bool h'.live) := fun i h' e => by
    have hi := (List.getElem?_eq_some_iff.1 e).1
    obtain ⟨gn, e1, q1⟩ := h.numAt (i := i) (by rw [hnl]; exact hi)
    obtain ⟨gl, e2, q2, _⟩ := h.liveAt (i := i) (by rw [hll]; exact hi)
    refine ⟨gn, gl, e1, e2, ?_, ?_⟩
    · rw [q1]; simp [List.getD, e]
    · rw [q2]; simp [List.getD, e]
  have HC := hide hcell; have HN := hide hn; clear hcell hn h
  go_enter Try.func50, Try.ntmps50
  go_wp2_with fail
  go_loopw [3, 4, 5] (fun k _ _ wr => ∃ k' : Nat, k' ≤ 32 ∧ k = .int .i64 k' ∧ wr = w ∧ ∀ j, j < k' → slotFreeQ hs j = false) (fun k _ _ _ => 32 - (intOf k).toNat)
  case atStart => exact ⟨0, by omega, rfl, rfl, by omega⟩
  case round =>
    obtain ⟨k, hk, rfl, rfl, hpre⟩ := hrel
    have HPRE := hide hpre; clear hpre
    by_cases hlt : k < 32
    · have zk : (k : Int) < 32 := by omega
      go_wp2_with fail
      go_loopw [4, 5] (fun fr i wq => ∃ i' : Nat, i' ≤ hs.length ∧ i = .int .i64 i' ∧ fr = .bool (!((hs.take i').any fun h => h.live && h.num % 32 == (k : Int))) ∧ wq = wr) (fun _ i _ => hs.length - (intOf i).toNat)
      case atStart => exact ⟨0, Nat.zero_le _, rfl, by simp, rfl⟩
      case round =>
        obtain ⟨i, hi, rfl, rfl, rfl⟩ := hrel
        by_cases hil : i < hs.length
        · obtain ⟨g, hg⟩ : ∃ g, hs[i]? = some g := ⟨_, List.getElem?_eq_getElem hil⟩
          obtain ⟨gn, gl, rfl, rfl, q1, q2⟩ := unhide HC i g hg
          have hat := any_take (k := k) hg
          have hg0 := unhide HN g (List.mem_of_getElem? hg)
          have hm : Int.tmod g.num 32 = g.num % 32 := Int.tmod_eq_emod_of_nonneg hg0
          have zi : (i : Int) < (hs.length : Int) := by omega
          generalize ((hs.take i).any fun h => h.live && h.num % 32 == (k : Int)) = b at *
          have HAT := hide hat; clear hat hg
          cases b with
          | true =>
            go_wp2
            go_roundw
            case rel => exact ⟨i + 1, by omega, by go_num, by rw [unhide HAT]; simp, by first | rfl | trivial⟩
            case measure => simp [intOf]; omega
          | false =>
            obtain ⟨gnum, gsc, gob, glv⟩ := g
            simp only at *
            cases glv with
            | false =>
              go_wp2
              go_roundw
              case rel => exact ⟨i + 1, by omega, by go_num, by rw [unhide HAT]; simp, by first | rfl | trivial⟩
              case measure => simp [intOf]; omega
            | true =>
              by_cases hek : gnum % 32 = (k : Int)
              · have hb : (gnum % 32 == (k : Int)) = true := by simp [hek]
                go_wp2
                go_roundw
                case rel => exact ⟨i + 1, by omega, by go_num, by rw [unhide HAT]; simp [hek], by first | rfl | trivial⟩
                case measure => simp [intOf]; omega
              · have hb : (gnum % 32 == (k : Int)) = false := by simp [hek]
                go_wp2
                go_roundw
                case rel => exact ⟨i + 1, by omega, by go_num, by rw [unhide HAT]; simp [hek], by first | rfl | trivial⟩
                case measure => simp [intOf]; omega
        · have hie : i = hs.length := by omega
          subst hie
          rw [List.take_length]
          have hfr : slotFreeQ hs k = !(hs.any fun h => h.live && h.num % 32 == (k : Int)) := rfl
          generalize (hs.any fun h => h.live && h.num % 32 == (k : Int)) = b at *
          have HFR := hide hfr; clear hfr
          cases b with
          | true =>
            go_wp2
            go_roundw
            case rel =>
              refine ⟨k + 1, by omega, by go_num, by first | rfl | trivial, fun j hj => ?_⟩
              by_cases hjk : j < k
              · exact unhide HPRE j hjk
              · have : j = k := by omega
                subst this
                rw [unhide HFR]; rfl
            case measure => simp [intOf]; omega
          | false =>
            have hlow : lowQ hs = (k : Int) := by
              have : (List.range 32).find? (slotFreeQ hs) = some k := by
                rw [List.find?_eq_some_iff_getElem]
                refine ⟨by rw [unhide HFR]; rfl, k, by simpa using hlt, by simp, fun j hj => ?_⟩
                simp only [List.getElem_range]
                rw [unhide HPRE j hj]
                rfl
              unfold lowQ
              rw [this]
            have HLOW := hide hlow; clear hlow
            go_wp2
            go_ret
            exact ⟨by rw [unhide HLOW]; rfl, by first | rfl | trivial⟩
    · have hk32 : k = 32 := by omega
      subst hk32
      have hlow : lowQ hs = -1 := by
        have : (List.range 32).find? (slotFreeQ hs) = none := by
          rw [List.find?_eq_none]
          intro j hj
          rw [unhide HPRE j (List.mem_range.1 hj)]
          simp
        unfold lowQ
        rw [this]
      have HLOW := hide hlow; clear hlow
      go_wp2
      go_ret
      exact ⟨by rw [unhide HLOW]; rfl, by first | rfl | trivial⟩
end Go.Proofs.Ytfoncalkgmeklaa

/- The book of handles: a handle more, and handles that end. -/
namespace Go.Proofs.Ytfoncalkgmeklaa
open Go.RowKit

theorem infoB : (Try.prog.info? 4).map (fun i => (i.zero, i.size, i.bytes)) = some (some (.bool false), 1, 1) := by kernel_rfl
section
variable {w0 w w1 : World} {bb : Nat} {ns ss : List Int} {ls : List Bool} {ps : List Int} {op : Int} {na sa la : Option Addr} {nc sc lc : Nat} {F : List Nat}
theorem BKr.pushNums (h : BKr w0 w bb ns ss ls ps op na sa la nc sc lc F) (hw : w0.heap.size ≤ w.heap.size) (hF : ∀ b ∈ F, b < w.heap.size) (o : Obj) {x : Int} {va : Option Addr} {cap H : Nat}
    (ho : w1.ownsRow 0 3 1 (.slice va (ns.length + 1) cap) (ns.length + 1) (ints ns ++ ints [x])) (hg : (w.alloc o).grownBy w1 (Value.slice na ns.length nc).ownBlock) (hH : w.heap.size ≤ H)
    (hat : (Value.slice va (ns.length + 1) cap).ownBlock = (Value.slice na ns.length nc).ownBlock ∨ (Value.slice va (ns.length + 1) cap).ownBlock = some H) :
    BKr w0 (w1.setCell ⟨bb, 0, none⟩ (.slice va (ns.length + 1) cap)) bb (ns ++ [x]) ss ls ps op va sa la cap sc lc F ∧ Chg (bb :: ab na) w (w1.setCell ⟨bb, 0, none⟩ (.slice va (ns.length + 1) cap)) ∧ w1.cell? ⟨bb, 0, none⟩ = some (.slice na ns.length nc) ∧ w1.frozen? ⟨bb, 0, none⟩ = false ∧ (∀ y ∈ ab va, y ∈ ab na ∨ w.heap.size ≤ y) := by
  have k1 : Chg (ab na) w w1 := grown_ab (S := []) ((Chg.refl [] w).alloc o) hg
  obtain ⟨b1, b2, b3⟩ := h.bn
  obtain ⟨l1, l2⟩ := h.nl
  have hb1 := h.blk.chg k1 b1
  have hv : ∀ y ∈ ab va, y ∈ ab na ∨ w.heap.size ≤ y := at_ab hH hat
  have kc : Chg [bb] w1 (w1.setCell ⟨bb, 0, none⟩ (.slice va (ns.length + 1) cap)) := (Chg.refl _ w1).setCell (.inl (by simp)) _
  have hl : (ns ++ [x]).length = ns.length + 1 := by simp
  have nb : ∀ {e : TypeId} {A : Option Addr} {n c m : Nat} {xs : List Value}, e ≠ 47 → w1.ownsRow 0 e 1 (.slice A n c) m xs → ∀ g, (Value.slice A n c).ownBlock = some g → g ∉ [bb] := fun he hw g hgv hm => by
    simp at hm
    exact (owns_ty hw g (ownBlock_ab hgv)).ne he (by rw [hm]; exact hb1.ty)
  have o2 := owns_chg h.scs k1 (fun g hg' hm => h.apart g hm (ownBlock_ab hg'))
  have o3 := owns_chg h.live k1 (fun g hg' hm => l1 g hm (ownBlock_ab hg'))
  refine ⟨⟨by rw [hl]; exact hb1.setCell 0 _, by rw [hl, ints_append]; exact owns_chg ho kc (nb (by decide) ho), owns_chg o2 kc (nb (by decide) o2), owns_chg o3 kc (nb (by decide) o3), h.plen, fun y hy hz => ?_, fun y hy => ?_⟩, (k1.mono (fun y hy => List.mem_cons_of_mem _ hy)).setCell (.inl (by simp)) _, hb1.cell_of rfl, hb1.frozen _, hv⟩
  · rcases hv y hy with h1 | h1
    · exact h.apart y h1 hz
    · have := own_lt h.scs y hz; omega
  · rcases List.mem_cons.1 hy with rfl | hy
    · exact h.out _ List.mem_cons_self
    · rcases List.mem_append.1 hy with h1 | h1
      · rcases hv y h1 with h2 | h2
        · exact h.out y (List.mem_cons_of_mem _ (List.mem_append_left _ h2))
        · exact ⟨fun hm => by have := hF y hm; omega, by omega⟩
      · exact h.out y (List.mem_cons_of_mem _ (List.mem_append_right _ h1))
theorem BKr.pushScs (h : BKr w0 w bb ns ss ls ps op na sa la nc sc lc F) (hw : w0.heap.size ≤ w.heap.size) (hF : ∀ b ∈ F, b < w.heap.size) (o : Obj) {x : Int} {va : Option Addr} {cap H : Nat}
    (ho : w1.ownsRow 0 3 1 (.slice va (ss.length + 1) cap) (ss.length + 1) (ints ss ++ ints [x])) (hg : (w.alloc o).grownBy w1 (Value.slice sa ss.length sc).ownBlock) (hH : w.heap.size ≤ H)
    (hat : (Value.slice va (ss.length + 1) cap).ownBlock = (Value.slice sa ss.length sc).ownBlock ∨ (Value.slice va (ss.length + 1) cap).ownBlock = some H) :
    BKr w0 (w1.setCell ⟨bb, 1, none⟩ (.slice va (ss.length + 1) cap)) bb ns (ss ++ [x]) ls ps op na va la nc cap lc F ∧ Chg (bb :: ab sa) w (w1.setCell ⟨bb, 1, none⟩ (.slice va (ss.length + 1) cap)) ∧ w1.cell? ⟨bb, 1, none⟩ = some (.slice sa ss.length sc) ∧ w1.frozen? ⟨bb, 1, none⟩ = false ∧ (∀ y ∈ ab va, y ∈ ab sa ∨ w.heap.size ≤ y) := by
  have k1 : Chg (ab sa) w w1 := grown_ab (S := []) ((Chg.refl [] w).alloc o) hg
  obtain ⟨b1, b2, b3⟩ := h.bn
  obtain ⟨l1, l2⟩ := h.nl
  have hb1 := h.blk.chg k1 b2
  have hv : ∀ y ∈ ab va, y ∈ ab sa ∨ w.heap.size ≤ y := at_ab hH hat
  have kc : Chg [bb] w1 (w1.setCell ⟨bb, 1, none⟩ (.slice va (ss.length + 1) cap)) := (Chg.refl _ w1).setCell (.inl (by simp)) _
  have hl : (ss ++ [x]).length = ss.length + 1 := by simp
  have nb : ∀ {e : TypeId} {A : Option Addr} {n c m : Nat} {xs : List Value}, e ≠ 47 → w1.ownsRow 0 e 1 (.slice A n c) m xs → ∀ g, (Value.slice A n c).ownBlock = some g → g ∉ [bb] := fun he hw g hgv hm => by
    simp at hm
    exact (owns_ty hw g (ownBlock_ab hgv)).ne he (by rw [hm]; exact hb1.ty)
  have o1 := owns_chg h.nums k1 (fun g hg' hm => h.apart g (ownBlock_ab hg') hm)
  have o3 := owns_chg h.live k1 (fun g hg' hm => l2 g hm (ownBlock_ab hg'))
  refine ⟨⟨by rw [hl]; exact hb1.setCell 1 _, owns_chg o1 kc (nb (by decide) o1), by rw [hl, ints_append]; exact owns_chg ho kc (nb (by decide) ho), owns_chg o3 kc (nb (by decide) o3), h.plen, fun y hy hz => ?_, fun y hy => ?_⟩, (k1.mono (fun y hy => List.mem_cons_of_mem _ hy)).setCell (.inl (by simp)) _, hb1.cell_of rfl, hb1.frozen _, hv⟩
  · rcases hv y hz with h1 | h1
    · exact h.apart y hy h1
    · have := own_lt h.nums y hy; omega
  · rcases List.mem_cons.1 hy with rfl | hy
    · exact h.out _ List.mem_cons_self
    · rcases List.mem_append.1 hy with h1 | h1
      · exact h.out y (List.mem_cons_of_mem _ (List.mem_append_left _ h1))
      · rcases List.mem_append.1 h1 with h2 | h2
        · rcases hv y h2 with h3 | h3
          · exact h.out y (List.mem_cons_of_mem _ (List.mem_append_right _ (List.mem_append_left _ h3)))
          · exact ⟨fun hm => by have := hF y hm; omega, by omega⟩
        · exact h.out y (List.mem_cons_of_mem _ (List.mem_append_right _ (List.mem_append_right _ h2)))
theorem BKr.pushLive (h : BKr w0 w bb ns ss ls ps op na sa la nc sc lc F) (hw : w0.heap.size ≤ w.heap.size) (hF : ∀ b ∈ F, b < w.heap.size) (o : Obj) {x : Bool} {va : Option Addr} {cap H : Nat}
    (ho : w1.ownsRow 0 4 1 (.slice va (ls.length + 1) cap) (ls.length + 1) (bools ls ++ bools [x])) (hg : (w.alloc o).grownBy w1 (Value.slice la ls.length lc).ownBlock) (hH : w.heap.size ≤ H)
    (hat : (Value.slice va (ls.length + 1) cap).ownBlock = (Value.slice la ls.length lc).ownBlock ∨ (Value.slice va (ls.length + 1) cap).ownBlock = some H) :
    BKr w0 (w1.setCell ⟨bb, 2, none⟩ (.slice va (ls.length + 1) cap)) bb ns ss (ls ++ [x]) ps op na sa va nc sc cap F ∧ Chg (bb :: ab la) w (w1.setCell ⟨bb, 2, none⟩ (.slice va (ls.length + 1) cap)) ∧ w1.cell? ⟨bb, 2, none⟩ = some (.slice la ls.length lc) ∧ w1.frozen? ⟨bb, 2, none⟩ = false ∧ (∀ y ∈ ab va, y ∈ ab la ∨ w.heap.size ≤ y) := by
  have k1 : Chg (ab la) w w1 := grown_ab (S := []) ((Chg.refl [] w).alloc o) hg
  obtain ⟨b1, b2, b3⟩ := h.bn
  obtain ⟨l1, l2⟩ := h.nl
  have hb1 := h.blk.chg k1 b3
  have hv : ∀ y ∈ ab va, y ∈ ab la ∨ w.heap.size ≤ y := at_ab hH hat
  have kc : Chg [bb] w1 (w1.setCell ⟨bb, 2, none⟩ (.slice va (ls.length + 1) cap)) := (Chg.refl _ w1).setCell (.inl (by simp)) _
  have hl : (ls ++ [x]).length = ls.length + 1 := by simp
  have nb : ∀ {e : TypeId} {A : Option Addr} {n c m : Nat} {xs : List Value}, e ≠ 47 → w1.ownsRow 0 e 1 (.slice A n c) m xs → ∀ g, (Value.slice A n c).ownBlock = some g → g ∉ [bb] := fun he hw g hgv hm => by
    simp at hm
    exact (owns_ty hw g (ownBlock_ab hgv)).ne he (by rw [hm]; exact hb1.ty)
  have o1 := owns_chg h.nums k1 (fun g hg' hm => l1 g (ownBlock_ab hg') hm)
  have o2 := owns_chg h.scs k1 (fun g hg' hm => l2 g (ownBlock_ab hg') hm)
  refine ⟨⟨by rw [hl]; exact hb1.setCell 2 _, owns_chg o1 kc (nb (by decide) o1), owns_chg o2 kc (nb (by decide) o2), by rw [hl, bools_append]; exact owns_chg ho kc (nb (by decide) ho), h.plen, h.apart, fun y hy => ?_⟩, (k1.mono (fun y hy => List.mem_cons_of_mem _ hy)).setCell (.inl (by simp)) _, hb1.cell_of rfl, hb1.frozen _, hv⟩
  rcases List.mem_cons.1 hy with rfl | hy
  · exact h.out _ List.mem_cons_self
  · rcases List.mem_append.1 hy with h1 | h1
    · exact h.out y (List.mem_cons_of_mem _ (List.mem_append_left _ h1))
    · rcases List.mem_append.1 h1 with h2 | h2
      · exact h.out y (List.mem_cons_of_mem _ (List.mem_append_right _ (List.mem_append_left _ h2)))
      · rcases hv y h2 with h3 | h3
        · exact h.out y (List.mem_cons_of_mem _ (List.mem_append_right _ (List.mem_append_right _ h3)))
        · exact ⟨fun hm => by have := hF y hm; omega, by omega⟩
end

/-- The scope that the book writes down. -/
def noteScope (kind op : Int) : Int := if kind = 19 then -1 else if kind = 18 then op - 1 else op
theorem pastOf_at (hs : List RHan) {k : Nat} (hk : k < 32) : (pastOf hs).getD k 0 = (hs.countP (sameSlot (k : Int)) : Int) := by
  simp [pastOf, List.getD, hk]
theorem pastOf_push {hs : List RHan} {g : RHan} {k : Nat} (hk : k < 32) (hg : g.num % 32 = (k : Int)) : (pastOf hs).set k ((hs.countP (sameSlot (k : Int)) : Int) + 1) = pastOf (hs ++ [g]) := by
  apply List.ext_getElem?
  intro j
  rw [List.getElem?_set]
  unfold pastOf
  by_cases hj : j < 32
  · by_cases hjk : k = j
    · subst hjk
      simp [hj, List.countP_append, sameSlot, hg]
    · have : (sameSlot (j : Int) g) = false := by unfold sameSlot; rw [hg]; simp; omega
      simp [hjk, hj, List.countP_append, this]
  · have h1 : (List.map (fun (k : Nat) => ((hs.countP (sameSlot (k : Int)) : Nat) : Int)) (List.range 32))[j]? = none := by simp; omega
    have h2 : (List.map (fun (k : Nat) => (((hs ++ [g]).countP (sameSlot (k : Int)) : Nat) : Int)) (List.range 32))[j]? = none := by simp; omega
    rw [h2, if_neg (by omega), h1]
set_option maxRecDepth 100000 in
set_option maxHeartbeats 4000000 in
theorem note_any {w0 w : World} {bb : Nat} {hs : List RHan} {op : Int} {na sa la : Option Addr} {nc sc lc : Nat} {F : List Nat} (h : BK w0 w bb hs op na sa la nc sc lc F) (hn : ∀ g ∈ hs, 0 ≤ g.num) (hl : hs.length ≤ 8796093022208) (hw : w0.heap.size ≤ w.heap.size) (hF : ∀ b ∈ F, b < w.heap.size)
    (o : LOp) (x : Int) {k : Nat} (hk : lowQ hs = (k : Int)) (hk32 : k < 32) (hx : x = 32 * (hs.countP (sameSlot (k : Int)) : Int) + (k : Int)) (hop : 0 ≤ op ∧ op ≤ 16) {g : RHan} (hgn : g.num = x) (hgs : g.scope = noteScope o.kind op) (hgl : g.live = true) :
    Calls Try.prog 49 #[.pointer (some ⟨bb, 0, none⟩), o.val, .int .i64 x] w fun e w' => e = .returned (.bool true) ∧ ∃ na' sa' la' nc' sc' lc', BK w0 w' bb (hs ++ [g]) op na' sa' la' nc' sc' lc' F ∧ Stp (bb :: (ab na ++ (ab sa ++ ab la))) w (bb :: (ab na' ++ (ab sa' ++ ab la'))) w' := by
  obtain ⟨i0, hi0, hz0, hz1, hz2⟩ := info_parts info3
  obtain ⟨j0, hj0, hy0, hy1, hy2⟩ := info_parts infoB
  obtain ⟨hop0, hop1⟩ := hop
  have kb : Chg [] w (w.alloc (.cells #[.int .i64 o.kind, .int .i64 o.x, .int .i64 o.y, .int .i64 o.k.1, .int .i64 o.k.2, .int .i64 o.v.1, .int .i64 o.v.2, .string o.s] 35)) := (Chg.refl [] w).alloc _
  have hb0 := Blk.new w [.int .i64 o.kind, .int .i64 o.x, .int .i64 o.y, .int .i64 o.k.1, .int .i64 o.k.2, .int .i64 o.v.1, .int .i64 o.v.2, .string o.s] 35
  have ok0 := hb0.cell_of (i := 0) rfl
  have h1 := h.quiet kb
  have hF1 : ∀ b ∈ F, b < (w.alloc (.cells #[.int .i64 o.kind, .int .i64 o.x, .int .i64 o.y, .int .i64 o.k.1, .int .i64 o.k.2, .int .i64 o.v.1, .int .i64 o.v.2, .string o.s] 35)).heap.size := fun b hb => Nat.lt_of_lt_of_le (hF b hb) kb.size
  have hw1 : w0.heap.size ≤ (w.alloc (.cells #[.int .i64 o.kind, .int .i64 o.x, .int .i64 o.y, .int .i64 o.k.1, .int .i64 o.k.2, .int .i64 o.v.1, .int .i64 o.v.2, .string o.s] 35)).heap.size := Nat.le_trans hw kb.size
  have hlow := lowest_any h1 hn hl
  rw [hk] at hlow
  have hcp : hs.countP (sameSlot (k : Int)) ≤ hs.length := List.countP_le_length
  have p1 := h1.pastAt hk32
  rw [pastOf_at hs hk32] at p1
  have f1 := h1.blk.frozen (3 + k)
  obtain ⟨_, _, _, c35⟩ := h1.cells
  have hset := pastOf_push (hs := hs) (g := g) hk32 (by rw [hgn, hx]; omega)
  have h2 := h1.setPast hk32 ((hs.countP (sameSlot (k : Int)) : Int) + 1)
  rw [hset] at h2
  have hscope : g.scope = noteScope o.kind op := hgs
  unfold LOp.val
  generalize hs.countP (sameSlot (k : Int)) = cp at *
  have zk : (k : Int) < 32 := by omega
  have zcp : (cp : Int) ≤ 8796093022208 := by omega
  have hne : (x != (cp : Int) * 32 + (k : Int)) = false := by simp; omega
  have hlen1 : (hs.map RHan.num).length = hs.length := by simp
  have hlen2 : (hs.map RHan.scope).length = hs.length := by simp
  have hlen3 : (hs.map RHan.live).length = hs.length := by simp
  have eN : (hs.map RHan.num) ++ [x] = (hs ++ [g]).map RHan.num := by simp [hgn]
  have eL : (hs.map RHan.live) ++ [true] = (hs ++ [g]).map RHan.live := by simp [hgl]
  have eS : (hs.map RHan.scope) ++ [g.scope] = (hs ++ [g]).map RHan.scope := by simp
  have HLOW := hide hlow; have H2 := hide h2; have KB := hide kb; have HF1 := hide hF1; have HW1 := hide hw1; clear hlow h2 h1 h kb hb0 hF1 hw1 hset hF hw hn hgn hgs hx
  by_cases h19 : o.kind = 19
  · have hsco : g.scope = (-1 : Int) := by rw [hscope]; unfold noteScope; rw [if_pos h19]
    have hb19 : (o.kind == 19) = true := by simp [h19]
    clear h19
    have HSCO := hide hsco; clear hsco hscope
    go_enter Try.func49, Try.ntmps49
    go_wp2_with fail
    refine (unhide HLOW).mono ?_
    rintro e w2 ⟨rfl, rfl⟩
    go_wp2_with fail
    go_region
    have h3 := (unhide H2).quiet ((Chg.refl [] _).drew)
    have kd3 : Chg [bb] w ((w.alloc (.cells #[.int .i64 o.kind, .int .i64 o.x, .int .i64 o.y, .int .i64 o.k.1, .int .i64 o.k.2, .int .i64 o.v.1, .int .i64 o.v.2, .string o.s] 35)).setCell ⟨bb, 3 + k, none⟩ (.int .i64 ((cp : Int) + 1))).drew := (((unhide KB).mono (by simp)).setCell (.inl (by simp)) _).drew
    have hF3 : ∀ b ∈ F, b < ((w.alloc (.cells #[.int .i64 o.kind, .int .i64 o.x, .int .i64 o.y, .int .i64 o.k.1, .int .i64 o.k.2, .int .i64 o.v.1, .int .i64 o.v.2, .string o.s] 35)).setCell ⟨bb, 3 + k, none⟩ (.int .i64 ((cp : Int) + 1))).drew.heap.size := fun b hb => Nat.lt_of_lt_of_le (unhide HF1 b hb) (by simp [World.setCell, World.drew])
    have hw3 : w0.heap.size ≤ ((w.alloc (.cells #[.int .i64 o.kind, .int .i64 o.x, .int .i64 o.y, .int .i64 o.k.1, .int .i64 o.k.2, .int .i64 o.v.1, .int .i64 o.v.2, .string o.s] 35)).setCell ⟨bb, 3 + k, none⟩ (.int .i64 ((cp : Int) + 1))).drew.heap.size := Nat.le_trans (unhide HW1) (by simp [World.setCell, World.drew])
    obtain ⟨c0, _, _, _⟩ := h3.cells
    rw [hlen1] at c0
    have H3 := hide h3; have KD3 := hide kd3; have HF3 := hide hF3; have HW3 := hide hw3; clear h3 kd3 hF3 hw3 c35 p1 f1 ok0
    generalize ((w.alloc (.cells #[.int .i64 o.kind, .int .i64 o.x, .int .i64 o.y, .int .i64 o.k.1, .int .i64 o.k.2, .int .i64 o.v.1, .int .i64 o.v.2, .string o.s] 35)).setCell ⟨bb, 3 + k, none⟩ (.int .i64 ((cp : Int) + 1))).drew = w3 at *
    go_wp2_with (at_builtin; go_must (refine wpList_append_gen _ rfl (.tmp 55) (.tmp 57) 27 rfl 3 i0 (.int .i64 0) 1 8 Try.underlying27 hi0 hz0 hz1 hz2 rfl (by decide) (.slice na hs.length nc) hs.length (ints (hs.map RHan.num)) rfl ?c0 (some ⟨w3.heap.size, 0, none⟩) 1 1 (ints [x]) rfl rfl ?c1 (ints_one _) ?c2 ?c3 ?_))
    case c0 => have := (unhide H3).nums; rw [hlen1] at this; exact World.ownsRow.alloc this _
    case c1 => first | exact fun _ => ⟨_, rfl, fun j u hj => by rw [addr_add, Nat.zero_add]; exact (Blk.new w3 (ints [x]) 3).cell_of hj⟩ | exact fun j u hj => hj
    case c2 => unfold maxLen; omega
    case c3 => omega
    intro va4 cap4 w4 ho4 hg4 hat4
    have hp4 := (unhide H3).pushNums (w1 := w4) (x := x) (va := va4) (cap := cap4) (H := w3.heap.size + 1) (unhide HW3) (unhide HF3) (.cells #[.int .i64 x] 3) (by rw [hlen1]; exact ho4) (by rw [hlen1]; exact hg4) (Nat.le_succ _) (by rw [hlen1]; exact hat4)
    rw [hlen1, eN] at hp4
    obtain ⟨h4, kd4, d4, e4, v4⟩ := hp4
    have H4 := hide h4; have KD4 := hide kd4; have V4 := hide v4; clear h4 kd4 v4 ho4 hg4 hat4 c0
    go_upto_region 12 with fail
    generalize w4.setCell ⟨bb, 0, none⟩ (.slice va4 (hs.length + 1) cap4) = w5 at *
    have c1 := (unhide H4).cells.2.1
    rw [hlen2] at c1
    have hF5 : ∀ b ∈ F, b < w5.heap.size := fun b hb => Nat.lt_of_lt_of_le (unhide HF3 b hb) (unhide KD4).size
    have hw5 : w0.heap.size ≤ w5.heap.size := Nat.le_trans (unhide HW3) (unhide KD4).size
    have HF5 := hide hF5; have HW5 := hide hw5; clear hF5 hw5 d4 e4
    go_wp2_with (at_builtin; go_must (refine wpList_append_gen _ rfl (.tmp 65) (.tmp 67) 27 rfl 3 i0 (.int .i64 0) 1 8 Try.underlying27 hi0 hz0 hz1 hz2 rfl (by decide) (.slice sa hs.length sc) hs.length (ints (hs.map RHan.scope)) rfl ?c0 (some ⟨w5.heap.size, 0, none⟩) 1 1 (ints [(-1 : Int)]) rfl rfl ?c1 (ints_one _) ?c2 ?c3 ?_))
    case c0 => have := (unhide H4).scs; rw [hlen2] at this; exact World.ownsRow.alloc this _
    case c1 => first | exact fun _ => ⟨_, rfl, fun j u hj => by rw [addr_add, Nat.zero_add]; exact (Blk.new w5 (ints [(-1 : Int)]) 3).cell_of hj⟩ | exact fun j u hj => hj
    case c2 => unfold maxLen; omega
    case c3 => omega
    intro va6 cap6 w6 ho6 hg6 hat6
    have hp6 := (unhide H4).pushScs (w1 := w6) (x := (-1 : Int)) (va := va6) (cap := cap6) (H := w5.heap.size + 1) (unhide HW5) (unhide HF5) (.cells #[.int .i64 ((-1 : Int))] 3) (by rw [hlen2]; exact ho6) (by rw [hlen2]; exact hg6) (Nat.le_succ _) (by rw [hlen2]; exact hat6)
    have eS2 : (hs.map RHan.scope) ++ [(-1 : Int)] = (hs ++ [g]).map RHan.scope := by rw [← eS, unhide HSCO]
    rw [hlen2, eS2] at hp6
    obtain ⟨h6, kd6, d6, e6, v6⟩ := hp6
    have H6 := hide h6; have KD6 := hide kd6; have V6 := hide v6; clear h6 kd6 v6 ho6 hg6 hat6 c1
    go_upto_region 13 with fail
    generalize w6.setCell ⟨bb, 1, none⟩ (.slice va6 (hs.length + 1) cap6) = w7 at *
    have c2 := (unhide H6).cells.2.2.1
    rw [hlen3] at c2
    have hF7 : ∀ b ∈ F, b < w7.heap.size := fun b hb => Nat.lt_of_lt_of_le (unhide HF5 b hb) (unhide KD6).size
    have hw7 : w0.heap.size ≤ w7.heap.size := Nat.le_trans (unhide HW5) (unhide KD6).size
    have HF7 := hide hF7; have HW7 := hide hw7; clear hF7 hw7 d6 e6
    go_wp2_with (at_builtin; go_must (refine wpList_append_gen _ rfl (.tmp 75) (.tmp 76) 22 rfl 4 j0 (.bool false) 1 1 Try.underlying22 hj0 hy0 hy1 hy2 rfl (by decide) (.slice la hs.length lc) hs.length (bools (hs.map RHan.live)) rfl ?c0 (some ⟨w7.heap.size, 0, none⟩) 1 1 (bools [true]) rfl rfl ?c1 (bools_ones _) ?c2 ?c3 ?_))
    case c0 => have := (unhide H6).live; rw [hlen3] at this; exact World.ownsRow.alloc this _
    case c1 => first | exact fun _ => ⟨_, rfl, fun j u hj => by rw [addr_add, Nat.zero_add]; exact (Blk.new w7 (bools [true]) 4).cell_of hj⟩ | exact fun j u hj => hj
    case c2 => unfold maxLen; omega
    case c3 => omega
    intro va8 cap8 w8 ho8 hg8 hat8
    have hp8 := (unhide H6).pushLive (w1 := w8) (x := true) (va := va8) (cap := cap8) (H := w7.heap.size + 1) (unhide HW7) (unhide HF7) (.cells #[.bool true] 4) (by rw [hlen3]; exact ho8) (by rw [hlen3]; exact hg8) (Nat.le_succ _) (by rw [hlen3]; exact hat8)
    rw [hlen3, eL] at hp8
    obtain ⟨h8, kd8, d8, e8, v8⟩ := hp8
    have kall : Chg (bb :: (ab na ++ (ab sa ++ ab la))) w (w8.setCell ⟨bb, 2, none⟩ (.slice va8 (hs.length + 1) cap8)) := by
      have m1 : Chg (bb :: (ab na ++ (ab sa ++ ab la))) w w3 := (unhide KD3).mono (by simp)
      have m2 : Chg (bb :: (ab na ++ (ab sa ++ ab la))) w3 w5 := (unhide KD4).mono (fun y hy => by rcases List.mem_cons.1 hy with h | h; simp [h]; simp [h])
      have m3 : Chg (bb :: (ab na ++ (ab sa ++ ab la))) w5 w7 := (unhide KD6).mono (fun y hy => by rcases List.mem_cons.1 hy with h | h; simp [h]; simp [h])
      have m4 : Chg (bb :: (ab na ++ (ab sa ++ ab la))) w7 (w8.setCell ⟨bb, 2, none⟩ (.slice va8 (hs.length + 1) cap8)) := kd8.mono (fun y hy => by rcases List.mem_cons.1 hy with h | h; simp [h]; simp [h])
      exact ((m1.trans m2).trans m3).trans m4
    have kst : Stp (bb :: (ab na ++ (ab sa ++ ab la))) w (bb :: (ab va4 ++ (ab va6 ++ ab va8))) (w8.setCell ⟨bb, 2, none⟩ (.slice va8 (hs.length + 1) cap8)) := ⟨kall, fun y hy => by
      have z3 := (unhide KD3).size
      have z5 := (unhide KD4).size
      have z7 := (unhide KD6).size
      rcases List.mem_cons.1 hy with h | h
      · exact .inl (by simp [h])
      · rcases List.mem_append.1 h with h | h
        · rcases unhide V4 y h with h1 | h1
          · exact .inl (by simp [h1])
          · exact .inr (by omega)
        · rcases List.mem_append.1 h with h | h
          · rcases unhide V6 y h with h1 | h1
            · exact .inl (by simp [h1])
            · exact .inr (by omega)
          · rcases v8 y h with h1 | h1
            · exact .inl (by simp [h1])
            · exact .inr (by omega)⟩
    have H8 := hide h8; have KALL := hide kst; clear h8 kd8 kall kst v8 ho8 hg8 hat8 c2
    go_wp2
    go_ret
    exact ⟨rfl, va4, va6, va8, cap4, cap6, cap8, unhide H8, unhide KALL⟩
  · have hb19 : (o.kind == 19) = false := by simp [h19]
    by_cases h18 : o.kind = 18
    · have hsco : g.scope = op - 1 := by rw [hscope]; unfold noteScope; rw [if_neg h19, if_pos h18]
      have hb18 : (o.kind == 18) = true := by simp [h18]
      clear h18 h19
      have HSCO := hide hsco; clear hsco hscope
      go_enter Try.func49, Try.ntmps49
      go_wp2_with fail
      refine (unhide HLOW).mono ?_
      rintro e w2 ⟨rfl, rfl⟩
      go_wp2_with fail
      go_region
      have h3 := (unhide H2).quiet ((Chg.refl [] _).drew)
      have kd3 : Chg [bb] w ((w.alloc (.cells #[.int .i64 o.kind, .int .i64 o.x, .int .i64 o.y, .int .i64 o.k.1, .int .i64 o.k.2, .int .i64 o.v.1, .int .i64 o.v.2, .string o.s] 35)).setCell ⟨bb, 3 + k, none⟩ (.int .i64 ((cp : Int) + 1))).drew := (((unhide KB).mono (by simp)).setCell (.inl (by simp)) _).drew
      have hF3 : ∀ b ∈ F, b < ((w.alloc (.cells #[.int .i64 o.kind, .int .i64 o.x, .int .i64 o.y, .int .i64 o.k.1, .int .i64 o.k.2, .int .i64 o.v.1, .int .i64 o.v.2, .string o.s] 35)).setCell ⟨bb, 3 + k, none⟩ (.int .i64 ((cp : Int) + 1))).drew.heap.size := fun b hb => Nat.lt_of_lt_of_le (unhide HF1 b hb) (by simp [World.setCell, World.drew])
      have hw3 : w0.heap.size ≤ ((w.alloc (.cells #[.int .i64 o.kind, .int .i64 o.x, .int .i64 o.y, .int .i64 o.k.1, .int .i64 o.k.2, .int .i64 o.v.1, .int .i64 o.v.2, .string o.s] 35)).setCell ⟨bb, 3 + k, none⟩ (.int .i64 ((cp : Int) + 1))).drew.heap.size := Nat.le_trans (unhide HW1) (by simp [World.setCell, World.drew])
      obtain ⟨c0, _, _, _⟩ := h3.cells
      rw [hlen1] at c0
      have H3 := hide h3; have KD3 := hide kd3; have HF3 := hide hF3; have HW3 := hide hw3; clear h3 kd3 hF3 hw3 c35 p1 f1 ok0
      generalize ((w.alloc (.cells #[.int .i64 o.kind, .int .i64 o.x, .int .i64 o.y, .int .i64 o.k.1, .int .i64 o.k.2, .int .i64 o.v.1, .int .i64 o.v.2, .string o.s] 35)).setCell ⟨bb, 3 + k, none⟩ (.int .i64 ((cp : Int) + 1))).drew = w3 at *
      go_wp2_with (at_builtin; go_must (refine wpList_append_gen _ rfl (.tmp 55) (.tmp 57) 27 rfl 3 i0 (.int .i64 0) 1 8 Try.underlying27 hi0 hz0 hz1 hz2 rfl (by decide) (.slice na hs.length nc) hs.length (ints (hs.map RHan.num)) rfl ?c0 (some ⟨w3.heap.size, 0, none⟩) 1 1 (ints [x]) rfl rfl ?c1 (ints_one _) ?c2 ?c3 ?_))
      case c0 => have := (unhide H3).nums; rw [hlen1] at this; exact World.ownsRow.alloc this _
      case c1 => first | exact fun _ => ⟨_, rfl, fun j u hj => by rw [addr_add, Nat.zero_add]; exact (Blk.new w3 (ints [x]) 3).cell_of hj⟩ | exact fun j u hj => hj
      case c2 => unfold maxLen; omega
      case c3 => omega
      intro va4 cap4 w4 ho4 hg4 hat4
      have hp4 := (unhide H3).pushNums (w1 := w4) (x := x) (va := va4) (cap := cap4) (H := w3.heap.size + 1) (unhide HW3) (unhide HF3) (.cells #[.int .i64 x] 3) (by rw [hlen1]; exact ho4) (by rw [hlen1]; exact hg4) (Nat.le_succ _) (by rw [hlen1]; exact hat4)
      rw [hlen1, eN] at hp4
      obtain ⟨h4, kd4, d4, e4, v4⟩ := hp4
      have H4 := hide h4; have KD4 := hide kd4; have V4 := hide v4; clear h4 kd4 v4 ho4 hg4 hat4 c0
      go_upto_region 12 with fail
      generalize w4.setCell ⟨bb, 0, none⟩ (.slice va4 (hs.length + 1) cap4) = w5 at *
      have c1 := (unhide H4).cells.2.1
      rw [hlen2] at c1
      have hF5 : ∀ b ∈ F, b < w5.heap.size := fun b hb => Nat.lt_of_lt_of_le (unhide HF3 b hb) (unhide KD4).size
      have hw5 : w0.heap.size ≤ w5.heap.size := Nat.le_trans (unhide HW3) (unhide KD4).size
      have HF5 := hide hF5; have HW5 := hide hw5; clear hF5 hw5 d4 e4
      go_wp2_with (at_builtin; go_must (refine wpList_append_gen _ rfl (.tmp 65) (.tmp 67) 27 rfl 3 i0 (.int .i64 0) 1 8 Try.underlying27 hi0 hz0 hz1 hz2 rfl (by decide) (.slice sa hs.length sc) hs.length (ints (hs.map RHan.scope)) rfl ?c0 (some ⟨w5.heap.size, 0, none⟩) 1 1 (ints [op - 1]) rfl rfl ?c1 (ints_one _) ?c2 ?c3 ?_))
      case c0 => have := (unhide H4).scs; rw [hlen2] at this; exact World.ownsRow.alloc this _
      case c1 => first | exact fun _ => ⟨_, rfl, fun j u hj => by rw [addr_add, Nat.zero_add]; exact (Blk.new w5 (ints [op - 1]) 3).cell_of hj⟩ | exact fun j u hj => hj
      case c2 => unfold maxLen; omega
      case c3 => omega
      intro va6 cap6 w6 ho6 hg6 hat6
      have hp6 := (unhide H4).pushScs (w1 := w6) (x := op - 1) (va := va6) (cap := cap6) (H := w5.heap.size + 1) (unhide HW5) (unhide HF5) (.cells #[.int .i64 (op - 1)] 3) (by rw [hlen2]; exact ho6) (by rw [hlen2]; exact hg6) (Nat.le_succ _) (by rw [hlen2]; exact hat6)
      have eS2 : (hs.map RHan.scope) ++ [op - 1] = (hs ++ [g]).map RHan.scope := by rw [← eS, unhide HSCO]
      rw [hlen2, eS2] at hp6
      obtain ⟨h6, kd6, d6, e6, v6⟩ := hp6
      have H6 := hide h6; have KD6 := hide kd6; have V6 := hide v6; clear h6 kd6 v6 ho6 hg6 hat6 c1
      go_upto_region 13 with fail
      generalize w6.setCell ⟨bb, 1, none⟩ (.slice va6 (hs.length + 1) cap6) = w7 at *
      have c2 := (unhide H6).cells.2.2.1
      rw [hlen3] at c2
      have hF7 : ∀ b ∈ F, b < w7.heap.size := fun b hb => Nat.lt_of_lt_of_le (unhide HF5 b hb) (unhide KD6).size
      have hw7 : w0.heap.size ≤ w7.heap.size := Nat.le_trans (unhide HW5) (unhide KD6).size
      have HF7 := hide hF7; have HW7 := hide hw7; clear hF7 hw7 d6 e6
      go_wp2_with (at_builtin; go_must (refine wpList_append_gen _ rfl (.tmp 75) (.tmp 76) 22 rfl 4 j0 (.bool false) 1 1 Try.underlying22 hj0 hy0 hy1 hy2 rfl (by decide) (.slice la hs.length lc) hs.length (bools (hs.map RHan.live)) rfl ?c0 (some ⟨w7.heap.size, 0, none⟩) 1 1 (bools [true]) rfl rfl ?c1 (bools_ones _) ?c2 ?c3 ?_))
      case c0 => have := (unhide H6).live; rw [hlen3] at this; exact World.ownsRow.alloc this _
      case c1 => first | exact fun _ => ⟨_, rfl, fun j u hj => by rw [addr_add, Nat.zero_add]; exact (Blk.new w7 (bools [true]) 4).cell_of hj⟩ | exact fun j u hj => hj
      case c2 => unfold maxLen; omega
      case c3 => omega
      intro va8 cap8 w8 ho8 hg8 hat8
      have hp8 := (unhide H6).pushLive (w1 := w8) (x := true) (va := va8) (cap := cap8) (H := w7.heap.size + 1) (unhide HW7) (unhide HF7) (.cells #[.bool true] 4) (by rw [hlen3]; exact ho8) (by rw [hlen3]; exact hg8) (Nat.le_succ _) (by rw [hlen3]; exact hat8)
      rw [hlen3, eL] at hp8
      obtain ⟨h8, kd8, d8, e8, v8⟩ := hp8
      have kall : Chg (bb :: (ab na ++ (ab sa ++ ab la))) w (w8.setCell ⟨bb, 2, none⟩ (.slice va8 (hs.length + 1) cap8)) := by
        have m1 : Chg (bb :: (ab na ++ (ab sa ++ ab la))) w w3 := (unhide KD3).mono (by simp)
        have m2 : Chg (bb :: (ab na ++ (ab sa ++ ab la))) w3 w5 := (unhide KD4).mono (fun y hy => by rcases List.mem_cons.1 hy with h | h; simp [h]; simp [h])
        have m3 : Chg (bb :: (ab na ++ (ab sa ++ ab la))) w5 w7 := (unhide KD6).mono (fun y hy => by rcases List.mem_cons.1 hy with h | h; simp [h]; simp [h])
        have m4 : Chg (bb :: (ab na ++ (ab sa ++ ab la))) w7 (w8.setCell ⟨bb, 2, none⟩ (.slice va8 (hs.length + 1) cap8)) := kd8.mono (fun y hy => by rcases List.mem_cons.1 hy with h | h; simp [h]; simp [h])
        exact ((m1.trans m2).trans m3).trans m4
      have kst : Stp (bb :: (ab na ++ (ab sa ++ ab la))) w (bb :: (ab va4 ++ (ab va6 ++ ab va8))) (w8.setCell ⟨bb, 2, none⟩ (.slice va8 (hs.length + 1) cap8)) := ⟨kall, fun y hy => by
        have z3 := (unhide KD3).size
        have z5 := (unhide KD4).size
        have z7 := (unhide KD6).size
        rcases List.mem_cons.1 hy with h | h
        · exact .inl (by simp [h])
        · rcases List.mem_append.1 h with h | h
          · rcases unhide V4 y h with h1 | h1
            · exact .inl (by simp [h1])
            · exact .inr (by omega)
          · rcases List.mem_append.1 h with h | h
            · rcases unhide V6 y h with h1 | h1
              · exact .inl (by simp [h1])
              · exact .inr (by omega)
            · rcases v8 y h with h1 | h1
              · exact .inl (by simp [h1])
              · exact .inr (by omega)⟩
      have H8 := hide h8; have KALL := hide kst; clear h8 kd8 kall kst v8 ho8 hg8 hat8 c2
      go_wp2
      go_ret
      exact ⟨rfl, va4, va6, va8, cap4, cap6, cap8, unhide H8, unhide KALL⟩
    · have hsco : g.scope = op := by rw [hscope]; unfold noteScope; rw [if_neg h19, if_neg h18]
      have hb18 : (o.kind == 18) = false := by simp [h18]
      clear h18 h19
      have HSCO := hide hsco; clear hsco hscope
      go_enter Try.func49, Try.ntmps49
      go_wp2_with fail
      refine (unhide HLOW).mono ?_
      rintro e w2 ⟨rfl, rfl⟩
      go_wp2_with fail
      go_region
      have h3 := (unhide H2).quiet ((Chg.refl [] _).drew)
      have kd3 : Chg [bb] w ((w.alloc (.cells #[.int .i64 o.kind, .int .i64 o.x, .int .i64 o.y, .int .i64 o.k.1, .int .i64 o.k.2, .int .i64 o.v.1, .int .i64 o.v.2, .string o.s] 35)).setCell ⟨bb, 3 + k, none⟩ (.int .i64 ((cp : Int) + 1))).drew := (((unhide KB).mono (by simp)).setCell (.inl (by simp)) _).drew
      have hF3 : ∀ b ∈ F, b < ((w.alloc (.cells #[.int .i64 o.kind, .int .i64 o.x, .int .i64 o.y, .int .i64 o.k.1, .int .i64 o.k.2, .int .i64 o.v.1, .int .i64 o.v.2, .string o.s] 35)).setCell ⟨bb, 3 + k, none⟩ (.int .i64 ((cp : Int) + 1))).drew.heap.size := fun b hb => Nat.lt_of_lt_of_le (unhide HF1 b hb) (by simp [World.setCell, World.drew])
      have hw3 : w0.heap.size ≤ ((w.alloc (.cells #[.int .i64 o.kind, .int .i64 o.x, .int .i64 o.y, .int .i64 o.k.1, .int .i64 o.k.2, .int .i64 o.v.1, .int .i64 o.v.2, .string o.s] 35)).setCell ⟨bb, 3 + k, none⟩ (.int .i64 ((cp : Int) + 1))).drew.heap.size := Nat.le_trans (unhide HW1) (by simp [World.setCell, World.drew])
      obtain ⟨c0, _, _, _⟩ := h3.cells
      rw [hlen1] at c0
      have H3 := hide h3; have KD3 := hide kd3; have HF3 := hide hF3; have HW3 := hide hw3; clear h3 kd3 hF3 hw3 c35 p1 f1 ok0
      generalize ((w.alloc (.cells #[.int .i64 o.kind, .int .i64 o.x, .int .i64 o.y, .int .i64 o.k.1, .int .i64 o.k.2, .int .i64 o.v.1, .int .i64 o.v.2, .string o.s] 35)).setCell ⟨bb, 3 + k, none⟩ (.int .i64 ((cp : Int) + 1))).drew = w3 at *
      go_wp2_with (at_builtin; go_must (refine wpList_append_gen _ rfl (.tmp 55) (.tmp 57) 27 rfl 3 i0 (.int .i64 0) 1 8 Try.underlying27 hi0 hz0 hz1 hz2 rfl (by decide) (.slice na hs.length nc) hs.length (ints (hs.map RHan.num)) rfl ?c0 (some ⟨w3.heap.size, 0, none⟩) 1 1 (ints [x]) rfl rfl ?c1 (ints_one _) ?c2 ?c3 ?_))
      case c0 => have := (unhide H3).nums; rw [hlen1] at this; exact World.ownsRow.alloc this _
      case c1 => first | exact fun _ => ⟨_, rfl, fun j u hj => by rw [addr_add, Nat.zero_add]; exact (Blk.new w3 (ints [x]) 3).cell_of hj⟩ | exact fun j u hj => hj
      case c2 => unfold maxLen; omega
      case c3 => omega
      intro va4 cap4 w4 ho4 hg4 hat4
      have hp4 := (unhide H3).pushNums (w1 := w4) (x := x) (va := va4) (cap := cap4) (H := w3.heap.size + 1) (unhide HW3) (unhide HF3) (.cells #[.int .i64 x] 3) (by rw [hlen1]; exact ho4) (by rw [hlen1]; exact hg4) (Nat.le_succ _) (by rw [hlen1]; exact hat4)
      rw [hlen1, eN] at hp4
      obtain ⟨h4, kd4, d4, e4, v4⟩ := hp4
      have H4 := hide h4; have KD4 := hide kd4; have V4 := hide v4; clear h4 kd4 v4 ho4 hg4 hat4 c0
      go_upto_region 12 with fail
      generalize w4.setCell ⟨bb, 0, none⟩ (.slice va4 (hs.length + 1) cap4) = w5 at *
      have c1 := (unhide H4).cells.2.1
      rw [hlen2] at c1
      have hF5 : ∀ b ∈ F, b < w5.heap.size := fun b hb => Nat.lt_of_lt_of_le (unhide HF3 b hb) (unhide KD4).size
      have hw5 : w0.heap.size ≤ w5.heap.size := Nat.le_trans (unhide HW3) (unhide KD4).size
      have HF5 := hide hF5; have HW5 := hide hw5; clear hF5 hw5 d4 e4
      go_wp2_with (at_builtin; go_must (refine wpList_append_gen _ rfl (.tmp 65) (.tmp 67) 27 rfl 3 i0 (.int .i64 0) 1 8 Try.underlying27 hi0 hz0 hz1 hz2 rfl (by decide) (.slice sa hs.length sc) hs.length (ints (hs.map RHan.scope)) rfl ?c0 (some ⟨w5.heap.size, 0, none⟩) 1 1 (ints [op]) rfl rfl ?c1 (ints_one _) ?c2 ?c3 ?_))
      case c0 => have := (unhide H4).scs; rw [hlen2] at this; exact World.ownsRow.alloc this _
      case c1 => first | exact fun _ => ⟨_, rfl, fun j u hj => by rw [addr_add, Nat.zero_add]; exact (Blk.new w5 (ints [op]) 3).cell_of hj⟩ | exact fun j u hj => hj
      case c2 => unfold maxLen; omega
      case c3 => omega
      intro va6 cap6 w6 ho6 hg6 hat6
      have hp6 := (unhide H4).pushScs (w1 := w6) (x := op) (va := va6) (cap := cap6) (H := w5.heap.size + 1) (unhide HW5) (unhide HF5) (.cells #[.int .i64 (op)] 3) (by rw [hlen2]; exact ho6) (by rw [hlen2]; exact hg6) (Nat.le_succ _) (by rw [hlen2]; exact hat6)
      have eS2 : (hs.map RHan.scope) ++ [op] = (hs ++ [g]).map RHan.scope := by rw [← eS, unhide HSCO]
      rw [hlen2, eS2] at hp6
      obtain ⟨h6, kd6, d6, e6, v6⟩ := hp6
      have H6 := hide h6; have KD6 := hide kd6; have V6 := hide v6; clear h6 kd6 v6 ho6 hg6 hat6 c1
      go_upto_region 13 with fail
      generalize w6.setCell ⟨bb, 1, none⟩ (.slice va6 (hs.length + 1) cap6) = w7 at *
      have c2 := (unhide H6).cells.2.2.1
      rw [hlen3] at c2
      have hF7 : ∀ b ∈ F, b < w7.heap.size := fun b hb => Nat.lt_of_lt_of_le (unhide HF5 b hb) (unhide KD6).size
      have hw7 : w0.heap.size ≤ w7.heap.size := Nat.le_trans (unhide HW5) (unhide KD6).size
      have HF7 := hide hF7; have HW7 := hide hw7; clear hF7 hw7 d6 e6
      go_wp2_with (at_builtin; go_must (refine wpList_append_gen _ rfl (.tmp 75) (.tmp 76) 22 rfl 4 j0 (.bool false) 1 1 Try.underlying22 hj0 hy0 hy1 hy2 rfl (by decide) (.slice la hs.length lc) hs.length (bools (hs.map RHan.live)) rfl ?c0 (some ⟨w7.heap.size, 0, none⟩) 1 1 (bools [true]) rfl rfl ?c1 (bools_ones _) ?c2 ?c3 ?_))
      case c0 => have := (unhide H6).live; rw [hlen3] at this; exact World.ownsRow.alloc this _
      case c1 => first | exact fun _ => ⟨_, rfl, fun j u hj => by rw [addr_add, Nat.zero_add]; exact (Blk.new w7 (bools [true]) 4).cell_of hj⟩ | exact fun j u hj => hj
      case c2 => unfold maxLen; omega
      case c3 => omega
      intro va8 cap8 w8 ho8 hg8 hat8
      have hp8 := (unhide H6).pushLive (w1 := w8) (x := true) (va := va8) (cap := cap8) (H := w7.heap.size + 1) (unhide HW7) (unhide HF7) (.cells #[.bool true] 4) (by rw [hlen3]; exact ho8) (by rw [hlen3]; exact hg8) (Nat.le_succ _) (by rw [hlen3]; exact hat8)
      rw [hlen3, eL] at hp8
      obtain ⟨h8, kd8, d8, e8, v8⟩ := hp8
      have kall : Chg (bb :: (ab na ++ (ab sa ++ ab la))) w (w8.setCell ⟨bb, 2, none⟩ (.slice va8 (hs.length + 1) cap8)) := by
        have m1 : Chg (bb :: (ab na ++ (ab sa ++ ab la))) w w3 := (unhide KD3).mono (by simp)
        have m2 : Chg (bb :: (ab na ++ (ab sa ++ ab la))) w3 w5 := (unhide KD4).mono (fun y hy => by rcases List.mem_cons.1 hy with h | h; simp [h]; simp [h])
        have m3 : Chg (bb :: (ab na ++ (ab sa ++ ab la))) w5 w7 := (unhide KD6).mono (fun y hy => by rcases List.mem_cons.1 hy with h | h; simp [h]; simp [h])
        have m4 : Chg (bb :: (ab na ++ (ab sa ++ ab la))) w7 (w8.setCell ⟨bb, 2, none⟩ (.slice va8 (hs.length + 1) cap8)) := kd8.mono (fun y hy => by rcases List.mem_cons.1 hy with h | h; simp [h]; simp [h])
        exact ((m1.trans m2).trans m3).trans m4
      have kst : Stp (bb :: (ab na ++ (ab sa ++ ab la))) w (bb :: (ab va4 ++ (ab va6 ++ ab va8))) (w8.setCell ⟨bb, 2, none⟩ (.slice va8 (hs.length + 1) cap8)) := ⟨kall, fun y hy => by
        have z3 := (unhide KD3).size
        have z5 := (unhide KD4).size
        have z7 := (unhide KD6).size
        rcases List.mem_cons.1 hy with h | h
        · exact .inl (by simp [h])
        · rcases List.mem_append.1 h with h | h
          · rcases unhide V4 y h with h1 | h1
            · exact .inl (by simp [h1])
            · exact .inr (by omega)
          · rcases List.mem_append.1 h with h | h
            · rcases unhide V6 y h with h1 | h1
              · exact .inl (by simp [h1])
              · exact .inr (by omega)
            · rcases v8 y h with h1 | h1
              · exact .inl (by simp [h1])
              · exact .inr (by omega)⟩
      have H8 := hide h8; have KALL := hide kst; clear h8 kd8 kall kst v8 ho8 hg8 hat8 c2
      go_wp2
      go_ret
      exact ⟨rfl, va4, va6, va8, cap4, cap6, cap8, unhide H8, unhide KALL⟩
end Go.Proofs.Ytfoncalkgmeklaa

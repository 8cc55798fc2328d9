import Derived.Test.YtfoncalkgmeklaaGreatYwM23

/- What a collection makes, on plain lists. -/
namespace Go.Proofs.YtfoncalkgmeklaaGreat
open Go.RowKit

/-- The state behind a collection. -/
def R.gone (s : R) : R := { s with row := s.reach }
/-- The place of an object behind a collection. -/
def R.newAt (s : R) (y : Nat) : Int := placeOf s.objs y s.reach

theorem place_pre {objs : List RObj} {y : Nat} : ∀ {a b : List Nat}, a <+: b → y ∈ a → placeOf objs y b = placeOf objs y a
  | [], b, _, hm => by simp at hm
  | x :: r, [], h, _ => by simp at h
  | x :: r, z :: q, h, hm => by
    obtain ⟨rfl, h'⟩ := List.cons_prefix_cons.1 h
    simp only [placeOf]
    by_cases hx : x = y
    · rw [if_pos hx, if_pos hx]
    · rw [if_neg hx, if_neg hx, place_pre h' (by rcases List.mem_cons.1 hm with e | e; exact absurd e.symm hx; exact e)]
theorem place_snoc {objs : List RObj} {y : Nat} : ∀ {a : List Nat}, y ∉ a → placeOf objs y (a ++ [y]) = usedOf objs a
  | [], _ => by simp [placeOf, usedOf]
  | x :: r, h => by
    simp only [List.cons_append, placeOf, usedOf]
    rw [if_neg (fun e => h (by simp [e])), place_snoc (fun hm => h (List.mem_cons_of_mem _ hm))]
theorem newAt_old {s : R} {row : List Nat} {y : Nat} (hp : row <+: s.reach) (h : y ∈ row) : s.newAt y = placeOf s.objs y row := place_pre hp h
theorem newAt_next {s : R} {row : List Nat} {y : Nat} (hp : row ++ [y] <+: s.reach) (h : y ∉ row) : s.newAt y = usedOf s.objs row := by
  rw [R.newAt, place_pre hp (by simp), place_snoc h]
theorem used_pre {s : R} (hi : RInv s) {a b : List Nat} (h : a <+: b) : usedOf s.objs a ≤ usedOf s.objs b := by
  obtain ⟨r, rfl⟩ := h
  rw [usedOf_append]
  have := used_nonneg (words0 hi) r
  omega

/-- What the collection has written down, when the objects of row have moved. -/
structure CP (s : R) (row : List Nat) (mv od : List Int) : Prop where
  len : mv.length = s.words.length
  moved : ∀ y ∈ s.row, mv.getD (placeOf s.objs y s.row).toNat 0 = if y ∈ row then s.newAt y + 1 else 0
  order : od = row.map s.newAt
  pre : row <+: s.reach
theorem CP.init (s : R) : CP s [] (List.replicate s.words.length 0) [] := by
  refine ⟨by simp, fun y _ => ?_, rfl, List.nil_prefix⟩
  simp [List.getD, List.getElem?_replicate]
  split <;> rfl
theorem CP.next {s : R} {row : List Nat} {mv od : List Int} {y : Nat} (ha : RAll s) (h : CP s row mv od) (hy : y ∈ s.row) (hn : y ∉ row) (hp : row ++ [y] <+: s.reach) :
    CP s (row ++ [y]) (mv.set (placeOf s.objs y s.row).toNat (usedOf s.objs row + 1)) (od ++ [usedOf s.objs row]) := by
  have hb := place_bd ha hy
  have ho := (words_bd (ha.ok.osh (objOf_mem (ha.ok.inv.rows y hy))).kind).1
  refine ⟨by simpa using h.len, fun z hz => ?_, ?_, hp⟩
  · have hzb := place_bd ha hz
    simp only [List.getD, List.getElem?_set]
    by_cases hzy : z = y
    · subst hzy
      rw [if_pos rfl, if_pos (by rw [h.len]; omega), if_pos (by simp), newAt_next hp hn]
      rfl
    · have hne : (placeOf s.objs y s.row).toNat ≠ (placeOf s.objs z s.row).toNat := fun e => hzy (place_inj ha hz hy ha.ok.inv.rows (by omega))
      rw [if_neg hne]
      have := h.moved z hz
      simp only [List.getD] at this
      rw [this]
      simp [hzy]
  · rw [h.order, List.map_append, List.map_cons, List.map_nil, newAt_next hp hn]

/-! An object whose first k values tell new places -/
def mixW (s t : R) (o : RObj) (k : Nat) : List Int :=
  headWords o ++ (((o.vals.take k).flatMap (valWords t) ++ (o.vals.drop k).flatMap (valWords s)) ++ (textWords o.text ++ List.replicate ((oWords o).toNat - (fullWords s o).length) 0))
theorem mixW_zero (s t : R) (o : RObj) : mixW s t o 0 = objWords s o := by rw [objWords_form]; simp [mixW]
theorem full_same (s t : R) (o : RObj) : (fullWords s o).length = (fullWords t o).length := by unfold fullWords; simp only [List.length_append, valWords_len2]
theorem mixW_end (s t : R) (o : RObj) {k : Nat} (hk : o.vals.length ≤ k) : mixW s t o k = objWords t o := by
  rw [objWords_form, ← full_same s t]
  unfold mixW
  rw [List.take_of_length_le hk, List.drop_eq_nil_of_le hk]
  simp
theorem mixW_len (s t : R) (o : RObj) (k : Nat) : (mixW s t o k).length = (objWords s o).length := by
  rw [objWords_form]
  unfold mixW
  simp only [List.length_append, valWords_len2, List.length_take, List.length_drop]
  omega
theorem two_get (X Y : List Int) (a b : Int) : (X ++ ([a, b] ++ Y)).getD X.length 0 = a ∧ (X ++ ([a, b] ++ Y)).getD (X.length + 1) 0 = b := by
  constructor
  · simp [List.getD]
  · simp only [List.getD]
    rw [List.getElem?_append_right (by omega), show X.length + 1 - X.length = 1 by omega]
    simp
theorem mixW_val (s t : R) (o : RObj) {k : Nat} {v : Int × Int} (hv : o.vals[k]? = some v) : (mixW s t o k).getD (headLen o + 2 * k) 0 = v.1 ∧ (mixW s t o k).getD (headLen o + 2 * k + 1) 0 = s.outW v := by
  obtain ⟨hk, rfl⟩ := List.getElem?_eq_some_iff.1 hv
  have hd : o.vals.drop k = o.vals[k] :: o.vals.drop (k + 1) := List.drop_eq_getElem_cons hk
  have hl : ((o.vals.take k).flatMap (valWords t)).length = 2 * k := by rw [valWords_len2, List.length_take]; omega
  have hl2 : ((o.vals.take k).flatMap (valWords t) ++ (o.vals.drop k).flatMap (valWords s)).length = 2 * o.vals.length := by
    rw [List.length_append, valWords_len2, valWords_len2, List.length_take, List.length_drop]; omega
  unfold mixW
  rw [← head_len o, mid_get (by omega), show (headWords o).length + 2 * k + 1 = (headWords o).length + (2 * k + 1) by omega, mid_get (by omega)]
  rw [hd, List.flatMap_cons, valWords_eq]
  have := two_get ((o.vals.take k).flatMap (valWords t)) ((o.vals.drop (k + 1)).flatMap (valWords s)) o.vals[k].1 (s.outW o.vals[k])
  rw [hl] at this
  exact this
theorem mixW_step (s t : R) (o : RObj) {k : Nat} {v : Int × Int} (hv : o.vals[k]? = some v) (h2 : v.1 = 2) : mixW s t o (k + 1) = (mixW s t o k).set (headLen o + 2 * k + 1) (t.outW v) := by
  obtain ⟨hk, rfl⟩ := List.getElem?_eq_some_iff.1 hv
  have hd : o.vals.drop k = o.vals[k] :: o.vals.drop (k + 1) := List.drop_eq_getElem_cons hk
  have ht : o.vals.take (k + 1) = o.vals.take k ++ [o.vals[k]] := List.take_succ_eq_append_getElem hk
  have hl : ((o.vals.take k).flatMap (valWords t)).length = 2 * k := by rw [valWords_len2, List.length_take]; omega
  have hl2 : ((o.vals.take k).flatMap (valWords t) ++ (o.vals.drop k).flatMap (valWords s)).length = 2 * o.vals.length := by
    rw [List.length_append, valWords_len2, valWords_len2, List.length_take, List.length_drop]; omega
  unfold mixW
  rw [← head_len o, show (headWords o).length + 2 * k + 1 = (headWords o).length + (2 * k + 1) by omega, set_mid (by omega)]
  congr 2
  rw [ht, hd, List.flatMap_append, List.flatMap_cons, List.flatMap_cons, List.flatMap_nil, List.append_nil, List.set_append_right _ _ (by omega), hl, show 2 * k + 1 - 2 * k = 1 by omega, valWords_eq, valWords_eq]
  simp [List.append_assoc]
theorem outW_other {s t : R} {v : Int × Int} (h2 : v.1 ≠ 2) : s.outW v = t.outW v := by unfold R.outW; rw [if_neg h2, if_neg h2]
theorem mixW_skip (s t : R) (o : RObj) {k : Nat} {v : Int × Int} (hv : o.vals[k]? = some v) (h2 : v.1 ≠ 2) : mixW s t o (k + 1) = mixW s t o k := by
  obtain ⟨hk, rfl⟩ := List.getElem?_eq_some_iff.1 hv
  have hd : o.vals.drop k = o.vals[k] :: o.vals.drop (k + 1) := List.drop_eq_getElem_cons hk
  have ht : o.vals.take (k + 1) = o.vals.take k ++ [o.vals[k]] := List.take_succ_eq_append_getElem hk
  unfold mixW
  rw [ht, hd, List.flatMap_append, List.flatMap_cons, List.flatMap_cons, List.flatMap_nil, List.append_nil, valWords_eq, valWords_eq, outW_other (s := t) (t := s) h2]
  simp [List.append_assoc]
theorem mixW_over (s t : R) (o : RObj) {k : Nat} (hk : o.vals.length ≤ k) : mixW s t o (k + 1) = mixW s t o k := by rw [mixW_end s t o hk, mixW_end s t o (by omega)]
theorem mixW_head (s t : R) (o : RObj) (k : Nat) : (mixW s t o k).getD 0 0 = o.kind * 65536 + o.size := by
  unfold mixW headWords
  simp [List.getD]
/-- Behind a table's entries stand noughts. -/
theorem mixW_nought (s t : R) {n : Nat} {o : RObj} (h : OSh n o) (h3 : o.kind = 3) {k : Nat} (hk : o.vals.length ≤ k) : (mixW s t o k).getD (headLen o + 2 * k) 0 = 0 := by
  have hl : (fullWords t o).length = headLen o + 2 * o.vals.length := by
    unfold fullWords
    rw [List.length_append, List.length_append, head_len, valWords_len2, h.notxt (by omega)]
    rfl
  rw [mixW_end s t o hk]
  unfold objWords
  simp only [List.getD]
  rw [List.getElem?_append_right (by omega), List.getElem?_replicate]
  split <;> rfl

/-! The words while the row is being scanned -/
def oldRow (s : R) (l : List Nat) : List Int := l.flatMap fun x => objWords s (s.objOf x)
def newRow (s : R) (l : List Nat) : List Int := l.flatMap fun x => objWords s.gone (s.objOf x)
theorem oldRow_len {s : R} (h : ROk s) {l : List Nat} (hl : ∀ x ∈ l, x < s.objs.length) : ((oldRow s l).length : Int) = usedOf s.objs l := words_size_row h l hl
theorem gone_ok {s : R} (h : RAll s) : RAll s.gone := h.reach
theorem newRow_len {s : R} (h : RAll s) {l : List Nat} (hl : ∀ x ∈ l, x < s.objs.length) : ((newRow s l).length : Int) = usedOf s.objs l := words_size_row (gone_ok h).ok l hl
theorem newRow_all (s : R) : newRow s s.reach = s.gone.words := rfl
theorem oldRow_met {s : R} {row : List Nat} {y i : Nat} (hi : i ≤ row.length) : oldRow s ((metOf row y).drop i) = oldRow s (row.drop i) ++ if y ∈ row then [] else objWords s (s.objOf y) := by
  unfold metOf
  by_cases h : y ∈ row
  · rw [if_pos h, if_pos h, List.append_nil]
  · rw [if_neg h, if_neg h, List.drop_append_of_le_length hi]
    unfold oldRow
    simp
theorem reach_len {s : R} (h : RAll s) : s.reach.length ≤ s.objs.length := (Good.reach h.ok.inv).len
theorem scan_reach {s : R} {i : Nat} (hi : i ≤ s.objs.length) : s.scanTo i <+: s.reach := by
  have := scanTo_pre' s i (s.objs.length - i)
  rwa [show i + (s.objs.length - i) = s.objs.length by omega] at this
theorem scanVals_preK (row : List Nat) (vals : List (Int × Int)) (k : Nat) : ∀ j, scanVals row vals k <+: scanVals row vals (k + j)
  | 0 => List.prefix_rfl
  | j + 1 => by
    refine (scanVals_preK row vals k j).trans ?_
    rw [← Nat.add_assoc, scanVals_succ]
    split
    · exact List.prefix_rfl
    · split
      · unfold metOf
        split
        · exact List.prefix_rfl
        · exact List.prefix_append _ _
      · exact List.prefix_rfl
theorem scanVals_all {row : List Nat} {vals : List (Int × Int)} : ∀ j, scanVals row vals (vals.length + j) = scanVals row vals vals.length
  | 0 => rfl
  | j + 1 => by
    rw [← Nat.add_assoc, scanVals_succ, List.getElem?_eq_none (by omega)]
    exact scanVals_all j
theorem scanVals_reach {s : R} {i x k : Nat} (hi : i < s.objs.length) (hx : (s.scanTo i)[i]? = some x) (hk : k ≤ (s.objOf x).vals.length) : scanVals (s.scanTo i) (s.objOf x).vals k <+: s.reach := by
  have h1 := scanVals_preK (s.scanTo i) (s.objOf x).vals k ((s.objOf x).vals.length - k)
  rw [show k + ((s.objOf x).vals.length - k) = (s.objOf x).vals.length by omega] at h1
  refine h1.trans ?_
  have := scan_reach (s := s) (i := i + 1) hi
  rw [scanTo_succ, hx] at this
  exact this

/-! The handles' objects, by rising slots -/
def R.held (s : R) : Nat → List Nat
  | 0 => []
  | k + 1 => match s.at? (k : Int) with
    | none => s.held k
    | some h => s.held k ++ [(s.handles.getD h rhan0).obj]
theorem held_succ (s : R) (k : Nat) : s.held (k + 1) = match s.at? (k : Int) with
    | none => s.held k
    | some h => s.held k ++ [(s.handles.getD h rhan0).obj] := rfl
theorem roots_held (s : R) : ∀ k, s.roots k = (s.held k).foldl metOf []
  | 0 => rfl
  | k + 1 => by
    rw [roots_succ, held_succ]
    cases s.at? (k : Int) with
    | none => exact roots_held s k
    | some h => simp only [List.foldl_append, List.foldl_cons, List.foldl_nil, roots_held s k]
theorem held_len (s : R) : ∀ k, (s.held k).length ≤ k
  | 0 => Nat.le_refl _
  | k + 1 => by
    have := held_len s k
    rw [held_succ]
    split
    · omega
    · simp; omega
theorem held_row {s : R} (h : RAll s) : ∀ k, ∀ x ∈ s.held k, x ∈ s.row
  | 0 => by simp [R.held]
  | k + 1 => by
    have ih := held_row h k
    rw [held_succ]
    split
    · exact ih
    · rename_i a hq
      intro x hx
      rcases List.mem_append.1 hx with h1 | h1
      · exact ih x h1
      · have h1 : x = (s.handles.getD a rhan0).obj := by simpa using h1
        obtain ⟨g, e1, e2, _⟩ := at_some hq
        obtain ⟨hlt, rfl⟩ := List.getElem?_eq_some_iff.1 e1
        rw [h1, show s.handles.getD a rhan0 = s.handles[a] from by simp [List.getD, hlt]]
        exact h.row.live _ (List.getElem_mem hlt) e2
theorem foldMet_pre (row : List Nat) : ∀ l : List Nat, row <+: l.foldl metOf row
  | [] => List.prefix_rfl
  | y :: r => by
    have h1 : row <+: metOf row y := by
      unfold metOf
      split
      · exact List.prefix_rfl
      · exact List.prefix_append _ _
    exact h1.trans (foldMet_pre (metOf row y) r)
/-- The first i handles' objects. -/
def R.metTo (s : R) (i : Nat) : List Nat := ((s.held 32).take i).foldl metOf []
theorem metTo_succ {s : R} {i y : Nat} (h : (s.held 32)[i]? = some y) : s.metTo (i + 1) = metOf (s.metTo i) y := by
  obtain ⟨hk, rfl⟩ := List.getElem?_eq_some_iff.1 h
  unfold R.metTo
  rw [List.take_succ_eq_append_getElem hk, List.foldl_append]
  rfl
theorem metTo_pre (s : R) (i : Nat) : s.metTo i <+: s.reach := by
  have h1 : s.metTo i <+: s.roots 32 := by
    rw [roots_held]
    unfold R.metTo
    conv => rhs; rw [← List.take_append_drop i (s.held 32), List.foldl_append]
    exact foldMet_pre _ _
  exact h1.trans (scan_reach (s := s) (i := 0) (Nat.zero_le _))
theorem metTo_all {s : R} {i : Nat} (h : (s.held 32).length ≤ i) : s.metTo i = s.scanTo 0 := by
  show _ = s.roots 32
  rw [roots_held]
  unfold R.metTo
  rw [List.take_of_length_le h]
end Go.Proofs.YtfoncalkgmeklaaGreat

/- The collection of the program: one object is moved. -/
namespace Go.Proofs.YtfoncalkgmeklaaGreat
open Go.RowKit

set_option maxHeartbeats 400000 in
theorem memSpanAt_any {w : World} {b off : Nat} {ws : List Int} (p : Int) {k n : Int} (hm : MemAt w b off ws) (hl : ws.length ≤ 1000000) (hx : wordAt ws p = k * 65536 + n) (hk : 1 ≤ k ∧ k ≤ 3) (h0 : 0 ≤ n) (h1 : n ≤ 64) :
    Calls Tryz.prog 122 #[.pointer (some ⟨b, off, none⟩), .int .i64 p] w fun e w' => e = .returned (.int .i64 (wordsOf k n)) ∧ w' = w := by
  have ha := memKind_any p hm hl hx (by omega) (by omega)
  have hb := memSize_any p hm hl hx (by omega)
  have hc := memSpan_any k n w hk h0 h1
  rw [show (k * 65536 + n) / 65536 = k by omega] at ha
  rw [show (k * 65536 + n) % 65536 = n by omega] at hb
  have HA := hide ha; have HB := hide hb; have HC := hide hc; clear ha hb hc hm hx
  go_enter Tryz.func122, Tryz.ntmps122
  go_wp2_with fail
  refine (unhide HA).mono ?_
  rintro e w1 ⟨rfl, rfl⟩
  go_wp2_with fail
  refine (unhide HB).mono ?_
  rintro e w2 ⟨rfl, rfl⟩
  go_wp2_with fail
  refine (unhide HC).mono ?_
  rintro e w3 ⟨rfl, rfl⟩
  go_wp2
  go_ret
  exact ⟨rfl, rfl⟩

/-- A collection under way, in a world that has turned since w0 in new blocks only. -/
structure CW (P : List Nat) (wp w0 w : World) (bc bh : Nat) (fw mv od : List Int) (a ma oa : Option Addr) (c mc oc : Nat) : Prop where
  mb : MB w bc [.pointer (some ⟨bh, 1, none⟩)] 0 fw [.slice ma mv.length mc, .slice oa od.length oc] 157 a c
  moved : w.ownsRow 0 3 1 (.slice ma mv.length mc) mv.length (ints mv)
  order : w.ownsRow 0 3 1 (.slice oa od.length oc) od.length (ints od)
  am : ∀ x ∈ ab a, x ∉ ab ma
  ao : ∀ x ∈ ab a, x ∉ ab oa
  mo : ∀ x ∈ ab ma, x ∉ ab oa
  newer : ∀ x ∈ bc :: (ab a ++ (ab ma ++ ab oa)), w0.heap.size ≤ x
  chg : Chg [] w0 w
  prot : ∀ x ∈ P, x ∉ bc :: (ab a ++ (ab ma ++ ab oa))
  same : ∀ x ∈ P, x < w.heap.size ∧ w.heap[x]? = wp.heap[x]?
section
variable {P : List Nat} {wp w0 w : World} {bc bh : Nat} {fw mv od : List Int} {a ma oa : Option Addr} {c mc oc : Nat}
theorem CW.bm (h : CW P wp w0 w bc bh fw mv od a ma oa c mc oc) : bc ∉ ab ma := fun hm => (owns_ty h.moved bc hm).ne (fun e => h.mb.ty e.symm) h.mb.blk.ty
theorem CW.bo (h : CW P wp w0 w bc bh fw mv od a ma oa c mc oc) : bc ∉ ab oa := fun hm => (owns_ty h.order bc hm).ne (fun e => h.mb.ty e.symm) h.mb.blk.ty
theorem CW.cells (h : CW P wp w0 w bc bh fw mv od a ma oa c mc oc) : w.cell? ⟨bc, 0, none⟩ = some (.pointer (some ⟨bh, 1, none⟩)) ∧ w.cell? ⟨bc, 2, none⟩ = some (.slice a fw.length c) ∧ w.cell? ⟨bc, 3, none⟩ = some (.slice ma mv.length mc) ∧ w.cell? ⟨bc, 4, none⟩ = some (.slice oa od.length oc) ∧ w.frozen? ⟨bc, 2, none⟩ = false ∧ w.frozen? ⟨bc, 4, none⟩ = false :=
  ⟨h.mb.blk.cell_of rfl, h.mb.blk.cell_of rfl, h.mb.blk.cell_of rfl, h.mb.blk.cell_of rfl, h.mb.blk.frozen _, h.mb.blk.frozen _⟩
theorem CW.go (h : CW P wp w0 w bc bh fw mv od a ma oa c mc oc) {w' : World} {fw' : List Int} {a' : Option Addr} {c' : Nat} (hm : MB w' bc [.pointer (some ⟨bh, 1, none⟩)] 0 fw' [.slice ma mv.length mc, .slice oa od.length oc] 157 a' c')
    (st : Stp (bc :: ab a) w (bc :: ab a') w') : CW P wp w0 w' bc bh fw' mv od a' ma oa c' mc oc := by
  have key : ∀ x ∈ ab a', x ∈ ab a ∨ w.heap.size ≤ x := fun x hx => by
    rcases st.foot x (List.mem_cons_of_mem _ hx) with h1 | h1
    · rcases List.mem_cons.1 h1 with rfl | h1
      · exact absurd hx hm.nin
      · exact .inl h1
    · exact .inr h1
  refine ⟨hm, owns_chg h.moved st.chg (fun g hg hx => ?_), owns_chg h.order st.chg (fun g hg hx => ?_), fun x hx hy => ?_, fun x hx hy => ?_, h.mo, fun x hx => ?_, h.chg.trans_new st.chg (fun x hx => .inr (h.newer x ?_)), fun x hx hy => ?_, fun x hx => ?_⟩
  · have hgm := ownBlock_ab hg
    rcases List.mem_cons.1 hx with rfl | hx
    · exact h.bm hgm
    · exact h.am g hx hgm
  · have hgm := ownBlock_ab hg
    rcases List.mem_cons.1 hx with rfl | hx
    · exact h.bo hgm
    · exact h.ao g hx hgm
  · rcases key x hx with h1 | h1
    · exact h.am x h1 hy
    · have := own_lt h.moved x hy; omega
  · rcases key x hx with h1 | h1
    · exact h.ao x h1 hy
    · have := own_lt h.order x hy; omega
  · rcases List.mem_cons.1 hx with rfl | hx
    · exact h.newer _ List.mem_cons_self
    · rcases List.mem_append.1 hx with h1 | h1
      · rcases key x h1 with h2 | h2
        · exact h.newer x (List.mem_cons_of_mem _ (List.mem_append_left _ h2))
        · exact Nat.le_trans h.chg.size h2
      · exact h.newer x (List.mem_cons_of_mem _ (List.mem_append_right _ h1))
  · rcases List.mem_cons.1 hx with rfl | hx
    · exact List.mem_cons_self
    · exact List.mem_cons_of_mem _ (List.mem_append_left _ hx)
  · have hb := h.prot x hx
    rcases List.mem_cons.1 hy with rfl | hy
    · exact hb List.mem_cons_self
    · rcases List.mem_append.1 hy with h1 | h1
      · rcases key x h1 with h2 | h2
        · exact hb (List.mem_cons_of_mem _ (List.mem_append_left _ h2))
        · have := (h.same x hx).1; omega
      · exact hb (List.mem_cons_of_mem _ (List.mem_append_right _ h1))
  · have hb := h.prot x hx
    obtain ⟨h1, h2⟩ := h.same x hx
    refine ⟨Nat.lt_of_lt_of_le h1 st.chg.size, (st.chg.block x h1 (fun hy => hb ?_)).trans h2⟩
    rcases List.mem_cons.1 hy with rfl | hy
    · exact List.mem_cons_self
    · exact List.mem_cons_of_mem _ (List.mem_append_left _ hy)
theorem CW.quiet (h : CW P wp w0 w bc bh fw mv od a ma oa c mc oc) {w' : World} (k : Chg [] w w') : CW P wp w0 w' bc bh fw mv od a ma oa c mc oc := h.go (h.mb.chg k (by simp) (by simp)) (Stp.of_chg k)
theorem CW.setMoved (h : CW P wp w0 w bc bh fw mv od a ma oa c mc oc) {g p : Nat} (hg : ma = some ⟨g, 0, none⟩) (hp : p < mv.length) (v : Int) : CW P wp w0 (w.setCell ⟨g, p, none⟩ (.int .i64 v)) bc bh fw (mv.set p v) od a ma oa c mc oc := by
  subst hg
  have hgm : g ∈ ab (some (⟨g, 0, none⟩ : Addr)) := by simp [ab]
  have k : Chg [g] w (w.setCell ⟨g, p, none⟩ (.int .i64 v)) := (Chg.refl _ w).setCell (.inl (by simp)) _
  have hl : (mv.set p v).length = mv.length := by simp
  refine ⟨by rw [hl]; exact h.mb.chg k (fun hx => h.bm (by simp at hx; rw [hx]; exact hgm)) (fun x hx hy => h.am x hx (by simp at hy; rw [hy]; exact hgm)), by rw [hl]; exact owns_set h.moved hp,
    owns_chg h.order k (fun y hy hx => h.mo g hgm (by simp at hx; rw [← hx]; exact ownBlock_ab hy)), h.am, h.ao, h.mo, h.newer, h.chg.trans_new k (fun x hx => .inr (h.newer x ?_)), h.prot, fun x hx => ?_⟩
  · simp at hx
    rw [hx]
    exact List.mem_cons_of_mem _ (List.mem_append_right _ (List.mem_append_left _ hgm))
  · obtain ⟨h1, h2⟩ := h.same x hx
    refine ⟨Nat.lt_of_lt_of_le h1 k.size, (k.block x h1 (fun hy => h.prot x hx ?_)).trans h2⟩
    simp at hy
    rw [hy]
    exact List.mem_cons_of_mem _ (List.mem_append_right _ (List.mem_append_left _ hgm))
theorem CW.pushOrder (h : CW P wp w0 w bc bh fw mv od a ma oa c mc oc) {w1 : World} {x : Int} (o : Obj) {va : Option Addr} {cap H : Nat}
    (ho : w1.ownsRow 0 3 1 (.slice va (od.length + 1) cap) (od.length + 1) (ints od ++ ints [x])) (hg : (w.alloc o).grownBy w1 (Value.slice oa od.length oc).ownBlock) (hH : w.heap.size ≤ H)
    (hat : (Value.slice va (od.length + 1) cap).ownBlock = (Value.slice oa od.length oc).ownBlock ∨ (Value.slice va (od.length + 1) cap).ownBlock = some H) :
    CW P wp w0 (w1.setCell ⟨bc, 4, none⟩ (.slice va (od.length + 1) cap)) bc bh fw mv (od ++ [x]) a ma va c mc cap := by
  have k1 : Chg (ab oa) w w1 := grown_ab (S := []) ((Chg.refl [] w).alloc o) hg
  have hb1 : Blk w1 bc _ _ := h.mb.blk.chg k1 h.bo
  have hb2 := hb1.setCell 4 (.slice va (od.length + 1) cap)
  have hl : (od ++ [x]).length = od.length + 1 := by simp
  have hv : ∀ y ∈ ab va, y ∈ ab oa ∨ w.heap.size ≤ y := at_ab hH hat
  have ne : ∀ {e n cc : Nat} {A : Option Addr} {m : Nat} {xs : List Value}, w1.ownsRow 0 3 1 (.slice A n cc) m xs → ∀ g, (Value.slice A n cc).ownBlock = some g → g ≠ bc := by
    intro _ n cc A m xs hw g hgv e
    exact (owns_ty hw g (ownBlock_ab hgv)).ne (fun e => h.mb.ty e.symm) (by rw [e]; exact hb1.ty)
  have o1 := owns_chg h.mb.own k1 (fun g hg' => h.ao g (ownBlock_ab hg'))
  have o2 := owns_chg h.moved k1 (fun g hg' => h.mo g (ownBlock_ab hg'))
  refine ⟨⟨by rw [hl]; exact hb2, ownsRow_setCell_other' o1 (ne (e := 0) o1) _, h.mb.ty⟩, ownsRow_setCell_other' o2 (ne (e := 0) o2) _, by rw [hl, ints_append]; exact ownsRow_setCell_other' ho (ne (e := 0) ho) _, h.am, fun y hy hz => ?_, fun y hy hz => ?_, fun y hy => ?_, ?_, fun y hy hz => ?_, fun y hy => ?_⟩
  · rcases hv y hz with h1 | h1
    · exact h.ao y hy h1
    · have := own_lt h.mb.own y hy; omega
  · rcases hv y hz with h1 | h1
    · exact h.mo y hy h1
    · have := own_lt h.moved y hy; omega
  · rcases List.mem_cons.1 hy with rfl | hy
    · exact h.newer _ List.mem_cons_self
    · rcases List.mem_append.1 hy with h1 | h1
      · exact h.newer y (List.mem_cons_of_mem _ (List.mem_append_left _ h1))
      · rcases List.mem_append.1 h1 with h2 | h2
        · exact h.newer y (List.mem_cons_of_mem _ (List.mem_append_right _ (List.mem_append_left _ h2)))
        · rcases hv y h2 with h3 | h3
          · exact h.newer y (List.mem_cons_of_mem _ (List.mem_append_right _ (List.mem_append_right _ h3)))
          · exact Nat.le_trans h.chg.size h3
  · refine (h.chg.trans_new k1 (fun y hy => .inr (h.newer y (List.mem_cons_of_mem _ (List.mem_append_right _ (List.mem_append_right _ hy)))))).setCell (.inr (h.newer _ List.mem_cons_self)) _
  · have hb := h.prot y hy
    rcases List.mem_cons.1 hz with rfl | hz
    · exact hb List.mem_cons_self
    · rcases List.mem_append.1 hz with h1 | h1
      · exact hb (List.mem_cons_of_mem _ (List.mem_append_left _ h1))
      · rcases List.mem_append.1 h1 with h2 | h2
        · exact hb (List.mem_cons_of_mem _ (List.mem_append_right _ (List.mem_append_left _ h2)))
        · rcases hv y h2 with h3 | h3
          · exact hb (List.mem_cons_of_mem _ (List.mem_append_right _ (List.mem_append_right _ h3)))
          · have := (h.same y hy).1; omega
  · have hb := h.prot y hy
    obtain ⟨h1, h2⟩ := h.same y hy
    have k2 : Chg (bc :: ab oa) w (w1.setCell ⟨bc, 4, none⟩ (.slice va (od.length + 1) cap)) := (k1.mono (fun z hz => List.mem_cons_of_mem _ hz)).setCell (.inl (by simp)) _
    refine ⟨Nat.lt_of_lt_of_le h1 k2.size, (k2.block y h1 (fun hz => hb ?_)).trans h2⟩
    rcases List.mem_cons.1 hz with rfl | hz
    · exact List.mem_cons_self
    · exact List.mem_cons_of_mem _ (List.mem_append_right _ (List.mem_append_right _ hz))
theorem CW.reprot (h : CW P wp w0 w bc bh fw mv od a ma oa c mc oc) {S P' : List Nat} {w1 : World} (k : Chg S w w1) (hS : ∀ x ∈ S, x ∉ bc :: (ab a ++ (ab ma ++ ab oa)) ∧ w0.heap.size ≤ x) (hP : ∀ x ∈ P', x < w1.heap.size ∧ x ∉ bc :: (ab a ++ (ab ma ++ ab oa))) : CW P' w1 w0 w1 bc bh fw mv od a ma oa c mc oc := by
  have ns : ∀ x, x ∈ bc :: (ab a ++ (ab ma ++ ab oa)) → x ∉ S := fun x hx hy => (hS x hy).1 hx
  refine ⟨h.mb.chg k (ns _ List.mem_cons_self) (fun x hx => ns x (List.mem_cons_of_mem _ (List.mem_append_left _ hx))), owns_chg h.moved k (fun g hg => ns g (List.mem_cons_of_mem _ (List.mem_append_right _ (List.mem_append_left _ (ownBlock_ab hg))))),
    owns_chg h.order k (fun g hg => ns g (List.mem_cons_of_mem _ (List.mem_append_right _ (List.mem_append_right _ (ownBlock_ab hg))))), h.am, h.ao, h.mo, h.newer, h.chg.trans_new k (fun x hx => .inr (hS x hx).2), fun x hx => (hP x hx).2, fun x hx => ⟨(hP x hx).1, rfl⟩⟩
theorem owns_same {w w' : World} {e : TypeId} {size n c m : Nat} {A : Option Addr} {xs : List Value} (h : w.ownsRow 0 e size (.slice A n c) m xs) (hs : ∀ x ∈ ab A, w'.heap[x]? = w.heap[x]?) : w'.ownsRow 0 e size (.slice A n c) m xs := by
  refine ⟨h.1, ?_⟩
  rcases h.2 with h2 | ⟨g, cap, cur, hv, hb, hg, r⟩
  · exact .inl h2
  · refine .inr ⟨g, cap, cur, hv, hb, ?_, r⟩
    simp only [Value.slice.injEq] at hv
    obtain ⟨rfl, _, _⟩ := hv
    rw [hs g (by simp [ab])]
    exact hg
theorem CW.movedAt (h : CW P wp w0 w bc bh fw mv od a ma oa c mc oc) {p : Nat} (hp : p < mv.length) : ∃ g, ma = some ⟨g, 0, none⟩ ∧ w.cell? ⟨g, p, none⟩ = some (.int .i64 (mv.getD p 0)) ∧ w.frozen? ⟨g, p, none⟩ = false := by
  obtain ⟨g, rfl, hgl, hcc⟩ := owns_at h.moved (by omega)
  obtain ⟨rest, hb, _⟩ := owns_blk h.moved
  exact ⟨g, rfl, hcc p _ (ints_at hp), hb.frozen _⟩

set_option maxHeartbeats 1000000 in
theorem move_old (h : CW P wp w0 w bc bh fw mv od a ma oa c mc oc) (p : Nat) {q : Int} (hp : p < mv.length) (hq : mv.getD p 0 = q + 1) (h0 : 0 ≤ q) (h1 : q ≤ 1000000) :
    Calls Tryz.prog 143 #[.pointer (some ⟨bc, 0, none⟩), .int .i64 (p : Int)] w fun e w' => e = .returned (.int .i64 q) ∧ w' = w := by
  obtain ⟨_, _, c3, _⟩ := h.cells
  obtain ⟨g, rfl, cg, _⟩ := h.movedAt hp
  rw [hq] at cg
  have zp : (p : Int) < (mv.length : Int) := by omega
  have zq : ¬ (q + 1 ≤ 0) := by omega
  generalize mv.length = m at *
  clear h hq
  go_enter Tryz.func143, Tryz.ntmps143
  go_wp2
  all_goals go_ret
  all_goals exact ⟨by simp, rfl⟩
set_option maxRecDepth 100000 in
set_option maxHeartbeats 2000000 in
theorem move_new (h : CW P wp w0 w bc bh fw mv od a ma oa c mc oc) {ws : List Int} (hm : MemAt w0 bh 1 ws) (hwl : ws.length ≤ 1000) (p : Nat) {k n : Int} (hp : p < mv.length) (hz : mv.getD p 0 = 0) (hx : wordAt ws (p : Int) = k * 65536 + n) (hk : 1 ≤ k ∧ k ≤ 3) (h0 : 0 ≤ n) (h1 : n ≤ 64) (hfl : fw.length ≤ 1000) (hml : mv.length ≤ 1000) (hol : od.length ≤ 1000) :
    Calls Tryz.prog 143 #[.pointer (some ⟨bc, 0, none⟩), .int .i64 (p : Int)] w fun e w' => e = .returned (.int .i64 (fw.length : Int)) ∧ ∃ a' oa' c' oc', CW P wp w0 w' bc bh (fw ++ (List.range (wordsOf k n).toNat).map (fun (i : Nat) => wordAt ws ((p : Int) + (i : Int)))) (mv.set p ((fw.length : Int) + 1)) (od ++ [(fw.length : Int)]) a' ma oa' c' mc oc' := by
  obtain ⟨i0, hi0, hz0, hz1, hz2⟩ := info_parts info3
  obtain ⟨c0, c2, c3, c4, _, _⟩ := h.cells
  obtain ⟨g, hg, cg, _⟩ := h.movedAt hp
  rw [hz] at cg
  have hsp := memSpanAt_any (p : Int) (hm.chg h.chg) (by omega) hx hk h0 h1
  have hcnt : 1 ≤ wordsOf k n ∧ wordsOf k n ≤ 258 := by
    unfold wordsOf
    split
    · omega
    · split
      · split <;> omega
      · omega
  obtain ⟨m, hmm⟩ : ∃ m : Nat, wordsOf k n = (m : Int) := ⟨(wordsOf k n).toNat, by omega⟩
  rw [hmm] at hsp hcnt ⊢
  rw [Int.toNat_natCast]
  have zp : (p : Int) < (mv.length : Int) := by omega
  have zp2 : (p : Int) ≤ 1000 := by omega
  have HSP := hide hsp; have H := hide h; have HM := hide hm; clear hsp h hm hx hmm
  subst hg
  go_enter Tryz.func143, Tryz.ntmps143
  go_wp2_with fail
  refine (unhide HSP).mono ?_
  rintro e w1 ⟨rfl, rfl⟩
  go_wp2_with fail
  clear c0 c2 c3 c4 cg
  go_loopw [7, 8] (fun i _ wr => ∃ (j : Nat) (a' : Option Addr) (c' : Nat), j ≤ m ∧ i = .int .i64 j ∧ CW P wp w0 wr bc bh (fw ++ (List.range j).map (fun (i : Nat) => wordAt ws ((p : Int) + (i : Int)))) mv od a' (some ⟨g, 0, none⟩) oa c' mc oc) (fun i _ _ => m - (intOf i).toNat)
  case atStart => exact ⟨0, a, c, by omega, rfl, by simpa using unhide H⟩
  case round =>
    obtain ⟨j, a', c', hjm, rfl, hcw⟩ := hrel
    have hlen : (fw ++ (List.range j).map (fun (i : Nat) => wordAt ws ((p : Int) + (i : Int)))).length = fw.length + j := by simp
    by_cases hlt : j < m
    · have zj : (j : Int) < (m : Int) := by omega
      have hmm : (m : Int) ≤ 258 := hcnt.2
      obtain ⟨x0, x2, _, _, y2, _⟩ := hcw.cells
      have hword := memWord_any ((p : Int) + (j : Int)) ((unhide HM).chg hcw.chg) (by omega)
      have hnew : (fw ++ (List.range j).map (fun (i : Nat) => wordAt ws ((p : Int) + (i : Int)))) ++ [wordAt ws ((p : Int) + (j : Int))] = fw ++ (List.range (j + 1)).map (fun (i : Nat) => wordAt ws ((p : Int) + (i : Int))) := by
        rw [List.range_succ, List.map_append, List.append_assoc]; rfl
      have HCW := hide hcw; have HW := hide hword; have HLEN := hide hlen; have HNEW := hide hnew; clear hcw hword hlen hnew
      generalize hvs : fw ++ (List.range j).map (fun (i : Nat) => wordAt ws ((p : Int) + (i : Int))) = vs at *
      have hvl : vs.length ≤ 1300 := by have := unhide HLEN; omega
      clear hvs
      generalize wordAt ws ((p : Int) + (j : Int)) = x at *
      go_wp2_with fail
      refine (unhide HW).mono ?_
      rintro e w2 ⟨rfl, rfl⟩
      clear x0
      go_wp2_with (at_builtin; go_must (refine wpList_append_gen _ rfl (.tmp 66) (.tmp 68) 26 rfl 3 i0 (.int .i64 0) 1 8 Tryz.underlying26 hi0 hz0 hz1 hz2 rfl (by decide) (.slice a' vs.length c') vs.length (ints vs) rfl ?c0 (some ⟨w2.heap.size, 0, none⟩) 1 1 (ints [x]) rfl rfl ?c1 (ints_one _) ?c2 ?c3 ?_))
      case c0 => exact World.ownsRow.alloc (unhide HCW).mb.own _
      case c1 => first | exact fun _ => ⟨_, rfl, fun j u hj => by rw [addr_add, Nat.zero_add]; exact (Blk.new w2 (ints [x]) 3).cell_of hj⟩ | exact fun j u hj => hj
      case c2 => unfold maxLen; omega
      case c3 => omega
      intro va9 cap9 w9 ho9 hg9 hat9
      have hp9 := (unhide HCW).mb.push (.cells #[.int .i64 x] 3) ho9 hg9 (Nat.le_succ _) hat9
      have hcw9 := (unhide HCW).go hp9.1 hp9.2
      have hb9 : w9.cell? ⟨bc, 2, none⟩ = some (.slice a' vs.length c') ∧ w9.frozen? ⟨bc, 2, none⟩ = false := by
        have hb := (unhide HCW).mb.blk.chg (grown_ab (S := []) ((Chg.refl [] w2).alloc _) hg9) (unhide HCW).mb.nin
        exact ⟨hb.cell_of rfl, hb.frozen _⟩
      obtain ⟨d1, e1⟩ := hb9
      have HC9 := hide hcw9; clear hp9 hcw9 ho9 hg9 hat9 x2 y2
      go_wp2
      go_roundw
      case rel =>
        have hr : ∃ (j' : Nat) (a'' : Option Addr) (c'' : Nat), j' ≤ m ∧ Value.int .i64 ((j : Int) + 1) = .int .i64 j' ∧ CW P wp w0 (w9.setCell ⟨bc, 2, none⟩ (.slice va9 (vs.length + 1) cap9)) bc bh (fw ++ (List.range j').map (fun (i : Nat) => wordAt ws ((p : Int) + (i : Int)))) mv od a'' (some ⟨g, 0, none⟩) oa c'' mc oc :=
          ⟨j + 1, va9, cap9, by omega, by go_num, by rw [← unhide HNEW]; exact unhide HC9⟩
        first | exact hr | ((repeat apply Exists.intro); exact ⟨hr, rfl⟩)
      case measure => simp [intOf]; omega
    · have hjm' : j = m := by omega
      subst hjm'
      obtain ⟨_, _, x3, x4, _, y4⟩ := hcw.cells
      obtain ⟨g', hg', cg, fg⟩ := hcw.movedAt hp
      rw [hz] at cg
      simp only [Option.some.injEq, Addr.mk.injEq, and_true] at hg'
      subst hg'
      have hcw2 := hcw.setMoved rfl hp ((fw.length : Int) + 1)
      obtain ⟨_, _, _, x4', _, y4'⟩ := hcw2.cells
      have HC2 := hide hcw2; clear hcw hcw2 hlen
      go_wp2_with (at_builtin; go_must (refine wpList_append_gen _ rfl (.tmp 85) (.tmp 87) 26 rfl 3 i0 (.int .i64 0) 1 8 Tryz.underlying26 hi0 hz0 hz1 hz2 rfl (by decide) (.slice oa od.length oc) od.length (ints od) rfl ?c0 (some ⟨wr.heap.size, 0, none⟩) 1 1 (ints [(fw.length : Int)]) rfl rfl ?c1 (ints_one _) ?c2 ?c3 ?_))
      case c0 => exact World.ownsRow.alloc (unhide HC2).order _
      case c1 =>
        intro _
        refine ⟨_, rfl, fun j u hj => ?_⟩
        have hbn := Blk.new (wr.setCell ⟨g, p, none⟩ (.int .i64 ((fw.length : Int) + 1))) (ints [(fw.length : Int)]) 3
        rw [show (wr.setCell ⟨g, p, none⟩ (.int .i64 ((fw.length : Int) + 1))).heap.size = wr.heap.size from by simp [World.setCell]] at hbn
        rw [addr_add, Nat.zero_add]
        exact hbn.cell_of hj
      case c2 => unfold maxLen; omega
      case c3 => omega
      intro va9 cap9 w9 ho9 hg9 hat9
      have hcw9 := (unhide HC2).pushOrder (H := wr.heap.size + 1) (.cells #[.int .i64 (fw.length : Int)] 3) ho9 hg9 (by simp [World.setCell]) hat9
      have hb9 : w9.cell? ⟨bc, 4, none⟩ = some (.slice oa od.length oc) ∧ w9.frozen? ⟨bc, 4, none⟩ = false := by
        have hb := (unhide HC2).mb.blk.chg (grown_ab (S := []) ((Chg.refl [] _).alloc _) hg9) (unhide HC2).bo
        exact ⟨hb.cell_of rfl, hb.frozen _⟩
      obtain ⟨d1, e1⟩ := hb9
      have HC9 := hide hcw9; clear hcw9 ho9 hg9 hat9 x3 x4 y4 x4' y4'
      go_wp2
      go_ret
      exact ⟨rfl, a', va9, c', cap9, unhide HC9⟩
end
end Go.Proofs.YtfoncalkgmeklaaGreat

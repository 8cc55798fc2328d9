import Derived.Test.YtfoncalkgmeklaaGreatYwM9
import Derived.Test.YtfoncalkgmeklaaGreatYwM11
import Derived.Test.YtfoncalkgmeklaaGreatYwM14

/- What the program must do at a step (PStep), and the step. (Written by wip/genplay.py.) -/
namespace Go.Proofs.YtfoncalkgmeklaaGreat
open Go.RowKit

/-- What the document says of a step. -/
def R.stepQ (s : R) (o : LOp) : R :=
  if o.kind = 1 then (s.arrayQ o.x).2.2
  else if o.kind = 2 then (s.bytesQ o.s).2.2
  else if o.kind = 3 then (s.tableQ o.x).2.2
  else if o.kind = 22 then (s.joinQ o.x o.y).2.2
  else if o.kind = 23 then (s.copyQ o.x).2.2
  else if o.kind = 9 then (s.getQ o.x o.y).2.2
  else if o.kind = 12 then (s.findQ o.x o.k).2.2
  else if o.kind = 15 then (s.keyQ o.x o.y).2.2
  else if o.kind = 10 then (s.setQ o.x o.y o.v).2
  else if o.kind = 13 then (s.putQ o.x o.k o.v).2
  else if o.kind = 14 then (s.cutQ o.x o.k).2
  else if o.kind = 16 then (s.openQ).2.2
  else if o.kind = 17 then (s.closeQ o.x).2
  else if o.kind = 18 then (s.escapeQ o.x).2.2
  else if o.kind = 19 then (s.keepQ o.x).2.2
  else if o.kind = 20 then (s.releaseQ o.x).2
  else if o.kind = 21 then (s.collectQ).2
  else s

/-- What the program must do at a step of the document. -/
structure PStep (G : World → Nat → R → List Nat → Prop) (bh : Nat) (s : R) (o : LOp) : Prop where
  array : o.kind = 1 → PCall G 27 bh [.int .i64 o.x] s (.int .i64 (s.arrayQ o.x).1) (s.arrayQ o.x).2.1 (s.arrayQ o.x).2.2
  bytes : o.kind = 2 → PCall G 29 bh [.string o.s] s (.int .i64 (s.bytesQ o.s).1) (s.bytesQ o.s).2.1 (s.bytesQ o.s).2.2
  table : o.kind = 3 → PCall G 31 bh [.int .i64 o.x] s (.int .i64 (s.tableQ o.x).1) (s.tableQ o.x).2.1 (s.tableQ o.x).2.2
  join : o.kind = 22 → PCall G 33 bh [.int .i64 o.x, .int .i64 o.y] s (.int .i64 (s.joinQ o.x o.y).1) (s.joinQ o.x o.y).2.1 (s.joinQ o.x o.y).2.2
  copy : o.kind = 23 → PCall G 35 bh [.int .i64 o.x] s (.int .i64 (s.copyQ o.x).1) (s.copyQ o.x).2.1 (s.copyQ o.x).2.2
  kind : o.kind = 4 → PCall G 37 bh [.int .i64 o.x] s (.int .i64 (s.kindQ o.x).1) (s.kindQ o.x).2 s
  len : o.kind = 5 → PCall G 39 bh [.int .i64 o.x] s (.int .i64 (s.lenQ o.x).1) (s.lenQ o.x).2 s
  text : o.kind = 6 → PCall G 43 bh [.int .i64 o.x] s (.string (s.textQ o.x).1) (s.textQ o.x).2 s
  place : o.kind = 7 → PCall G 41 bh [.int .i64 o.x] s (.int .i64 (s.placeQ o.x).1) (s.placeQ o.x).2 s
  same : o.kind = 11 → PCall G 45 bh [.int .i64 o.x, .int .i64 o.y] s (.bool (s.sameQ o.x o.y).1) (s.sameQ o.x o.y).2 s
  get : o.kind = 9 → PCall G 48 bh [.int .i64 o.x, .int .i64 o.y] s (.agg #[.int .i64 (s.getQ o.x o.y).1.1, .int .i64 (s.getQ o.x o.y).1.2]) (s.getQ o.x o.y).2.1 (s.getQ o.x o.y).2.2
  find : o.kind = 12 → PCall G 50 bh [.int .i64 o.x, .agg #[.int .i64 o.k.1, .int .i64 o.k.2]] s (.agg #[.int .i64 (s.findQ o.x o.k).1.1, .int .i64 (s.findQ o.x o.k).1.2]) (s.findQ o.x o.k).2.1 (s.findQ o.x o.k).2.2
  key : o.kind = 15 → PCall G 52 bh [.int .i64 o.x, .int .i64 o.y] s (.agg #[.int .i64 (s.keyQ o.x o.y).1.1, .int .i64 (s.keyQ o.x o.y).1.2]) (s.keyQ o.x o.y).2.1 (s.keyQ o.x o.y).2.2
  set : o.kind = 10 → PCall1 G 54 bh [.int .i64 o.x, .int .i64 o.y, .agg #[.int .i64 o.v.1, .int .i64 o.v.2]] s (s.setQ o.x o.y o.v).1 (s.setQ o.x o.y o.v).2
  put : o.kind = 13 → PCall1 G 56 bh [.int .i64 o.x, .agg #[.int .i64 o.k.1, .int .i64 o.k.2], .agg #[.int .i64 o.v.1, .int .i64 o.v.2]] s (s.putQ o.x o.k o.v).1 (s.putQ o.x o.k o.v).2
  cut : o.kind = 14 → PCall1 G 58 bh [.int .i64 o.x, .agg #[.int .i64 o.k.1, .int .i64 o.k.2]] s (s.cutQ o.x o.k).1 (s.cutQ o.x o.k).2
  opens : o.kind = 16 → PCall G 60 bh [] s (.int .i64 (s.openQ).1) (s.openQ).2.1 (s.openQ).2.2
  close : o.kind = 17 → PCall1 G 62 bh [.int .i64 o.x] s (s.closeQ o.x).1 (s.closeQ o.x).2
  escape : o.kind = 18 → PCall G 64 bh [.int .i64 o.x] s (.int .i64 (s.escapeQ o.x).1) (s.escapeQ o.x).2.1 (s.escapeQ o.x).2.2
  keep : o.kind = 19 → PCall G 66 bh [.int .i64 o.x] s (.int .i64 (s.keepQ o.x).1) (s.keepQ o.x).2.1 (s.keepQ o.x).2.2
  release : o.kind = 20 → PCall1 G 68 bh [.int .i64 o.x] s (s.releaseQ o.x).1 (s.releaseQ o.x).2
  collect : o.kind = 21 → PCall1 G 70 bh [] s (s.collectQ).1 (s.collectQ).2
  words : o.kind = 8 → PWords G bh s

theorem r_array {br : Nat} {s : R} (o : LOp) (hi : RInv s) (hb : RBd s) (hm : s.made < 3298534883328) (ho : s.objs.length < 3298534883328) : RCall 28 br [.int .i64 o.x] s (.int .i64 (s.arrayQ o.x).1) (s.arrayQ o.x).2.1 (s.arrayQ o.x).2.2 :=
  fun _ _ h => refArray_any o.x h hi hb hm ho
theorem r_bytes {br : Nat} {s : R} (o : LOp) (ht : o.s.size ≤ maxLen) (hi : RInv s) (hb : RBd s) (hm : s.made < 3298534883328) (ho : s.objs.length < 3298534883328) : RCall 30 br [.string o.s] s (.int .i64 (s.bytesQ o.s).1) (s.bytesQ o.s).2.1 (s.bytesQ o.s).2.2 :=
  fun _ _ h => refBytes_any o.s ht h hi hb hm ho
theorem r_table {br : Nat} {s : R} (o : LOp) (hi : RInv s) (hb : RBd s) (hm : s.made < 3298534883328) (ho : s.objs.length < 3298534883328) : RCall 32 br [.int .i64 o.x] s (.int .i64 (s.tableQ o.x).1) (s.tableQ o.x).2.1 (s.tableQ o.x).2.2 :=
  fun _ _ h => refTable_any o.x h hi hb hm ho
theorem r_join {br : Nat} {s : R} (o : LOp) (hi : RInv s) (hs : RSh s) (hb : RBd s) (hm : s.made < 3298534883328) (ho : s.objs.length < 3298534883328) : RCall 34 br [.int .i64 o.x, .int .i64 o.y] s (.int .i64 (s.joinQ o.x o.y).1) (s.joinQ o.x o.y).2.1 (s.joinQ o.x o.y).2.2 :=
  fun _ _ h => refJoin_any o.x o.y h hi hs hb hm ho
theorem r_copy {br : Nat} {s : R} (o : LOp) (hi : RInv s) (hb : RBd s) (hm : s.made < 3298534883328) (ho : s.objs.length < 3298534883328) : RCall 36 br [.int .i64 o.x] s (.int .i64 (s.copyQ o.x).1) (s.copyQ o.x).2.1 (s.copyQ o.x).2.2 :=
  fun _ _ h => refCopy_any o.x h hi hb hm ho
theorem r_kind {br : Nat} {s : R} (o : LOp) (hi : RInv s) (hb : RBd s) : RCall 38 br [.int .i64 o.x] s (.int .i64 (s.kindQ o.x).1) (s.kindQ o.x).2 s :=
  fun _ L h => (refKind_any o.x h hi hb).mono fun _ _ ⟨e, k⟩ => ⟨L, e, h.chg k (by simp), Stp.of_chg k⟩
theorem r_len {br : Nat} {s : R} (o : LOp) (hi : RInv s) (hb : RBd s) : RCall 40 br [.int .i64 o.x] s (.int .i64 (s.lenQ o.x).1) (s.lenQ o.x).2 s :=
  fun _ L h => (refLen_any o.x h hi hb).mono fun _ _ ⟨e, k⟩ => ⟨L, e, h.chg k (by simp), Stp.of_chg k⟩
theorem r_text {br : Nat} {s : R} (o : LOp) (hi : RInv s) (hb : RBd s) : RCall 44 br [.int .i64 o.x] s (.string (s.textQ o.x).1) (s.textQ o.x).2 s :=
  fun _ L h => (refText_any o.x h hi hb).mono fun _ _ ⟨e, k⟩ => ⟨L, e, h.chg k (by simp), Stp.of_chg k⟩
theorem r_place {br : Nat} {s : R} (o : LOp) (hi : RInv s) (hb : RBd s) : RCall 42 br [.int .i64 o.x] s (.int .i64 (s.placeQ o.x).1) (s.placeQ o.x).2 s :=
  fun _ L h => (refPlaceQ_any o.x h hi hb).mono fun _ _ ⟨e, k⟩ => ⟨L, e, h.chg k (by simp), Stp.of_chg k⟩
theorem r_same {br : Nat} {s : R} (o : LOp) (hb : RBd s) : RCall 46 br [.int .i64 o.x, .int .i64 o.y] s (.bool (s.sameQ o.x o.y).1) (s.sameQ o.x o.y).2 s :=
  fun _ L h => (refSame_any o.x o.y h hb).mono fun _ _ ⟨e, k⟩ => ⟨L, e, h.chg k (by simp), Stp.of_chg k⟩
theorem r_get {br : Nat} {s : R} (o : LOp) (hi : RInv s) (hs : RSh s) (hb : RBd s) : RCall 49 br [.int .i64 o.x, .int .i64 o.y] s (.agg #[.int .i64 (s.getQ o.x o.y).1.1, .int .i64 (s.getQ o.x o.y).1.2]) (s.getQ o.x o.y).2.1 (s.getQ o.x o.y).2.2 :=
  fun _ _ h => refGet_any o.x o.y h hi hs hb
theorem r_find {br : Nat} {s : R} (o : LOp) (hi : RInv s) (hs : RSh s) (hb : RBd s) : RCall 51 br [.int .i64 o.x, .agg #[.int .i64 o.k.1, .int .i64 o.k.2]] s (.agg #[.int .i64 (s.findQ o.x o.k).1.1, .int .i64 (s.findQ o.x o.k).1.2]) (s.findQ o.x o.k).2.1 (s.findQ o.x o.k).2.2 :=
  fun _ _ h => refFind2_any o.x o.k h hi hs hb
theorem r_key {br : Nat} {s : R} (o : LOp) (hi : RInv s) (hs : RSh s) (hb : RBd s) : RCall 53 br [.int .i64 o.x, .int .i64 o.y] s (.agg #[.int .i64 (s.keyQ o.x o.y).1.1, .int .i64 (s.keyQ o.x o.y).1.2]) (s.keyQ o.x o.y).2.1 (s.keyQ o.x o.y).2.2 :=
  fun _ _ h => refKey_any o.x o.y h hi hs hb
theorem r_set {br : Nat} {s : R} (o : LOp) (hi : RInv s) (hs : RSh s) (hb : RBd s) : RCall1 55 br [.int .i64 o.x, .int .i64 o.y, .agg #[.int .i64 o.v.1, .int .i64 o.v.2]] s (s.setQ o.x o.y o.v).1 (s.setQ o.x o.y o.v).2 :=
  fun _ _ h => refSet_any o.x o.y o.v h hi hs hb
theorem r_put {br : Nat} {s : R} (o : LOp) (hi : RInv s) (hs : RSh s) (hb : RBd s) : RCall1 57 br [.int .i64 o.x, .agg #[.int .i64 o.k.1, .int .i64 o.k.2], .agg #[.int .i64 o.v.1, .int .i64 o.v.2]] s (s.putQ o.x o.k o.v).1 (s.putQ o.x o.k o.v).2 :=
  fun _ _ h => refPut_any o.x o.k o.v h hi hs hb
theorem r_cut {br : Nat} {s : R} (o : LOp) (hi : RInv s) (hs : RSh s) (hb : RBd s) : RCall1 59 br [.int .i64 o.x, .agg #[.int .i64 o.k.1, .int .i64 o.k.2]] s (s.cutQ o.x o.k).1 (s.cutQ o.x o.k).2 :=
  fun _ _ h => refCut_any o.x o.k h hi hs hb
theorem r_opens {br : Nat} {s : R} (hi : RInv s) : RCall 61 br [] s (.int .i64 (s.openQ).1) (s.openQ).2.1 (s.openQ).2.2 :=
  fun _ _ h => refOpen_any h hi
theorem r_close {br : Nat} {s : R} (o : LOp) (hi : RInv s) (hb : RBd s) : RCall1 63 br [.int .i64 o.x] s (s.closeQ o.x).1 (s.closeQ o.x).2 :=
  fun _ _ h => refClose_any o.x h hi hb
theorem r_escape {br : Nat} {s : R} (o : LOp) (hi : RInv s) (hb : RBd s) : RCall 65 br [.int .i64 o.x] s (.int .i64 (s.escapeQ o.x).1) (s.escapeQ o.x).2.1 (s.escapeQ o.x).2.2 :=
  fun _ _ h => refEscape_any o.x h hi hb
theorem r_keep {br : Nat} {s : R} (o : LOp) (hi : RInv s) (hb : RBd s) : RCall 67 br [.int .i64 o.x] s (.int .i64 (s.keepQ o.x).1) (s.keepQ o.x).2.1 (s.keepQ o.x).2.2 :=
  fun _ _ h => refKeep_any o.x h hi hb
theorem r_release {br : Nat} {s : R} (o : LOp) (hi : RInv s) (hb : RBd s) : RCall1 69 br [.int .i64 o.x] s (s.releaseQ o.x).1 (s.releaseQ o.x).2 :=
  fun _ _ h => refRelease_any o.x h hi hb
theorem r_collect {br : Nat} {s : R} (hi : RInv s) (hb : RBd s) : RCall1 71 br [] s (s.collectQ).1 (s.collectQ).2 :=
  fun _ _ h => refCollect_any h hi hb

/-- How far a step may turn the owner's part. -/
structure Near (S S' : LS) : Prop where
  mark : S.mark - 1 ≤ S'.mark ∧ S'.mark ≤ S.mark
  ents : S'.ents.length ≤ S.ents.length + 4
  bh : S'.bh = S.bh
  br : S'.br = S.br
  fl : S'.fl = S.fl
theorem Like.near {S S' : LS} (h : Like S S') : Near S S' := ⟨by rw [h.1]; omega, by rw [h.2.1]; omega, h.2.2.1, h.2.2.2.1, h.2.2.2.2⟩
theorem calls_swap {f : FuncId} {args : Array Value} {w : World} {v : Value} {A B : World → LS → Prop} (hab : ∀ w S, A w S → B w S) (h : Calls Tryz.prog f args w fun e w' => ∃ S', e = .returned v ∧ A w' S') : Calls Tryz.prog f args w fun e w' => e = .returned v ∧ ∃ S', B w' S' :=
  h.mono fun _ _ ⟨S', e, h⟩ => ⟨e, S', hab _ _ h⟩

theorem step_none {Post : World → Prop} {w : World} {bw : Nat} (o : LOp) (hk : o.kind < 1 ∨ 23 < o.kind) (hp : Post (w.alloc (.cells o.cells.toArray 35))) :
    Calls Tryz.prog 13 #[.pointer (some ⟨bw, 0, none⟩), o.val] w fun e w' => e = .returned (.bool true) ∧ Post w' := by
  obtain ⟨kind, x, y, k, v, t⟩ := o
  unfold LOp.val at *
  simp only at hk
  have HP := hide hp; clear hp
  have n1 : (kind == 1) = false := by simp; omega
  have n2 : (kind == 2) = false := by simp; omega
  have n3 : (kind == 3) = false := by simp; omega
  have n4 : (kind == 4) = false := by simp; omega
  have n5 : (kind == 5) = false := by simp; omega
  have n6 : (kind == 6) = false := by simp; omega
  have n7 : (kind == 7) = false := by simp; omega
  have n8 : (kind == 8) = false := by simp; omega
  have n9 : (kind == 9) = false := by simp; omega
  have n10 : (kind == 10) = false := by simp; omega
  have n11 : (kind == 11) = false := by simp; omega
  have n12 : (kind == 12) = false := by simp; omega
  have n13 : (kind == 13) = false := by simp; omega
  have n14 : (kind == 14) = false := by simp; omega
  have n15 : (kind == 15) = false := by simp; omega
  have n16 : (kind == 16) = false := by simp; omega
  have n17 : (kind == 17) = false := by simp; omega
  have n18 : (kind == 18) = false := by simp; omega
  have n19 : (kind == 19) = false := by simp; omega
  have n20 : (kind == 20) = false := by simp; omega
  have n21 : (kind == 21) = false := by simp; omega
  have n22 : (kind == 22) = false := by simp; omega
  have n23 : (kind == 23) = false := by simp; omega
  clear hk
  go_enter Tryz.func13, Tryz.ntmps13
  go_wp2
  go_ret
  exact ⟨rfl, unhide HP⟩

theorem step_any {G : World → Nat → R → List Nat → Prop} (hG : Stays G) {w : World} {bw n : Nat} {s : R} {S : LS} (o : LOp) (h : LRep G w bw s s S) (ha : RAll s) (hu : RUp n s) (hn : n < 3298534883328) (ht : o.s.size ≤ maxLen) (hp : PStep G S.bh s o)
    (hm : -10000000000000 ≤ S.mark ∧ S.mark ≤ 0) (hel : S.ents.length ≤ 8000000000000) :
    Calls Tryz.prog 13 #[.pointer (some ⟨bw, 0, none⟩), o.val] w fun e w' => e = .returned (.bool true) ∧ ∃ S', LRep G w' bw (s.stepQ o) (s.stepQ o) S' ∧ Near S S' := by
  have hi := ha.ok.inv
  have hs := ha.ok.sh
  have hb := hu.bd (Nat.le_of_lt hn)
  have hmd : s.made < 3298534883328 := Nat.lt_of_le_of_lt hu.made hn
  have hob : s.objs.length < 3298534883328 := Nat.lt_of_le_of_lt hu.objs hn
  have h0 : LRep G (w.alloc (.cells o.cells.toArray 35)) bw s s S := h.quiet hG ((Chg.refl [] w).alloc _)
  obtain ⟨kind, x, y, k, v, t⟩ := o
  have near : ∀ {s' : R} (w' : World) (S' : LS), LRep G w' bw s' s' S' ∧ Like S S' → LRep G w' bw s' s' S' ∧ Near S S' := fun _ _ h => ⟨h.1, h.2.near⟩
  by_cases k1 : kind = 1
  · subst k1
    exact step_makes _ (by simp) (calls_swap near (makes_array hG x y k v t _ _ _ h0 (hp.array rfl) (r_array _ hi hb hmd hob)))
  by_cases k2 : kind = 2
  · subst k2
    exact step_makes _ (by simp) (calls_swap near (makes_bytes hG x y k v t _ _ _ h0 (hp.bytes rfl) (r_bytes _ ht hi hb hmd hob)))
  by_cases k3 : kind = 3
  · subst k3
    exact step_makes _ (by simp) (calls_swap near (makes_table hG x y k v t _ _ _ h0 (hp.table rfl) (r_table _ hi hb hmd hob)))
  by_cases k22 : kind = 22
  · subst k22
    exact step_makes _ (by simp) (calls_swap near (makes_join hG x y k v t _ _ _ h0 (hp.join rfl) (r_join _ hi hs hb hmd hob)))
  by_cases k23 : kind = 23
  · subst k23
    exact step_makes _ (by simp) (calls_swap near (makes_copy hG x y k v t _ _ _ h0 (hp.copy rfl) (r_copy _ hi hb hmd hob)))
  by_cases k4 : kind = 4
  · subst k4
    exact step_asks _ (by simp) (calls_swap near (asks_kind hG x y k v t _ _ _ h0 (hp.kind rfl) (r_kind _ hi hb)))
  by_cases k5 : kind = 5
  · subst k5
    exact step_asks _ (by simp) (calls_swap near (asks_len hG x y k v t _ _ _ h0 (hp.len rfl) (r_len _ hi hb)))
  by_cases k6 : kind = 6
  · subst k6
    exact step_asks _ (by simp) (calls_swap near (asks_text hG x y k v t _ _ _ h0 (hp.text rfl) (r_text _ hi hb)))
  by_cases k7 : kind = 7
  · subst k7
    exact step_asks _ (by simp) (calls_swap near (asks_place hG x y k v t _ _ _ h0 (hp.place rfl) (r_place _ hi hb)))
  by_cases k11 : kind = 11
  · subst k11
    exact step_asks _ (by simp) (calls_swap near (asks_same hG x y k v t _ _ _ h0 (hp.same rfl) (r_same _ hb)))
  by_cases k9 : kind = 9
  · subst k9
    exact step_values _ (by simp) (calls_swap near (values_get hG x y k v t _ _ _ h0 (hp.get rfl) (r_get _ hi hs hb)))
  by_cases k12 : kind = 12
  · subst k12
    exact step_values _ (by simp) (calls_swap near (values_find hG x y k v t _ _ _ h0 (hp.find rfl) (r_find _ hi hs hb)))
  by_cases k15 : kind = 15
  · subst k15
    exact step_values _ (by simp) (calls_swap near (values_key hG x y k v t _ _ _ h0 (hp.key rfl) (r_key _ hi hs hb)))
  by_cases k10 : kind = 10
  · subst k10
    exact step_values _ (by simp) (calls_swap near (values_set hG x y k v t _ _ h0 (hp.set rfl) (r_set _ hi hs hb)))
  by_cases k13 : kind = 13
  · subst k13
    exact step_values _ (by simp) (calls_swap near (values_put hG x y k v t _ _ h0 (hp.put rfl) (r_put _ hi hs hb)))
  by_cases k14 : kind = 14
  · subst k14
    exact step_values _ (by simp) (calls_swap near (values_cut hG x y k v t _ _ h0 (hp.cut rfl) (r_cut _ hi hs hb)))
  by_cases k16 : kind = 16
  · subst k16
    exact step_handles _ (by simp) (calls_swap near (handles_open hG x y k v t _ _ _ h0 (hp.opens rfl) (r_opens hi)))
  by_cases k17 : kind = 17
  · subst k17
    exact step_handles _ (by simp) (calls_swap near (handles_close hG x y k v t _ _ h0 (hp.close rfl) (r_close _ hi hb)))
  by_cases k18 : kind = 18
  · subst k18
    exact step_handles _ (by simp) (calls_swap near (handles_escape hG x y k v t _ _ _ h0 (hp.escape rfl) (r_escape _ hi hb)))
  by_cases k19 : kind = 19
  · subst k19
    exact step_handles _ (by simp) (calls_swap near (handles_keep hG x y k v t _ _ _ h0 (hp.keep rfl) (r_keep _ hi hb)))
  by_cases k20 : kind = 20
  · subst k20
    exact step_handles _ (by simp) (calls_swap near (handles_release hG x y k v t _ _ h0 (hp.release rfl) (r_release _ hi hb)))
  by_cases k21 : kind = 21
  · subst k21
    exact step_handles _ (by simp) (calls_swap near (handles_collect hG x y k v t _ _ h0 (hp.collect rfl) (r_collect hi hb)))
  by_cases k8 : kind = 8
  · subst k8
    refine step_asks _ (by simp) (calls_swap ?_ (asks_words hG x y k v t h0 (hp.words rfl) hi hb ⟨text_fit ha.ok, row_short ha⟩ ?_ hm hel))
    · rintro w' S' ⟨h1, h2, h3, h4, h5, h6⟩
      exact ⟨h1, ⟨by omega, by omega, h4, h5, h6⟩⟩
    · unfold R.wordsQ
      split
      · simp
      · have := words_fit ha; omega
  · refine step_none _ (by simp only; omega) ⟨S, ?_, (Like.refl S).near⟩
    have e : s.stepQ ⟨kind, x, y, k, v, t⟩ = s := by simp [R.stepQ, *]
    rw [e]
    exact h0
theorem ite_p {p : Prop} [Decidable p] (P : R → Prop) {a b : R} (ha : P a) (hb : P b) : P (if p then a else b) := by split <;> assumption
theorem RAll.step {s : R} (h : RAll s) (o : LOp) : RAll (s.stepQ o) :=
  ite_p RAll (h.array _) (ite_p RAll (h.bytes _) (ite_p RAll (h.table _) (ite_p RAll (h.join _ _) (ite_p RAll (h.copy _) (ite_p RAll (h.get _ _) (ite_p RAll (h.finds _ _) (ite_p RAll (h.key _ _) (ite_p RAll (h.set _ _ _) (ite_p RAll (h.put _ _ _) (ite_p RAll (h.cut _ _) (ite_p RAll (h.opens) (ite_p RAll (h.close _) (ite_p RAll (h.escape _) (ite_p RAll (h.keep _) (ite_p RAll (h.release _) (ite_p RAll (h.collect) (h)))))))))))))))))
theorem RUp.step {n : Nat} {s : R} (h : RUp n s) (o : LOp) : RUp (n + 1) (s.stepQ o) :=
  ite_p (RUp (n + 1)) (h.array _) (ite_p (RUp (n + 1)) (h.bytes _) (ite_p (RUp (n + 1)) (h.table _) (ite_p (RUp (n + 1)) (h.join _ _) (ite_p (RUp (n + 1)) (h.copy _) (ite_p (RUp (n + 1)) (h.get _ _) (ite_p (RUp (n + 1)) (h.finds _ _) (ite_p (RUp (n + 1)) (h.key _ _) (ite_p (RUp (n + 1)) (h.set _ _ _) (ite_p (RUp (n + 1)) (h.put _ _ _) (ite_p (RUp (n + 1)) (h.cut _ _) (ite_p (RUp (n + 1)) (h.opens) (ite_p (RUp (n + 1)) (h.close _) (ite_p (RUp (n + 1)) (h.escape _) (ite_p (RUp (n + 1)) (h.keep _) (ite_p (RUp (n + 1)) (h.release _) (ite_p (RUp (n + 1)) (h.collect) (h.succ)))))))))))))))))
end Go.Proofs.YtfoncalkgmeklaaGreat

/- A frame: what lay there before stays, whatever the heaps do. -/
namespace Go.Proofs.YtfoncalkgmeklaaGreat
open Go.RowKit

/-- The program's heap, and with it the blocks of an elder world, which stand as they stood. -/
def Fr (G : World → Nat → R → List Nat → Prop) (W : World) : World → Nat → R → List Nat → Prop :=
  fun w bh s F' => ∃ F, F' = F ++ List.range W.heap.size ∧ G w bh s F ∧ (∀ b ∈ F, W.heap.size ≤ b) ∧ Chg [] W w

theorem stays_fr {G : World → Nat → R → List Nat → Prop} (hG : Stays G) (W : World) : Stays (Fr G W) := by
  rintro S w w' bh s F' ⟨F, rfl, hg, hn, hc⟩ k hs
  refine ⟨F, rfl, hG S w w' bh s F hg k (fun b hb => hs b (List.mem_append.2 (.inl hb))), hn, ?_⟩
  refine ⟨k.os.trans hc.os, k.tape.trans hc.tape, k.output.trans hc.output, Nat.le_trans hc.size k.size, fun i hi _ => ?_⟩
  rw [k.block i (Nat.lt_of_lt_of_le hi hc.size) (hs i (List.mem_append.2 (.inr (List.mem_range.2 hi)))), hc.block i hi (by simp)]
theorem fr_stp {G : World → Nat → R → List Nat → Prop} {W w w' : World} {bh : Nat} {s' : R} {F F' : List Nat} (hn : ∀ b ∈ F, W.heap.size ≤ b) (hc : Chg [] W w) (hlt : ∀ b ∈ F', b < w'.heap.size) (hg : G w' bh s' F') (st : Stp F w F' w') :
    Fr G W w' bh s' (F' ++ List.range W.heap.size) ∧ (∀ b ∈ F' ++ List.range W.heap.size, b < w'.heap.size) ∧ Stp (F ++ List.range W.heap.size) w (F' ++ List.range W.heap.size) w' := by
  refine ⟨⟨F', rfl, hg, ?_, Chg.trans_new hc st.chg (fun x hx => .inr (hn x hx))⟩, ?_, ⟨st.chg.mono (fun x hx => List.mem_append.2 (.inl hx)), ?_⟩⟩
  · intro b hb
    rcases st.foot b hb with h | h
    · exact hn b h
    · exact Nat.le_trans hc.size h
  · intro b hb
    rcases List.mem_append.1 hb with h | h
    · exact hlt b h
    · exact Nat.lt_of_lt_of_le (List.mem_range.1 h) (Nat.le_trans hc.size st.chg.size)
  · intro b hb
    rcases List.mem_append.1 hb with h | h
    · rcases st.foot b h with h | h
      · exact .inl (List.mem_append.2 (.inl h))
      · exact .inr h
    · exact .inl (List.mem_append.2 (.inr h))
theorem pcall_fr {G : World → Nat → R → List Nat → Prop} (W : World) {f : FuncId} {bh : Nat} {rest : List Value} {s : R} {v : Value} {er : Int} {s' : R} (h : PCall G f bh rest s v er s') : PCall (Fr G W) f bh rest s v er s' := by
  rintro w F0 ⟨F, rfl, hg, hn, hc⟩
  refine (h w F hg).mono ?_
  rintro e w' ⟨F', rfl, hg', hlt, st⟩
  obtain ⟨h1, h2, h3⟩ := fr_stp hn hc hlt hg' st
  exact ⟨_, rfl, h1, h2, h3⟩
theorem pcall1_fr {G : World → Nat → R → List Nat → Prop} (W : World) {f : FuncId} {bh : Nat} {rest : List Value} {s : R} {er : Int} {s' : R} (h : PCall1 G f bh rest s er s') : PCall1 (Fr G W) f bh rest s er s' := by
  rintro w F0 ⟨F, rfl, hg, hn, hc⟩
  refine (h w F hg).mono ?_
  rintro e w' ⟨F', rfl, hg', hlt, st⟩
  obtain ⟨h1, h2, h3⟩ := fr_stp hn hc hlt hg' st
  exact ⟨_, rfl, h1, h2, h3⟩
theorem pwords_fr {G : World → Nat → R → List Nat → Prop} (W : World) {bh : Nat} {s : R} (h : PWords G bh s) : PWords (Fr G W) bh s := by
  rintro w F0 ⟨F, rfl, hg, hn, hc⟩
  exact h w F hg
theorem pstep_fr {G : World → Nat → R → List Nat → Prop} (W : World) {bh : Nat} {s : R} {o : LOp} (h : PStep G bh s o) : PStep (Fr G W) bh s o := by
  constructor
  all_goals intro hk
  all_goals first
    | exact pcall_fr W (h.array hk) | exact pcall_fr W (h.bytes hk) | exact pcall_fr W (h.table hk) | exact pcall_fr W (h.join hk) | exact pcall_fr W (h.copy hk)
    | exact pcall_fr W (h.kind hk) | exact pcall_fr W (h.len hk) | exact pcall_fr W (h.text hk) | exact pcall_fr W (h.place hk) | exact pcall_fr W (h.same hk)
    | exact pcall_fr W (h.get hk) | exact pcall_fr W (h.find hk) | exact pcall_fr W (h.key hk) | exact pcall1_fr W (h.set hk) | exact pcall1_fr W (h.put hk) | exact pcall1_fr W (h.cut hk)
    | exact pcall_fr W (h.opens hk) | exact pcall1_fr W (h.close hk) | exact pcall_fr W (h.escape hk) | exact pcall_fr W (h.keep hk) | exact pcall1_fr W (h.release hk) | exact pcall1_fr W (h.collect hk)
    | exact pwords_fr W (h.words hk)
/-- What the program must answer at a script's end. -/
structure PEnd (G : World → Nat → R → List Nat → Prop) (bh : Nat) (s : R) : Prop where
  kind : ∀ h ∈ s.handles, PCall G 37 bh [.int .i64 h.num] s (.int .i64 (s.kindQ h.num).1) (s.kindQ h.num).2 s
  place : ∀ h ∈ s.handles, PCall G 41 bh [.int .i64 h.num] s (.int .i64 (s.placeQ h.num).1) (s.placeQ h.num).2 s
  words : PWords G bh s
theorem pend_fr {G : World → Nat → R → List Nat → Prop} (W : World) {bh : Nat} {s : R} (h : PEnd G bh s) : PEnd (Fr G W) bh s := ⟨fun x hx => pcall_fr W (h.kind x hx), fun x hx => pcall_fr W (h.place x hx), pwords_fr W h.words⟩

set_option maxRecDepth 100000 in
set_option maxHeartbeats 1000000 in
theorem ends_any {G : World → Nat → R → List Nat → Prop} (hG : Stays G) {w : World} {bw n : Nat} {s : R} {S : LS} (h : LRep G w bw s s S) (ha : RAll s) (hu : RUp n s) (hn : n ≤ 3298534883328) (hp : PEnd G S.bh s) :
    Calls Tryz.prog 15 #[.pointer (some ⟨bw, 0, none⟩)] w fun e w' => e = .returned (.bool true) ∧ ∃ S', LRep G w' bw s s S' := by
  have hhl : s.handles.length ≤ 3298534883328 := Nat.le_trans hu.handles hn
  have H := hide h; have HA := hide ha; have HU := hide hu; have HP := hide hp; clear h ha hu hp
  go_enter Tryz.func15, Tryz.ntmps15
  go_wp2_with fail
  go_loopw [3] (fun i wr => ∃ (k : Nat) (S' : LS), k ≤ s.handles.length ∧ i = .int .i64 k ∧ LRep G wr bw s s S' ∧ S'.bh = S.bh) (fun i _ => s.handles.length - (intOf i).toNat)
  case atStart => exact ⟨0, S, Nat.zero_le _, rfl, unhide H, rfl⟩
  case round =>
    obtain ⟨k, S1, hk, rfl, h1, hb1⟩ := hrel
    have c1 := h1.law.cell_of (i := 1) rfl
    have c6 := h1.ref.ref.cell_of (i := 6) rfl
    by_cases hlt : k < s.handles.length
    · obtain ⟨g, hg, _, hc⟩ := owns_at h1.ref.handles (by omega)
      have ch := hc _ _ (hanCells_at _ _ _ (List.getElem?_eq_getElem hlt)).1
      have HKI := hide ((unhide HP).kind _ (List.getElem_mem hlt)); have HPL := hide ((unhide HP).place _ (List.getElem_mem hlt))
      generalize s.handles[k].num = x at *
      rw [hg] at c6
      have zk : (k : Int) < (s.handles.length : Int) := by omega
      have H1 := hide h1; have HB1 := hide hb1; clear h1 hb1 hg hc
      go_wp2_with fail
      refine (asks_kind hG x 0 (0, 0) (0, 0) ⟨#[]⟩ _ _ _ (unhide H1) (by rw [unhide HB1]; exact unhide HKI) (r_kind ⟨4, x, 0, (0, 0), (0, 0), ⟨#[]⟩⟩ (unhide HA).ok.inv ((unhide HU).bd hn))).mono ?_
      rintro e w2 ⟨S2, rfl, h2, lk2⟩
      have HB2 := hide (lk2.2.2.1.trans (unhide HB1))
      have H2 := hide h2; clear h2 lk2 c1 c6 ch HB1 H1
      go_wp2_with fail
      refine (asks_place hG x 0 (0, 0) (0, 0) ⟨#[]⟩ _ _ _ (unhide H2) (by rw [unhide HB2]; exact unhide HPL) (r_place ⟨7, x, 0, (0, 0), (0, 0), ⟨#[]⟩⟩ (unhide HA).ok.inv ((unhide HU).bd hn))).mono ?_
      rintro e w3 ⟨S3, rfl, h3, lk3⟩
      have HB3 := hide (lk3.2.2.1.trans (unhide HB2))
      have H3 := hide h3; clear h3 lk3 HB2 H2
      go_wp2
      go_roundw
      case rel => exact ⟨k + 1, S3, by omega, by go_num, unhide H3, unhide HB3⟩
      case measure => simp [intOf]; omega
    · have hkn : k = s.handles.length := by omega
      subst hkn
      have H1 := hide h1; have HB1 := hide hb1; clear h1 hb1 hk
      go_wp2_with fail
      refine (lawWords_any hG (unhide H1) (by rw [unhide HB1]; exact (unhide HP).words) (unhide HA).ok.inv ((unhide HU).bd hn) ⟨text_fit (unhide HA).ok, row_short (unhide HA)⟩ (by
        unfold R.wordsQ
        split
        · simp
        · have := words_fit (unhide HA); omega)).mono ?_
      rintro e w2 ⟨a2, n2, c2, rfl, _, h2⟩
      have H2 := hide h2; clear h2 c1 c6
      go_wp2
      go_ret
      exact ⟨rfl, S1, unhide H2⟩
end Go.Proofs.YtfoncalkgmeklaaGreat

/- begin, of whatever program keeps New's contract (PNew): the statements' world as the first step finds it. -/
namespace Go.Proofs.YtfoncalkgmeklaaGreat
open Go.RowKit

def R.init (l : Int) (fs : List Bool) : R := ⟨l, fs, 0, false, [], [], [], 0⟩
/-- The program's New, where the document has a heap. -/
def PNew (G : World → Nat → R → List Nat → Prop) : Prop :=
  ∀ (l : Int) (b n c : Nat) (fs : List Bool) (w : World), 1 ≤ l → l ≤ 512 → n ≤ 64 → fs.length = n → (∀ j x, fs[j]? = some x → w.cell? ⟨b, j, none⟩ = some (.bool x)) → b < w.heap.size →
    Calls Tryz.prog 16 #[.int .i64 l, .slice (some ⟨b, 0, none⟩) n c] w fun e w' => ∃ bh F, e = .returned (.tuple #[.pointer (some ⟨bh, 0, none⟩), .int .i64 0]) ∧ G w' bh (R.init l fs) F ∧ (∀ x ∈ F, w.heap.size ≤ x ∧ x < w'.heap.size) ∧ Chg [] w w'
/-- The program's New, where the document has none. -/
def PNewBad : Prop :=
  ∀ (l : Int) (b n c : Nat) (w : World), (l < 1 ∨ 512 < l ∨ 64 < n) → Calls Tryz.prog 16 #[.int .i64 l, .slice (some ⟨b, 0, none⟩) n c] w fun e w' => e = .returned (.tuple #[.pointer none, .int .i64 1]) ∧ Chg [] w w'

def flipped (fs : List Bool) : List Bool := fs.map (fun b => !b) ++ [false]
theorem turned_all {fs : List Bool} {n : Nat} (h : fs.length = n) : turned fs n = (flipped fs).map Value.bool := by
  subst h
  simp [turned, flipped]
theorem turned_zero {fs : List Bool} {j : Nat} {x : Bool} (h : fs[j]? = some x) : (turned fs 0)[j]? = some (.bool x) := by
  have hl : j < fs.length := (List.getElem?_eq_some_iff.1 h).1
  simp only [turned, List.take_zero, List.map_nil, List.nil_append, List.drop_zero]
  rw [List.getElem?_append_left (by simpa using hl), List.getElem?_map, h]
  rfl

set_option maxRecDepth 100000 in
set_option maxHeartbeats 1000000 in
theorem begin_any {G : World → Nat → R → List Nat → Prop} (hG : Stays G) (hnew : PNew G) (l : Int) (a : Option Addr) (n c : Nat) (fs : List Bool) (w : World) (h1 : 1 ≤ l) (h2 : l ≤ 512) (hn : n ≤ 64) (hl : fs.length = n)
    (hsrc : 0 < n → ∃ b off, a = some ⟨b, off, none⟩ ∧ b < w.heap.size ∧ ∀ j x, fs[j]? = some x → w.cell? ⟨b, off + j, none⟩ = some (.bool x)) :
    Calls Tryz.prog 11 #[.int .i64 l, .slice a n c] w fun e w' => ∃ bw S, e = .returned (.tuple #[.pointer (some ⟨bw, 0, none⟩), .bool true]) ∧ LRep (Fr G w) w' bw (R.init l fs) (R.init l fs) S ∧ S.mark = -1000 ∧ S.ents = [] ∧ S.fl.length = n + 1 := by
  have hn' : (n : Int) ≤ 64 := by omega
  obtain ⟨i0, hi, hz0, hz1, hz2⟩ := info_parts info4
  have hmk : ∀ u : World, (Instr.makeSlice 22 (.int .i64 ((n : Int) + 1)) (.int .i64 ((n : Int) + 1))).run Tryz.prog u =
      .ok (.slice (some ⟨u.heap.size, 0, none⟩) (n + 1) (n + 1)) (u.alloc (.cells (reps (n + 1) (Value.bool false)).toArray 4)) := fun u => by
    have h := run_make (P := Tryz.prog) u 22 4 i0 (.bool false) Tryz.underlying22 hi hz0 .i64 .i64 ((n : Int) + 1) ((n : Int) + 1) (by omega) (Int.le_refl _) (by rw [hz2]; omega) (by omega)
    have e : ((n : Int) + 1).toNat = n + 1 := by omega
    rw [e] at h
    simpa [hz1, Value.cells, madeCells_one] using h
  obtain ⟨w1, hcp, hb1, hc1⟩ := run_copy_blk (P := Tryz.prog) (w.alloc (.cells (reps (n + 1) (Value.bool false)).toArray 4)) 22 22 3 4 Tryz.underlying22 (by kernel_rfl) w.heap.size 0 (n + 1) (n + 1) a n c
    _ 4 (Blk.new w _ _) (fs.map Value.bool) (by simp [hl]) (fun h0 => by
      obtain ⟨b, off, e, hlt, hc⟩ := hsrc (by simpa [hl] using h0)
      refine ⟨_, e, fun j v hj => ?_⟩
      rw [addr_add, ((Chg.refl [] w).alloc _).cell hlt (by simp)]
      exact bools_cell hc hj) (by simp [hl, length_reps]) (bools_one fs)
  have hb1' : Blk w1 w.heap.size (turned fs 0) 4 := by
    have e : (reps (n + 1) (Value.bool false)).take 0 ++ fs.map Value.bool ++ (reps (n + 1) (Value.bool false)).drop (0 + (fs.map Value.bool).length) = turned fs 0 := by
      simp [turned, reps, hl]
    rw [e] at hb1; exact hb1
  have HC1 := hide (Chg.trans_new ((Chg.refl [] w).alloc (.cells (reps (n + 1) (Value.bool false)).toArray 4)) hc1 (fun x hx => by simp at hx; right; omega)); have HB1 := hide hb1'; clear hb1 hc1 hb1'
  have Hsrc := hide hsrc; have Hl := hide hl; clear hsrc hl
  go_enter Tryz.func11, Tryz.ntmps11
  go_wp2_with fail
  clear hmk hcp
  refine (hnew l _ n _ fs _ h1 h2 hn (unhide Hl) (fun j x hj => (unhide HB1).cell_of (turned_zero hj)) (unhide HB1).lt).mono ?_
  rintro e w2 ⟨bh, F, rfl, hb2, hf2, hc2⟩
  have HB2 := hide hb2; have HC2 := hide hc2; have HF2 := hide hf2; clear hb2 hc2 hf2
  go_wp2_with fail
  refine (refNew_good l a n c (fs.map Value.bool) w2 h1 h2 hn (by simpa using unhide Hl) (fun h0 => by
    obtain ⟨b, off, e, hlt, hc⟩ := unhide Hsrc h0
    refine ⟨_, e, fun j v hj => ?_⟩
    rw [addr_add, ((unhide HC1).trans (unhide HC2)).cell hlt (by simp)]
    exact bools_cell hc hj) (bools_one fs) (fun ad e h0 => by
    obtain ⟨b, off, e', hlt, hc⟩ := unhide Hsrc h0
    rw [e'] at e
    simp at e
    subst e
    exact Nat.lt_of_lt_of_le hlt ((unhide HC1).trans (unhide HC2)).size)).mono ?_
  rintro e w3 ⟨rfl, fv, hb3, ho3, hg3, hc3⟩
  have hbf : Blk w3 w.heap.size (turned fs 0) 4 := ((unhide HB1).chg (unhide HC2) (by simp)).chg hc3 (by simp)
  have hcl : w3.cell? ⟨w.heap.size, n, none⟩ = some (.bool false) := hbf.cell_of (turned_last (unhide Hl) 0)
  have HB3 := hide hb3; have HO3 := hide ho3; have HG3 := hide hg3; have HC3 := hide hc3; have HBF := hide hbf; clear hb3 ho3 hg3 hc3 hbf
  go_wp2_with fail
  clear hcl
  go_loopw [10, 11] (fun v i wr => ∃ k : Nat, k ≤ n ∧ i = .int .i64 k ∧ v = .bool true ∧ Blk wr w.heap.size (turned fs k) 4 ∧ Chg [w.heap.size] w3 wr) (fun _ i _ => n - (intOf i).toNat)
  case atStart => exact ⟨0, Nat.zero_le _, rfl, rfl, unhide HBF, Chg.refl _ _⟩
  case round =>
    obtain ⟨k, hk, rfl, rfl, hbk, hck⟩ := hrel
    have HBK := hide hbk; have HCK := hide hck; clear hbk hck
    by_cases hlt : k < n
    · obtain ⟨b, off, hab, hbw, hcc⟩ := unhide Hsrc (by omega)
      subst hab
      have c1 := (unhide HBK).cell_of (turned_at (unhide Hl) hlt)
      have c2 := (unhide HBK).frozen k
      have c3 : wr.cell? ⟨b, off + k, none⟩ = some (.bool (fs.getD k false)) := by
        rw [(unhide HCK).cell (by have := (unhide HC1).size; have := (unhide HC2).size; have := (unhide HC3).size; show b < _; omega) (by simp; omega), (((unhide HC1).trans (unhide HC2)).trans (unhide HC3)).cell hbw (by simp)]
        exact hcc k _ (by rw [List.getD]; simp [unhide Hl, hlt])
      obtain ⟨x, hx⟩ : ∃ x, x = fs.getD k false := ⟨_, rfl⟩
      rw [← hx] at c1 c3
      have HX := hide hx; clear hx hcc hbw
      go_wp2_with fail
      go_quiet (fail)
      go_wp2
      go_roundw
      case rel =>
        refine ⟨k + 1, by omega, by go_num, by simp, ?_, ((unhide HCK).drewN _).setCell (.inl (by simp)) _⟩
        have := (Blk.setCell (show Blk (wr.drewN nq) w.heap.size (turned fs k) 4 from unhide HBK) k (.bool (!x)))
        rw [unhide HX, turned_set (unhide Hl) hlt] at this
        rw [unhide HX]
        exact this
      case measure => simp [intOf]; omega
    · have hkn : k = n := by omega
      subst hkn
      have hmk : ∀ u : World, (Instr.makeSlice 22 (.int .i64 ((k : Int) + 1)) (.int .i64 ((k : Int) + 1))).run Tryz.prog u =
          .ok (.slice (some ⟨u.heap.size, 0, none⟩) (k + 1) (k + 1)) (u.alloc (.cells (reps (k + 1) (Value.bool false)).toArray 4)) := fun u => by
        have h := run_make (P := Tryz.prog) u 22 4 i0 (.bool false) Tryz.underlying22 hi hz0 .i64 .i64 ((k : Int) + 1) ((k : Int) + 1) (by omega) (Int.le_refl _) (by rw [hz2]; omega) (by omega)
        have e : ((k : Int) + 1).toNat = k + 1 := by omega
        rw [e] at h
        simpa [hz1, Value.cells, madeCells_one] using h
      have hbk := unhide HBK
      obtain ⟨w5, hcp, hb5, hc5⟩ := run_copy_blk (P := Tryz.prog) (wr.alloc (.cells (reps (k + 1) (Value.bool false)).toArray 4)) 22 22 3 4 Tryz.underlying22 (by kernel_rfl) wr.heap.size 0 (k + 1) (k + 1) (some ⟨w.heap.size, 0, none⟩) (k + 1) (k + 1)
        _ 4 (Blk.new wr _ _) (turned fs k) (by simp [turned_len (unhide Hl)]) (fun h0 => ⟨_, rfl, fun j v hj => by
          rw [addr_add, Nat.zero_add]; exact (hbk.alloc _).cell_of hj⟩) (by simp [turned_len (unhide Hl), length_reps]) (turned_one fs k)
      have hb5' : Blk w5 wr.heap.size (turned fs k) 4 := by
        have e : (reps (k + 1) (Value.bool false)).take 0 ++ turned fs k ++ (reps (k + 1) (Value.bool false)).drop (0 + (turned fs k).length) = turned fs k := by
          simp [turned_len (unhide Hl), reps]
        rw [e] at hb5; exact hb5
      have HB5 := hide hb5'; have HC5 := hide hc5; clear hb5 hc5 hb5' hbk
      have hln : ((turned fs k).length : Int) = k + 1 := by rw [turned_len (unhide Hl)]; rfl
      go_wp2
      go_ret2
      have z1 := (unhide HC1).size; have z2 := (unhide HC2).size; have z3 := (unhide HC3).size; have z4 := (unhide HCK).size; have z5 := (unhide HC5).size
      have b1 := (unhide HB1).lt; have b3 := (unhide HB3).lt; have b4 := (unhide HB5).lt
      have hsz : (wr.alloc (.cells (reps (k + 1) (Value.bool false)).toArray 4)).heap.size = wr.heap.size + 1 := by simp
      rw [hsz] at z5
      have cA : Chg [w.heap.size] w3 w5 := Chg.trans_new ((unhide HCK).alloc _) (unhide HC5) (fun x hx => by simp at hx; right; omega)
      have cB : Chg [wr.heap.size] wr w5 := (Chg.mono ((Chg.refl [] wr).alloc _) (by simp)).trans (unhide HC5)
      obtain ⟨fa, fc, rfl⟩ := owns_form (unhide HO3)
      have cE : Chg [] w5 (w5.alloc (.cells (lawCells (.pointer (some ⟨bh, 0, none⟩)) (.pointer (some ⟨w2.heap.size, 0, none⟩)) (.slice (some ⟨w.heap.size, 0, none⟩) (k + 1) (k + 1)) (.slice (some ⟨wr.heap.size, 0, none⟩) (k + 1) (k + 1)) (.slice none 0 0) (.slice none 0 0) (-1000)).toArray 40)) := (Chg.refl [] w5).alloc _
      have hfl : (flipped fs).length = k + 1 := by simp [flipped, unhide Hl]
      have cW : Chg [] w w5 := Chg.trans_new (((unhide HC1).trans (unhide HC2)).trans (unhide HC3)) cA (fun x hx => by simp at hx; right; omega)
      have hfa : ∀ b ∈ ab fa, w2.heap.size < b ∧ b < wr.heap.size := by
        intro b hb
        cases fa with
        | none => simp [ab] at hb
        | some ad =>
          simp [ab] at hb
          subst hb
          have g1 := unhide HG3 _ rfl
          have g2 := owns_lt (unhide HO3) (g := ad.block) rfl
          omega
      have hfoot : ∀ b ∈ (RL.foot w2.heap.size ⟨fa, fc, none, 0, none, 0, none, 0, [], []⟩), b = w2.heap.size ∨ b ∈ ab fa := by
        intro b hb
        simpa [RL.foot, ab] using hb
      have hmem : ∀ b ∈ LS.own w5.heap.size ⟨bh, w2.heap.size, F ++ List.range w.heap.size, ⟨fa, fc, none, 0, none, 0, none, 0, [], []⟩, w.heap.size, wr.heap.size, flipped fs, none, 0, [], none, 0, [], -1000⟩, b = w5.heap.size ∨ b = w.heap.size ∨ b = wr.heap.size := by
        intro b hb
        simpa [LS.own, ab] using hb
      have hFF : ∀ b ∈ F, w1.heap.size ≤ b ∧ b < w2.heap.size := unhide HF2
      refine ⟨w5.heap.size, ⟨bh, w2.heap.size, F ++ List.range w.heap.size, ⟨fa, fc, none, 0, none, 0, none, 0, [], []⟩, w.heap.size, wr.heap.size, flipped fs, none, 0, [], none, 0, [], -1000⟩, rfl, ?_, rfl, rfl, hfl⟩
      refine ⟨?_, ⟨F, rfl, hG _ _ _ _ _ _ (unhide HB2) (Chg.mono (Chg.trans_new ((unhide HC3).mono (S' := [w.heap.size]) (by simp)) (cA.alloc _) (fun x hx => .inl hx)) (fun x hx => hx)) (fun b hb => by have := hFF b hb; simp; omega), fun b hb => by have := hFF b hb; omega, cW.alloc _⟩, ?_, ?_, ?_, World.ownsRow_nil _ _ _ _, World.ownsRow_nil _ _ _ _, rfl, by simp, by simp, by simp, ?_, ?_, ?_, ?_, by simp [ab]⟩
      · have := Blk.new w5 (lawCells (.pointer (some ⟨bh, 0, none⟩)) (.pointer (some ⟨w2.heap.size, 0, none⟩)) (.slice (some ⟨w.heap.size, 0, none⟩) (k + 1) (k + 1)) (.slice (some ⟨wr.heap.size, 0, none⟩) (k + 1) (k + 1)) (.slice none 0 0) (.slice none 0 0) (-1000)) 40
        simp only [hfl]
        exact this
      · refine ⟨?_, ?_, World.ownsRow_nil _ _ _ _, World.ownsRow_nil _ _ _ _, World.ownsRow_nil _ _ _ _, rfl, by simp [R.init], by simp, by simp⟩
        · have := (((unhide HB3).chg cA (by simp; omega)).alloc (.cells (lawCells (.pointer (some ⟨bh, 0, none⟩)) (.pointer (some ⟨w2.heap.size, 0, none⟩)) (.slice (some ⟨w.heap.size, 0, none⟩) (k + 1) (k + 1)) (.slice (some ⟨wr.heap.size, 0, none⟩) (k + 1) (k + 1)) (.slice none 0 0) (.slice none 0 0) (-1000)).toArray 40))
          simp only [R.init, unhide Hl]
          exact this
        · have := owns_chg (owns_chg (unhide HO3) cA (fun g hg => by have := hfa g (ownBlock_ab hg); simp; omega)) cE (by simp)
          simp only [R.init, unhide Hl]
          exact this
      · have := (((unhide HBK).chg cB (by simp; omega)).alloc (.cells (lawCells (.pointer (some ⟨bh, 0, none⟩)) (.pointer (some ⟨w2.heap.size, 0, none⟩)) (.slice (some ⟨w.heap.size, 0, none⟩) (k + 1) (k + 1)) (.slice (some ⟨wr.heap.size, 0, none⟩) (k + 1) (k + 1)) (.slice none 0 0) (.slice none 0 0) (-1000)).toArray 40))
        rw [turned_all (unhide Hl)] at this
        exact this
      · have := ((unhide HB5).alloc (.cells (lawCells (.pointer (some ⟨bh, 0, none⟩)) (.pointer (some ⟨w2.heap.size, 0, none⟩)) (.slice (some ⟨w.heap.size, 0, none⟩) (k + 1) (k + 1)) (.slice (some ⟨wr.heap.size, 0, none⟩) (k + 1) (k + 1)) (.slice none 0 0) (.slice none 0 0) (-1000)).toArray 40))
        rw [turned_all (unhide Hl)] at this
        exact this
      · intro b hb
        show b < (w5.alloc _).heap.size
        rw [size_alloc]
        rcases List.mem_append.1 hb with h | h
        · have := hFF b h; omega
        · have := List.mem_range.1 h; omega
      · intro b hb hm
        have h3 := hfoot b hm
        rcases List.mem_append.1 hb with h | h
        · have h4 := hFF b h
          rcases h3 with h3 | h3
          · omega
          · have := hfa b h3; omega
        · have h4 := List.mem_range.1 h
          rcases h3 with h3 | h3
          · omega
          · have := hfa b h3; omega
      · intro b hb hm
        have h3 := hmem b hm
        rcases List.mem_append.1 hb with h | h
        · have h4 := hFF b h; omega
        · have h4 := List.mem_range.1 h; omega
      · intro b hb hm
        have h3 := hmem b hm
        rcases hfoot b hb with h | h
        · omega
        · have := hfa b h; omega
set_option maxRecDepth 100000 in
set_option maxHeartbeats 1000000 in
theorem begin_none (hnew : PNewBad) (l : Int) (a : Option Addr) (n c : Nat) (fs : List Bool) (w : World) (hbad : l < 1 ∨ 512 < l ∨ 64 < n) (hn : n ≤ 140737488351232) (hl : fs.length = n)
    (hsrc : 0 < n → ∃ b off, a = some ⟨b, off, none⟩ ∧ b < w.heap.size ∧ ∀ j x, fs[j]? = some x → w.cell? ⟨b, off + j, none⟩ = some (.bool x)) :
    Calls Tryz.prog 11 #[.int .i64 l, .slice a n c] w fun e w' => e = .returned (.tuple #[.pointer none, .bool true]) ∧ Chg [] w w' := by
  have hn' : (n : Int) ≤ 140737488351232 := by omega
  obtain ⟨i0, hi, hz0, hz1, hz2⟩ := info_parts info4
  have hmk : ∀ u : World, (Instr.makeSlice 22 (.int .i64 ((n : Int) + 1)) (.int .i64 ((n : Int) + 1))).run Tryz.prog u =
      .ok (.slice (some ⟨u.heap.size, 0, none⟩) (n + 1) (n + 1)) (u.alloc (.cells (reps (n + 1) (Value.bool false)).toArray 4)) := fun u => by
    have h := run_make (P := Tryz.prog) u 22 4 i0 (.bool false) Tryz.underlying22 hi hz0 .i64 .i64 ((n : Int) + 1) ((n : Int) + 1) (by omega) (Int.le_refl _) (by rw [hz2]; omega) (by omega)
    have e : ((n : Int) + 1).toNat = n + 1 := by omega
    rw [e] at h
    simpa [hz1, Value.cells, madeCells_one] using h
  obtain ⟨w1, hcp, hb1, hc1⟩ := run_copy_blk (P := Tryz.prog) (w.alloc (.cells (reps (n + 1) (Value.bool false)).toArray 4)) 22 22 3 4 Tryz.underlying22 (by kernel_rfl) w.heap.size 0 (n + 1) (n + 1) a n c
    _ 4 (Blk.new w _ _) (fs.map Value.bool) (by simp [hl]) (fun h0 => by
      obtain ⟨b, off, e, hlt, hc⟩ := hsrc (by simpa [hl] using h0)
      refine ⟨_, e, fun j v hj => ?_⟩
      rw [addr_add, ((Chg.refl [] w).alloc _).cell hlt (by simp)]
      exact bools_cell hc hj) (by simp [hl, length_reps]) (bools_one fs)
  have hb1' : Blk w1 w.heap.size (turned fs 0) 4 := by
    have e : (reps (n + 1) (Value.bool false)).take 0 ++ fs.map Value.bool ++ (reps (n + 1) (Value.bool false)).drop (0 + (fs.map Value.bool).length) = turned fs 0 := by
      simp [turned, reps, hl]
    rw [e] at hb1; exact hb1
  have HC1 := hide (Chg.trans_new ((Chg.refl [] w).alloc (.cells (reps (n + 1) (Value.bool false)).toArray 4)) hc1 (fun x hx => by simp at hx; right; omega)); have HB1 := hide hb1'; clear hb1 hc1 hb1'
  have Hsrc := hide hsrc; have Hl := hide hl; have HBAD := hide hbad; clear hsrc hl hbad
  go_enter Tryz.func11, Tryz.ntmps11
  go_wp2_with fail
  clear hmk hcp
  refine (hnew l _ n _ _ (unhide HBAD)).mono ?_
  rintro e w2 ⟨rfl, hc2⟩
  have HC1' := hide ((unhide HC1).trans hc2); have HB1' := hide ((unhide HB1).chg hc2 (by simp)); clear hc2 HC1 HB1
  go_wp2_with fail
  refine (refNew_bad l a n c _ (unhide HBAD)).mono ?_
  rintro e w3 ⟨rfl, rfl⟩
  have hcl : w3.cell? ⟨w.heap.size, n, none⟩ = some (.bool false) := (unhide HB1').cell_of (turned_last (unhide Hl) 0)
  go_wp2_with fail
  clear hcl
  go_loopw [10, 11] (fun v i wr => ∃ k : Nat, k ≤ n ∧ i = .int .i64 k ∧ v = .bool true ∧ Blk wr w.heap.size (turned fs k) 4 ∧ Chg [w.heap.size] w3 wr) (fun _ i _ => n - (intOf i).toNat)
  case atStart => exact ⟨0, Nat.zero_le _, rfl, rfl, unhide HB1', Chg.refl _ _⟩
  case round =>
    obtain ⟨k, hk, rfl, rfl, hbk, hck⟩ := hrel
    have HBK := hide hbk; have HCK := hide hck; clear hbk hck
    by_cases hlt : k < n
    · obtain ⟨b, off, hab, hbw, hcc⟩ := unhide Hsrc (by omega)
      subst hab
      have c1 := (unhide HBK).cell_of (turned_at (unhide Hl) hlt)
      have c2 := (unhide HBK).frozen k
      have c3 : wr.cell? ⟨b, off + k, none⟩ = some (.bool (fs.getD k false)) := by
        rw [(unhide HCK).cell (by have := (unhide HC1').size; show b < _; omega) (by simp; omega), (unhide HC1').cell hbw (by simp)]
        exact hcc k _ (by rw [List.getD]; simp [unhide Hl, hlt])
      obtain ⟨x, hx⟩ : ∃ x, x = fs.getD k false := ⟨_, rfl⟩
      rw [← hx] at c1 c3
      have HX := hide hx; clear hx hcc hbw
      go_wp2_with fail
      go_quiet (fail)
      go_wp2
      go_roundw
      case rel =>
        refine ⟨k + 1, by omega, by go_num, by simp, ?_, ((unhide HCK).drewN _).setCell (.inl (by simp)) _⟩
        have := (Blk.setCell (show Blk (wr.drewN nq) w.heap.size (turned fs k) 4 from unhide HBK) k (.bool (!x)))
        rw [unhide HX, turned_set (unhide Hl) hlt] at this
        rw [unhide HX]
        exact this
      case measure => simp [intOf]; omega
    · have hkn : k = n := by omega
      subst hkn
      have hmk : ∀ u : World, (Instr.makeSlice 22 (.int .i64 ((k : Int) + 1)) (.int .i64 ((k : Int) + 1))).run Tryz.prog u =
          .ok (.slice (some ⟨u.heap.size, 0, none⟩) (k + 1) (k + 1)) (u.alloc (.cells (reps (k + 1) (Value.bool false)).toArray 4)) := fun u => by
        have h := run_make (P := Tryz.prog) u 22 4 i0 (.bool false) Tryz.underlying22 hi hz0 .i64 .i64 ((k : Int) + 1) ((k : Int) + 1) (by omega) (Int.le_refl _) (by rw [hz2]; omega) (by omega)
        have e : ((k : Int) + 1).toNat = k + 1 := by omega
        rw [e] at h
        simpa [hz1, Value.cells, madeCells_one] using h
      have hbk := unhide HBK
      obtain ⟨w5, hcp, hb5, hc5⟩ := run_copy_blk (P := Tryz.prog) (wr.alloc (.cells (reps (k + 1) (Value.bool false)).toArray 4)) 22 22 3 4 Tryz.underlying22 (by kernel_rfl) wr.heap.size 0 (k + 1) (k + 1) (some ⟨w.heap.size, 0, none⟩) (k + 1) (k + 1)
        _ 4 (Blk.new wr _ _) (turned fs k) (by simp [turned_len (unhide Hl)]) (fun h0 => ⟨_, rfl, fun j v hj => by
          rw [addr_add, Nat.zero_add]; exact (hbk.alloc _).cell_of hj⟩) (by simp [turned_len (unhide Hl), length_reps]) (turned_one fs k)
      have hb5' : Blk w5 wr.heap.size (turned fs k) 4 := by
        have e : (reps (k + 1) (Value.bool false)).take 0 ++ turned fs k ++ (reps (k + 1) (Value.bool false)).drop (0 + (turned fs k).length) = turned fs k := by
          simp [turned_len (unhide Hl), reps]
        rw [e] at hb5; exact hb5
      have HB5 := hide hb5'; have HC5 := hide hc5; clear hb5 hc5 hb5' hbk
      have hln : ((turned fs k).length : Int) = k + 1 := by rw [turned_len (unhide Hl)]; rfl
      go_wp2_with (go_at_call 18; refine (num_any _ _).mono ?_; rintro e w6 ⟨rfl, rfl⟩)
      go_ret2
      have z1 := (unhide HC1').size; have z4 := (unhide HCK).size; have b1 := (unhide HB1').lt
      refine ⟨rfl, Chg.trans_new (unhide HC1') (Chg.trans_new ((unhide HCK).alloc _) (unhide HC5) (fun x hx => by simp at hx; right; omega)) (fun x hx => by simp at hx; right; omega)⟩
end Go.Proofs.YtfoncalkgmeklaaGreat

/- plays: every script, of whatever program keeps its calls' contracts. -/
namespace Go.Proofs.YtfoncalkgmeklaaGreat
open Go.RowKit

theorem all_init {l : Int} {fs : List Bool} (h1 : 1 ≤ l) (h2 : l ≤ 512) (h3 : fs.length ≤ 64) : RAll (R.init l fs) :=
  ⟨⟨⟨⟨h1, h2⟩, h3, by simp [R.init], by simp [R.init], by simp [R.init], by simp [R.init], by simp [R.init], by simp [R.init], by simp [R.init]⟩, ⟨by simp [R.init], by simp [R.init], by simp [R.init], by simp [R.init]⟩⟩,
    ⟨by simp [R.init], by simp [R.init]⟩, ⟨by simp [R.init], by simp [R.init], by simp [R.init], by simp [R.init, usedOf]; omega⟩⟩
theorem up_init (l : Int) (fs : List Bool) : RUp 0 (R.init l fs) := ⟨by simp [R.init], by simp [R.init], by simp [R.init]⟩

def inFirst (kinds : List Int) (x : Int) (j : Nat) : Bool := (kinds.take j).any fun k => k == x
theorem inFirst_succ {kinds : List Int} {x k : Int} {j : Nat} (h : kinds[j]? = some k) : inFirst kinds x (j + 1) = (inFirst kinds x j || k == x) := by
  obtain ⟨hlt, rfl⟩ := List.getElem?_eq_some_iff.1 h
  unfold inFirst
  rw [List.take_succ_eq_append_getElem hlt, List.any_append]
  simp
theorem inFirst_all {kinds : List Int} {x : Int} {n : Nat} (hn : kinds.length = n) (h : inFirst kinds x n = true) : x ∈ kinds := by
  unfold inFirst at h
  rw [List.take_of_length_le (by omega)] at h
  obtain ⟨k, h1, h2⟩ := List.any_eq_true.1 h
  have : k = x := by simpa using h2
  exact this ▸ h1

/-- A script's cells. -/
def OpsAt (w : World) (sa : Option Addr) (ops : List LOp) : Prop :=
  0 < ops.length → ∃ b off, sa = some ⟨b, off, none⟩ ∧ b < w.heap.size ∧ ∀ j o, ops[j]? = some o → ∀ i v, o.cells[i]? = some v → w.cell? ⟨b, off + j * 8 + i, none⟩ = some v
def IntsAt (w : World) (ka : Option Addr) (kinds : List Int) : Prop :=
  0 < kinds.length → ∃ b off, ka = some ⟨b, off, none⟩ ∧ b < w.heap.size ∧ ∀ j x, kinds[j]? = some x → w.cell? ⟨b, off + j, none⟩ = some (.int .i64 x)

set_option maxRecDepth 100000 in
set_option maxHeartbeats 4000000 in
theorem plays_any {G : World → Nat → R → List Nat → Prop} {J : R → Prop} (hG : Stays G) (hnew : PNew G) (hbad : PNewBad) (l : Int) (a : Option Addr) (n c : Nat) (fs : List Bool) (sa : Option Addr) (sn sc : Nat) (ops : List LOp) (ka : Option Addr) (kn kc : Nat) (kinds : List Int) (early : Bool) (w : World)
    (hn : n ≤ 140737488351232) (hl : fs.length = n) (hsrc : 0 < n → ∃ b off, a = some ⟨b, off, none⟩ ∧ b < w.heap.size ∧ ∀ j x, fs[j]? = some x → w.cell? ⟨b, off + j, none⟩ = some (.bool x))
    (hsn : ops.length = sn) (hsb : sn ≤ 1954687338211) (htx : ∀ o ∈ ops, o.s.size ≤ maxLen) (hop : OpsAt w sa ops)
    (hkn : kinds.length = kn) (hkb : kn ≤ 1000) (hki : IntsAt w ka kinds)
    (hJ0 : 1 ≤ l → l ≤ 512 → n ≤ 64 → J (R.init l fs))
    (hJ : ∀ s o, J s → RAll s → o ∈ ops → o.kind ∈ kinds → (early = true → 34 ≤ s.left) → J (s.stepQ o))
    (hstep : ∀ bh s m o, J s → RAll s → RUp m s → m ≤ 1954687338211 → o ∈ ops → o.kind ∈ kinds → (early = true → 34 ≤ s.left) → PStep G bh s o)
    (hend : ∀ bh s m, J s → RAll s → RUp m s → m ≤ 1954687338211 → PEnd G bh s) :
    Calls Tryz.prog 10 #[.int .i64 l, .slice a n c, .slice sa sn sc, .slice ka kn kc, .bool early] w fun e w' => e = .returned (.bool true) ∧ Chg [] w w' := by
  have Hsrc := hide hsrc; have Hl := hide hl; have HTX := hide htx; have HOP := hide hop; have HKI := hide hki; have HJ0 := hide hJ0; have HJ := hide hJ; have HST := hide hstep; have HEND := hide hend; have HSN := hide hsn; have HKN := hide hkn
  clear hsrc hl htx hop hki hJ0 hJ hstep hend hsn hkn
  by_cases hb : l < 1 ∨ 512 < l ∨ 64 < n
  · have HBAD := hide hb; clear hb
    go_enter Tryz.func10, Tryz.ntmps10
    go_wp2_with fail
    refine (begin_none hbad l a n c fs w (unhide HBAD) hn (unhide Hl) (unhide Hsrc)).mono ?_
    rintro e w1 ⟨rfl, hc⟩
    have HC := hide hc; clear hc
    go_wp2
    go_ret
    exact ⟨rfl, unhide HC⟩
  · have h1 : 1 ≤ l := by omega
    have h2 : l ≤ 512 := by omega
    have h3 : n ≤ 64 := by omega
    clear hb
    have hF := stays_fr hG w
    go_enter Tryz.func10, Tryz.ntmps10
    go_wp2_with fail
    refine (begin_any hG hnew l a n c fs w h1 h2 h3 (unhide Hl) (unhide Hsrc)).mono ?_
    rintro e w1 ⟨bw, S0, rfl, hr0, hm0, he0, hf0⟩
    have HR0 := hide hr0; have HM0 := hide hm0; have HE0 := hide he0; have HF0 := hide hf0; clear hr0 hm0 he0 hf0
    go_wp2_with fail
    go_loopw [12, 13] (fun _ i wr => ∃ (k : Nat) (s : R) (S : LS), k ≤ sn ∧ i = .int .i64 k ∧ LRep (Fr G w) wr bw s s S ∧ J s ∧ RAll s ∧ RUp k s ∧ (-1000 - (k : Int) ≤ S.mark ∧ S.mark ≤ 0) ∧ S.ents.length ≤ 4 * k ∧ S.fl.length = n + 1) (fun _ i _ => sn - (intOf i).toNat)
    case atStart => exact ⟨0, _, S0, Nat.zero_le _, rfl, unhide HR0, unhide HJ0 h1 h2 h3, all_init h1 h2 (by rw [unhide Hl]; exact h3), up_init _ _, by rw [unhide HM0]; omega, by rw [unhide HE0]; simp, unhide HF0⟩
    case round =>
      obtain ⟨k, s, S, hk, rfl, hr, hj, ha, hu, hmk, hen, hfl⟩ := hrel
      have HRR := hide hr; have HJJ := hide hj; have HA := hide ha; have HU := hide hu; have HMK := hide hmk; have HEN := hide hen; have HFL := hide hfl; clear hr hj ha hu hmk hen hfl HR0 HM0 HE0 HF0
      by_cases hlt : k < sn
      · obtain ⟨o, ho⟩ : ∃ o, ops[k]? = some o := ⟨_, List.getElem?_eq_getElem (by rw [unhide HSN]; exact hlt)⟩
        have hmem := List.mem_of_getElem? ho
        obtain ⟨sb, soff, hsa, hsbw, hcel⟩ := unhide HOP (by rw [unhide HSN]; omega)
        subst hsa
        have hcw : Chg [] w wr := by obtain ⟨_, _, _, _, h⟩ := (unhide HRR).prog; exact h
        have hc8 : ∀ (w' : World), Chg [] wr w' → ∀ i v, o.cells[i]? = some v → w'.cell? ⟨sb, soff + k * 8 + i, none⟩ = some v := fun w' h i v hv => by rw [(hcw.trans h).cell hsbw (by simp)]; exact hcel k o ho i v hv
        have hkk : ∀ j, j < kn → ∃ b off x, ka = some ⟨b, off, none⟩ ∧ kinds[j]? = some x ∧ wr.cell? ⟨b, off + j, none⟩ = some (.int .i64 x) := fun j hj => by
          obtain ⟨b, off, e, hbw, hcc⟩ := unhide HKI (by rw [unhide HKN]; omega)
          obtain ⟨x, hx⟩ : ∃ x, kinds[j]? = some x := ⟨_, List.getElem?_eq_getElem (by rw [unhide HKN]; exact hj)⟩
          exact ⟨b, off, x, e, hx, by rw [hcw.cell hbw (by simp)]; exact hcc j x hx⟩
        have s0 := hc8 wr (Chg.refl _ _) 0 _ rfl
        rw [Nat.add_zero] at s0
        have zk : (k : Int) < (sn : Int) := by omega
        have HM := hide hmem; have HC8 := hide hc8; have HKK := hide hkk; clear hmem hc8 hcw hcel hsbw ho hkk
        go_wp2_with fail
        go_loopw [14, 15] (fun v j wq => ∃ (j' q : Nat), j' ≤ kn ∧ j = .int .i64 j' ∧ v = .bool (inFirst kinds o.kind j') ∧ wq = wr.drewN q) (fun _ j _ => kn - (intOf j).toNat)
        case atStart => exact ⟨0, 0, Nat.zero_le _, rfl, by simp [inFirst], rfl⟩
        case round =>
          obtain ⟨j, q, hj, rfl, rfl, rfl⟩ := hrel
          by_cases hjn : j < kn
          · obtain ⟨kb, koff, x, hka, hx, ck⟩ := unhide HKK j hjn
            subst hka
            have hnext := inFirst_succ (x := o.kind) hx
            have zj : (j : Int) < (kn : Int) := by omega
            generalize inFirst kinds o.kind j = b at *
            have HNX := hide hnext; clear hnext hx
            cases b with
            | true =>
              go_wp2_with fail
              go_quiet (fail)
              go_wp2
              go_roundw
              case rel => exact ⟨j + 1, _, by omega, by go_num, by rw [unhide HNX]; simp, rfl⟩
              case measure => simp [intOf]; omega
            | false =>
              go_wp2_with fail
              go_quiet (fail)
              go_wp2
              go_roundw
              case rel => exact ⟨j + 1, _, by omega, by go_num, by rw [unhide HNX]; simp, rfl⟩
              case measure => simp [intOf]; omega
          · have hjk : j = kn := by omega
            subst hjk
            clear s0
            have hr2 : LRep (Fr G w) (wr.drewN q) bw s s S := (unhide HRR).quiet hF ((Chg.refl [] wr).drewN q)
            have hc2 : Chg [] wr (wr.drewN q) := (Chg.refl [] wr).drewN q
            have c1 := hr2.law.cell_of (i := 1) rfl
            have HR2 := hide hr2; have HC2 := hide hc2; clear hr2 hc2
            have hin : inFirst kinds o.kind j = true → o.kind ∈ kinds := inFirst_all (unhide HKN)
            generalize inFirst kinds o.kind j = b at *
            have HIN := hide hin; clear hin
            generalize wr.drewN q = w2 at *
            go_wp2_with fail
            refine (refLeft_any (unhide HR2).ref (unhide HA).ok.inv ((unhide HU).bd (by omega))).mono ?_
            rintro e w3 ⟨rfl, q3, hw3⟩
            have hr3 : LRep (Fr G w) w3 bw s s S := by rw [hw3]; exact (unhide HR2).quiet hF ((Chg.refl [] w2).drewN q3)
            have hc3 : Chg [] wr w3 := by rw [hw3]; exact (unhide HC2).drewN q3
            have HR3 := hide hr3; have HC3 := hide hc3; clear hr3 hc3 hw3 HR2 HC2 c1
            by_cases hst : early = true ∧ s.left < 34
            · obtain ⟨rfl, hlf⟩ := hst
              go_wp2_with fail
              refine (ends_any hF (unhide HR3) (unhide HA) (unhide HU) (by omega) (pend_fr w (unhide HEND _ _ _ (unhide HJJ) (unhide HA) (unhide HU) (by omega)))).mono ?_
              rintro e w4 ⟨rfl, S4, h4⟩
              obtain ⟨F4, _, _, _, hc4⟩ := h4.prog
              have HC4 := hide hc4; clear h4 hc4
              go_wp2
              go_ret
              exact ⟨rfl, unhide HC4⟩
            · have hroom : early = true → 34 ≤ s.left := fun h => by
                rcases Int.lt_or_le s.left 34 with h1 | h1
                · exact absurd ⟨h, h1⟩ hst
                · exact h1
              have hgo : ∀ {Q : Prop}, (early = false → Q) → (early = true → ¬ s.left < 34 → Q) → Q := fun h1 h2 => by
                cases early with
                | false => exact h1 rfl
                | true => exact h2 rfl (fun h => hst ⟨rfl, h⟩)
              have HROOM := hide hroom; clear hroom hst
              cases b with
              | false =>
                refine hgo (fun he => ?_) (fun he hnl => ?_)
                all_goals
                  subst he
                  clear hgo
                  go_wp2
                  go_roundw
                  case rel => exact ⟨k + 1, s, S, by omega, by go_num, unhide HR3, unhide HJJ, unhide HA, (unhide HU).succ, by have := unhide HMK; omega, by have := unhide HEN; omega, unhide HFL⟩
                  case measure => simp [intOf]; omega
              | true =>
                have s0 := unhide HC8 w3 (unhide HC3) 0 _ rfl
                have s1 := unhide HC8 w3 (unhide HC3) 1 _ rfl
                have s2 := unhide HC8 w3 (unhide HC3) 2 _ rfl
                have s3 := unhide HC8 w3 (unhide HC3) 3 _ rfl
                have s4 := unhide HC8 w3 (unhide HC3) 4 _ rfl
                have s5 := unhide HC8 w3 (unhide HC3) 5 _ rfl
                have s6 := unhide HC8 w3 (unhide HC3) 6 _ rfl
                have s7 := unhide HC8 w3 (unhide HC3) 7 _ rfl
                rw [Nat.add_zero] at s0
                have hcall := step_any hF o (unhide HR3) (unhide HA) (unhide HU) (by omega) (unhide HTX o (unhide HM)) (pstep_fr w (unhide HST _ _ _ _ (unhide HJJ) (unhide HA) (unhide HU) (by omega) (unhide HM) (unhide HIN rfl) (unhide HROOM))) (by have := unhide HMK; omega) (by have := unhide HEN; omega)
                have hj' := unhide HJ s o (unhide HJJ) (unhide HA) (unhide HM) (unhide HIN rfl) (unhide HROOM)
                have HCALL := hide hcall; have HJN := hide hj'; clear hcall hj'
                refine hgo (fun he => ?_) (fun he hnl => ?_)
                all_goals
                  subst he
                  clear hgo
                  go_wp2_with fail
                  refine (unhide HCALL).mono ?_
                  rintro e w4 ⟨rfl, S4, h4, nr4⟩
                  have H4 := hide h4; have NR4 := hide nr4; clear h4 nr4 s0 s1 s2 s3 s4 s5 s6 s7
                  go_wp2_with fail
                  refine (looks_any (unhide H4) (by rw [(unhide NR4).fl, unhide HFL]; omega) (by have := (unhide NR4).ents; have := unhide HEN; omega)).mono ?_
                  rintro e w5 ⟨rfl, q5, hw5⟩
                  have h5 : LRep (Fr G w) w5 bw (s.stepQ o) (s.stepQ o) S4 := by rw [hw5]; exact (unhide H4).quiet hF ((Chg.refl [] w4).drewN q5)
                  have H5 := hide h5; clear h5 hw5
                  go_wp2
                  go_roundw
                  case rel => exact ⟨k + 1, s.stepQ o, S4, by omega, by go_num, unhide H5, unhide HJN, (unhide HA).step o, (unhide HU).step o, by have := unhide HMK; have := (unhide NR4).mark; omega, by have := unhide HEN; have := (unhide NR4).ents; omega, by rw [(unhide NR4).fl]; exact unhide HFL⟩
                  case measure => simp [intOf]; omega
      · have hkn : k = sn := by omega
        subst hkn
        go_wp2_with fail
        refine (ends_any hF (unhide HRR) (unhide HA) (unhide HU) (by omega) (pend_fr w (unhide HEND _ _ _ (unhide HJJ) (unhide HA) (unhide HU) hsb))).mono ?_
        rintro e w2 ⟨rfl, S2, h2⟩
        obtain ⟨F2, _, _, _, hc2⟩ := h2.prog
        have HC2 := hide hc2; clear h2 hc2
        go_wp2
        go_ret
        exact ⟨rfl, unhide HC2⟩
end Go.Proofs.YtfoncalkgmeklaaGreat

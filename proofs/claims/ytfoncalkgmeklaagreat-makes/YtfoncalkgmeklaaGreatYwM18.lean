import Derived.Test.YtfoncalkgmeklaaGreatYwM17
import Derived.Test.YtfoncalkgmeklaaGreatYwM15

/- The program's heap, as it plays a state of the document's (commit of stage 3). -/
namespace Go.Proofs.YtfoncalkgmeklaaGreat
open Go.RowKit
variable {fx : Fx}

def G (fx : Fx) : World → Nat → R → List Nat → Prop := fun w bh s F => ∃ sl a c ws lim op, MB w bh [.bool s.dead] lim ws (holdCells fx sl op) 67 a c ∧ F = bh :: ab a ∧ sl.length = 32 ∧
  (s.dead = false → lim = s.limit ∧ ws = s.words ∧ op = s.scopes ∧ ∀ k x, sl[k]? = some x → SlotOk s k x)
theorem stays_G : Stays (G fx) := by
  rintro S w w' bh s F ⟨sl, a, c, ws, lim, op, hmb, rfl, hl, hd⟩ k hs
  exact ⟨sl, a, c, ws, lim, op, hmb.chg k (hs _ List.mem_cons_self) (fun x hx => hs x (List.mem_cons_of_mem _ hx)), rfl, hl, hd⟩
theorem MB.slots {w : World} {b : Nat} {pre : List Value} {lim : Int} {ws : List Int} {sl : List Slot} {op : Int} {T : TypeId} {a : Option Addr} {c : Nat} (h : MB w b pre lim ws (holdCells fx sl op) T a c) (hl : sl.length = 32) : SlotsAt w b (pre.length + 2) sl :=
  ⟨pre ++ [.int .i64 lim, .slice a ws.length c], (.int .i64 op :: fx.cells), T, by simpa [holdCells] using h.blk, by simp, hl⟩
/-- The program's heap where memory has not run out. -/
theorem G_live {w : World} {bh : Nat} {s : R} {F : List Nat} (h : (G fx) w bh s F) (hd : s.dead = false) : ∃ sl a c, MB w bh [.bool false] s.limit s.words (holdCells fx sl s.scopes) 67 a c ∧ F = bh :: ab a ∧ sl.length = 32 ∧ (∀ k x, sl[k]? = some x → SlotOk s k x) := by
  obtain ⟨sl, a, c, ws, lim, op, hmb, hF, hl, h1⟩ := h
  obtain ⟨rfl, rfl, rfl, h2⟩ := h1 hd
  rw [hd] at hmb
  exact ⟨sl, a, c, hmb, hF, hl, h2⟩
theorem Stp.same {F : List Nat} {w w' : World} (h : w' = w) : Stp F w F w' := by subst h; exact Stp.refl _ _
/-- A call that only reads. -/
theorem pcall_read {f : FuncId} {bh : Nat} {rest : List Value} {s : R} {v : Value} {er : Int} (h : ∀ w F, (G fx) w bh s F → Calls Tryz.prog f ((Value.pointer (some ⟨bh, 0, none⟩) :: rest).toArray) w fun e w' => e = .returned (.tuple #[v, .int .i64 er]) ∧ w' = w) : PCall (G fx) f bh rest s v er s := by
  intro w F hg
  refine (h w F hg).mono ?_
  rintro e w' ⟨rfl, rfl⟩
  refine ⟨F, rfl, hg, ?_, Stp.refl _ _⟩
  obtain ⟨sl, a, c, ws, lim, op, hmb, rfl, hl, hd⟩ := hg
  intro b hb
  rcases List.mem_cons.1 hb with rfl | hb
  · exact hmb.blk.lt
  · exact own_lt hmb.own b hb

def R.placeE (s : R) (x : Int) : Int := if (s.look1 x).2 = 0 then placeOf s.objs (s.look1 x).1 s.row else 0
set_option maxHeartbeats 1000000 in
theorem gripFind_any {w : World} {bh : Nat} {s : R} {F : List Nat} (x : Int) (h : (G fx) w bh s F) (hd : s.dead = false) (ha : RAll s) (hx : x ≤ 9223372036854775807) :
    Calls Tryz.prog 77 #[.pointer (some ⟨bh, 0, none⟩), .int .i64 x] w fun e w' => e = .returned (.tuple #[.int .i64 (s.placeE x), .int .i64 (s.look1 x).2]) ∧ w' = w := by
  obtain ⟨sl, a, c, hmb, rfl, hl, hs⟩ := G_live h hd
  have c0 := hmb.blk.cell_of (i := 0) rfl
  have hp := slotsPlace_any x (hmb.slots hl) hx
  have he := slotPlace_eq ha hl hs x
  have hq := look1_eq s x
  rw [hd] at hq
  unfold R.placeE
  rw [hq]
  rw [he] at hp
  clear h hmb hs he hq
  cases hf : s.find? x with
  | none =>
    rw [hf] at hp
    simp only at hp
    have HP := hide hp; clear hp
    simp only [Bool.false_eq_true, if_false]
    go_enter Tryz.func77, Tryz.ntmps77
    go_wp2_with fail
    refine (unhide HP).mono ?_
    rintro e w1 ⟨rfl, rfl⟩
    go_wp2
    go_ret2
    exact ⟨by simp, rfl⟩
  | some k =>
    rw [hf] at hp
    simp only at hp
    have HP := hide hp; clear hp
    simp only [Bool.false_eq_true, if_false, if_true]
    generalize placeOf s.objs (s.handles.getD k rhan0).obj s.row = p at *
    go_enter Tryz.func77, Tryz.ntmps77
    go_wp2_with fail
    refine (unhide HP).mono ?_
    rintro e w1 ⟨rfl, rfl⟩
    go_wp2
    go_ret2
    exact ⟨rfl, rfl⟩
end Go.Proofs.YtfoncalkgmeklaaGreat

/- Calls of the program that only read: Kind, Len, Place, Same, Words. -/
namespace Go.Proofs.YtfoncalkgmeklaaGreat
open Go.RowKit
variable {fx : Fx}

theorem head_bd {n : Nat} {o : RObj} (h : OSh n o) : 0 ≤ o.kind * 65536 + o.size ∧ o.kind * 65536 + o.size ≤ 1000000000 ∧ (o.kind * 65536 + o.size) / 65536 = o.kind ∧ (o.kind * 65536 + o.size) % 65536 = o.size := by
  have := h.kind
  omega
/-- Of a handle that is live: its object's place. -/
theorem look_place {s : R} {x : Int} (ha : RAll s) (h0 : (s.look1 x).2 = 0) : s.placeE x = placeOf s.objs (s.look1 x).1 s.row ∧ (s.look1 x).1 ∈ s.row := ⟨by unfold R.placeE; rw [if_pos h0], look_row ha.row h0⟩

set_option maxHeartbeats 1000000 in
theorem p_kind {bh : Nat} {s : R} (x : Int) (hd : s.dead = false) (ha : RAll s) (hx : x ≤ 9223372036854775807) : PCall (G fx) 37 bh [.int .i64 x] s (.int .i64 (s.kindQ x).1) (s.kindQ x).2 s := by
  refine pcall_read fun w F hg => ?_
  have hf := gripFind_any x hg hd ha hx
  obtain ⟨sl, a, c, hmb, rfl, hl, hs⟩ := G_live hg hd
  show Calls Tryz.prog 37 #[.pointer (some ⟨bh, 0, none⟩), .int .i64 x] w _
  unfold R.kindQ
  by_cases h0 : (s.look1 x).2 = 0
  · obtain ⟨h1, h2⟩ := look_place ha h0
    obtain ⟨b1, b2, b3, b4⟩ := head_bd (ha.ok.osh (objOf_mem (ha.ok.inv.rows _ h2)))
    have hk := memKind_any (placeOf s.objs (s.look1 x).1 s.row) hmb.mem (by have := words_fit ha; omega) (word_head ha h2) b1 b2
    rw [b3] at hk
    rw [if_pos h0]
    rw [h1, h0] at hf
    generalize placeOf s.objs (s.look1 x).1 s.row = p at *
    generalize (s.objOf (s.look1 x).1).kind = kd at *
    have HF := hide hf; have HK := hide hk; clear hf hk hmb hs h0 h1 h2 b1 b2 b3 b4 hg
    go_enter Tryz.func37, Tryz.ntmps37
    go_wp2_with fail
    refine (unhide HF).mono ?_
    rintro e w1 ⟨rfl, rfl⟩
    go_wp2_with fail
    refine (unhide HK).mono ?_
    rintro e w2 ⟨rfl, rfl⟩
    go_wp2
    go_ret2
    exact ⟨rfl, rfl⟩
  · rw [if_neg h0]
    generalize (s.look1 x).2 = er at *
    have hne : (er != 0) = true := by simp [h0]
    generalize s.placeE x = p at *
    have HF := hide hf; clear hf hmb hs h0 hg
    go_enter Tryz.func37, Tryz.ntmps37
    go_wp2_with fail
    refine (unhide HF).mono ?_
    rintro e w1 ⟨rfl, rfl⟩
    go_wp2
    go_ret2
    exact ⟨rfl, rfl⟩
/-- A table's second word: how many entries. -/
theorem word_count {s : R} (ha : RAll s) {i : Nat} (hm : i ∈ s.row) (hk : (s.objOf i).kind = 3) : wordAt s.words (placeOf s.objs i s.row + 1) = ((s.objOf i).vals.length : Int) / 2 := by
  have ho := ha.ok.osh (objOf_mem (ha.ok.inv.rows i hm))
  have := word_obj ha hm (j := 1) (by simp only [oWords, wordsOf, hk]; have := ho.kind; simp; omega)
  rw [show placeOf s.objs i s.row + ((1 : Nat) : Int) = placeOf s.objs i s.row + 1 by omega] at this
  rw [this]
  simp [objWords, fullWords, headWords, hk]
set_option maxHeartbeats 1000000 in
theorem p_len {bh : Nat} {s : R} (x : Int) (hd : s.dead = false) (ha : RAll s) (hx : x ≤ 9223372036854775807) : PCall (G fx) 39 bh [.int .i64 x] s (.int .i64 (s.lenQ x).1) (s.lenQ x).2 s := by
  refine pcall_read fun w F hg => ?_
  have hf := gripFind_any x hg hd ha hx
  obtain ⟨sl, a, c, hmb, rfl, hl, hs⟩ := G_live hg hd
  show Calls Tryz.prog 39 #[.pointer (some ⟨bh, 0, none⟩), .int .i64 x] w _
  unfold R.lenQ
  by_cases h0 : (s.look1 x).2 = 0
  · obtain ⟨h1, h2⟩ := look_place ha h0
    obtain ⟨b1, b2, b3, b4⟩ := head_bd (ha.ok.osh (objOf_mem (ha.ok.inv.rows _ h2)))
    have hpb := place_bd ha h2
    have hob := (words_bd (ha.ok.osh (objOf_mem (ha.ok.inv.rows _ h2))).kind).1
    have hk := memLen_any (placeOf s.objs (s.look1 x).1 s.row) hmb.mem (by have := words_fit ha; omega) (word_head ha h2) b1 b2 (by omega) rfl
    rw [b3, b4] at hk
    have hval : (if (s.objOf (s.look1 x).1).kind = 3 then wordAt s.words (placeOf s.objs (s.look1 x).1 s.row + 1) else (s.objOf (s.look1 x).1).size) = (if (s.objOf (s.look1 x).1).kind = 3 then (((s.objOf (s.look1 x).1).vals.length : Int) / 2, (0 : Int)) else ((s.objOf (s.look1 x).1).size, 0)).1 := by
      split
      · rename_i h3; rw [word_count ha h2 h3]
      · rfl
    have herr : (if (s.objOf (s.look1 x).1).kind = 3 then (((s.objOf (s.look1 x).1).vals.length : Int) / 2, (0 : Int)) else ((s.objOf (s.look1 x).1).size, 0)).2 = 0 := by split <;> rfl
    rw [hval] at hk
    rw [if_pos h0, herr]
    rw [h1, h0] at hf
    clear hval herr
    generalize placeOf s.objs (s.look1 x).1 s.row = p at *
    generalize (if (s.objOf (s.look1 x).1).kind = 3 then (((s.objOf (s.look1 x).1).vals.length : Int) / 2, (0 : Int)) else ((s.objOf (s.look1 x).1).size, 0)).1 = kd at *
    have HF := hide hf; have HK := hide hk; clear hf hk hmb hs h0 h1 h2 b1 b2 b3 b4 hg hpb hob
    go_enter Tryz.func39, Tryz.ntmps39
    go_wp2_with fail
    refine (unhide HF).mono ?_
    rintro e w1 ⟨rfl, rfl⟩
    go_wp2_with fail
    refine (unhide HK).mono ?_
    rintro e w2 ⟨rfl, rfl⟩
    go_wp2
    go_ret2
    exact ⟨rfl, rfl⟩
  · rw [if_neg h0]
    generalize (s.look1 x).2 = er at *
    have hne : (er != 0) = true := by simp [h0]
    generalize s.placeE x = p at *
    have HF := hide hf; clear hf hmb hs h0 hg
    go_enter Tryz.func39, Tryz.ntmps39
    go_wp2_with fail
    refine (unhide HF).mono ?_
    rintro e w1 ⟨rfl, rfl⟩
    go_wp2
    go_ret2
    exact ⟨rfl, rfl⟩
set_option maxHeartbeats 1000000 in
theorem p_place {bh : Nat} {s : R} (x : Int) (hd : s.dead = false) (ha : RAll s) (hx : x ≤ 9223372036854775807) : PCall (G fx) 41 bh [.int .i64 x] s (.int .i64 (s.placeQ x).1) (s.placeQ x).2 s := by
  refine pcall_read fun w F hg => ?_
  have hf := gripFind_any x hg hd ha hx
  show Calls Tryz.prog 41 #[.pointer (some ⟨bh, 0, none⟩), .int .i64 x] w _
  have e1 : s.placeE x = (s.placeQ x).1 := by unfold R.placeE R.placeQ; split <;> rfl
  have e2 : (s.look1 x).2 = (s.placeQ x).2 := by unfold R.placeQ; split <;> simp_all
  rw [e1, e2] at hf
  generalize s.placeQ x = q at *
  have HF := hide hf; clear hf hg e1 e2
  go_enter Tryz.func41, Tryz.ntmps41
  go_wp2_with fail
  refine (unhide HF).mono ?_
  rintro e w1 ⟨rfl, rfl⟩
  go_wp2
  go_ret2
  exact ⟨rfl, rfl⟩
/-- No two objects of the row lie at one place. -/
theorem place_inj {s : R} (ha : RAll s) {i j : Nat} : ∀ {l : List Nat}, i ∈ l → j ∈ l → (∀ x ∈ l, x < s.objs.length) → placeOf s.objs i l = placeOf s.objs j l → i = j
  | x :: r, hi, hj, hl, e => by
    have hw := (words_bd (ha.ok.inv.kinds _ (objOf_mem (hl x List.mem_cons_self)))).1
    have e0 : oWords (s.objs.getD x robj0) = oWords (s.objOf x) := rfl
    have hpi := place_nonneg ha.ok.inv i r
    have hpj := place_nonneg ha.ok.inv j r
    simp only [placeOf] at e
    by_cases h1 : x = i
    · by_cases h2 : x = j
      · exact h1.symm.trans h2
      · rw [if_pos h1, if_neg h2] at e; omega
    · by_cases h2 : x = j
      · rw [if_neg h1, if_pos h2] at e; omega
      · rw [if_neg h1, if_neg h2] at e
        refine place_inj ha (l := r) ?_ ?_ (fun y hy => hl y (List.mem_cons_of_mem _ hy)) (by omega)
        · rcases List.mem_cons.1 hi with h | h; exact absurd h.symm h1; exact h
        · rcases List.mem_cons.1 hj with h | h; exact absurd h.symm h2; exact h
set_option maxHeartbeats 1000000 in
theorem p_words {bh : Nat} {s : R} (hd : s.dead = false) (ha : RAll s) : PWords (G fx) bh s := by
  intro w F hg
  obtain ⟨sl, a, c, hmb, rfl, hl, hs⟩ := G_live hg hd
  have h1 : s.wordsQ = s.words := by simp [R.wordsQ, hd]
  have h2 : s.wordsE = 0 := by simp [R.wordsE, hd]
  rw [h1, h2]
  refine (gripWords_any fx bh s.limit a s.words.length c sl s.scopes (ints s.words) w (by have := words_fit ha; omega) (by simpa [heapCells] using hmb.blk) hmb.own (ints_one _)).mono ?_
  rintro e w' ⟨g, cap, rfl, ho, hle, hc⟩
  exact ⟨some ⟨g, 0, none⟩, s.words.length, cap, rfl, ⟨ho, by simp [ab]; exact hle, hc⟩⟩
end Go.Proofs.YtfoncalkgmeklaaGreat

/- What the words and the slots are when an object, or a handle, has come. -/
namespace Go.Proofs.YtfoncalkgmeklaaGreat
open Go.RowKit

theorem place_append {objs : List RObj} {o : RObj} {i n : Nat} : ∀ {l : List Nat}, i ∈ l → (∀ x ∈ l, x < objs.length) → placeOf (objs ++ [o]) i (l ++ [n]) = placeOf objs i l
  | x :: r, hm, hl => by
    simp only [List.cons_append, placeOf]
    by_cases h : x = i
    · rw [if_pos h, if_pos h]
    · rw [if_neg h, if_neg h, getD_append (hl x List.mem_cons_self), place_append (l := r) (by rcases List.mem_cons.1 hm with h1 | h1; exact absurd h1.symm h; exact h1) (fun y hy => hl y (List.mem_cons_of_mem _ hy))]
theorem place_last {objs : List RObj} {o : RObj} : ∀ {l : List Nat}, (∀ x ∈ l, x < objs.length) → placeOf (objs ++ [o]) objs.length (l ++ [objs.length]) = usedOf objs l
  | [], _ => by simp [placeOf, usedOf]
  | x :: r, hl => by
    have hx := hl x List.mem_cons_self
    simp only [List.cons_append, placeOf, usedOf]
    rw [if_neg (by omega), getD_append hx, place_last (fun y hy => hl y (List.mem_cons_of_mem _ hy))]
/-- Values whose objects keep their places keep their words. -/
theorem valWords_same {s s' : R} {l : List (Int × Int)} (h : ∀ v ∈ l, v.1 = 2 → placeOf s'.objs v.2.toNat s'.row = placeOf s.objs v.2.toNat s.row) : l.flatMap (valWords s') = l.flatMap (valWords s) := by
  induction l with
  | nil => rfl
  | cons v r ih =>
    simp only [List.flatMap_cons]
    rw [ih (fun u hu => h u (List.mem_cons_of_mem _ hu))]
    congr 1
    unfold valWords
    by_cases h2 : v.1 = 2
    · rw [if_pos h2, if_pos h2, h v List.mem_cons_self h2]
    · rw [if_neg h2, if_neg h2]
theorem objWords_same {s s' : R} {o : RObj} (h : ∀ v ∈ o.vals, v.1 = 2 → placeOf s'.objs v.2.toNat s'.row = placeOf s.objs v.2.toNat s.row) : objWords s' o = objWords s o := by
  unfold objWords fullWords
  rw [valWords_same h]
theorem flatMap_same {f g : Nat → List Int} : ∀ {l : List Nat}, (∀ i ∈ l, f i = g i) → l.flatMap f = l.flatMap g
  | [], _ => rfl
  | x :: r, h => by
    simp only [List.flatMap_cons]
    rw [h x List.mem_cons_self, flatMap_same (fun i hi => h i (List.mem_cons_of_mem _ hi))]
/-- The words behind a push. -/
theorem words_push {s : R} (ha : RAll s) (o : RObj) : (s.push o).words = s.words ++ objWords (s.push o) o := by
  have hpl : ∀ i ∈ s.row, placeOf (s.push o).objs i (s.push o).row = placeOf s.objs i s.row := fun i hi => place_append hi ha.ok.inv.rows
  unfold R.words
  show (s.row ++ [s.objs.length]).flatMap _ = _
  rw [List.flatMap_append]
  congr 1
  · refine flatMap_same fun i hi => ?_
    have e : (s.push o).objOf i = s.objOf i := getD_append (ha.ok.inv.rows i hi)
    rw [e]
    exact objWords_same fun v hv h2 => hpl _ (ha.row.closed i hi v hv h2)
  · have e : (s.push o).objOf s.objs.length = o := by simp [R.objOf, R.push, List.getD]
    simp [e]

/-! A handle more -/
theorem findIdx_append_none {l : List RHan} {p : RHan → Bool} {h : RHan} (hn : l.findIdx? p = none) : (l ++ [h]).findIdx? p = if p h then some l.length else none := by
  rw [List.findIdx?_append, hn]
  simp [List.findIdx?_cons]
theorem at_push {s : R} {h : RHan} {k : Nat} (hl : h.live = true) (hk : h.num % 32 = (k : Int)) (hn : s.at? (k : Int) = none) (j : Int) :
    (s.handles ++ [h]).findIdx? (fun g => g.live && g.num % 32 == j) = if j = (k : Int) then some s.handles.length else s.at? j := by
  by_cases hj : j = (k : Int)
  · subst hj
    rw [if_pos rfl]
    have := findIdx_append_none (h := h) hn
    rw [this]
    simp [hl, hk]
  · rw [if_neg hj]
    rw [List.findIdx?_append]
    have : [h].findIdx? (fun g => g.live && g.num % 32 == j) = none := by
      simp [List.findIdx?_cons, hl, hk]
      omega
    rw [this]
    simp
    rfl
theorem past_push {s : R} {h : RHan} {k : Nat} (hk : h.num % 32 = (k : Int)) (j : Int) : (s.handles ++ [h]).countP (sameSlot j) = s.past j + if j = (k : Int) then 1 else 0 := by
  rw [List.countP_append, ← past_eq]
  congr 1
  rw [List.countP_singleton]
  unfold sameSlot
  rw [hk]
  by_cases hj : j = (k : Int)
  · rw [if_pos hj, if_pos (by simp [hj])]
  · rw [if_neg hj, if_neg (by simp; omega)]
theorem getD_slot_set {sl : List Slot} {k j : Nat} {x y : Slot} (hk : k < sl.length) (h : (sl.set k x)[j]? = some y) : (j = k ∧ y = x) ∨ (j ≠ k ∧ sl[j]? = some y) := by
  rw [List.getElem?_set] at h
  by_cases hj : k = j
  · subst hj
    rw [if_pos rfl, if_pos hk] at h
    exact .inl ⟨rfl, (Option.some.inj h).symm⟩
  · rw [if_neg hj] at h
    exact .inr ⟨fun e => hj e.symm, h⟩
/-- The slots behind a new handle. -/
theorem slots_handle {s s' : R} {sl : List Slot} {k o : Nat} {c p : Int} (hl : sl.length = 32) (hs : ∀ k x, sl[k]? = some x → SlotOk s k x) (hf : s.free? = some k)
    (hh : s'.handles = s.handles ++ [⟨32 * s.past k + k, c, o, true⟩]) (hp : p = placeOf s'.objs o s'.row) (hpl : ∀ h ∈ s.handles, h.live = true → placeOf s'.objs h.obj s'.row = placeOf s.objs h.obj s.row) :
    ∀ j x, (slotAdd sl p c)[j]? = some x → SlotOk s' j x := by
  have hk := free_lt hf
  have hat := free_at hf
  have hfree : slotFree sl = k := by rw [slotFree_ok hl hs, hf]; rfl
  have hnum : (32 * (s.past (k : Int) : Int) + (k : Int)) % 32 = (k : Int) := by omega
  have hgk := hs k _ (slots_get hl hk)
  have at' : ∀ j : Nat, s'.at? (j : Int) = if (j : Int) = (k : Int) then some s.handles.length else s.at? (j : Int) := by
    intro j
    unfold R.at?
    rw [hh]
    exact at_push (s := s) (h := ⟨32 * s.past k + k, c, o, true⟩) rfl hnum hat (j : Int)
  have past' : ∀ j : Nat, s'.past (j : Int) = s.past (j : Int) + if (j : Int) = (k : Int) then 1 else 0 := by
    intro j
    rw [past_eq, hh]
    exact past_push (s := s) (h := ⟨32 * s.past k + k, c, o, true⟩) hnum (j : Int)
  intro j x hx
  unfold slotAdd at hx
  rw [hfree] at hx
  rcases getD_slot_set (by omega) hx with ⟨rfl, rfl⟩ | ⟨hj, hx⟩
  · refine ⟨?_, ?_, ?_⟩
    · rw [at', if_pos rfl]; rfl
    · rw [past', if_pos rfl, hgk.2.1]; simp
    · intro a ha
      rw [at', if_pos rfl] at ha
      cases ha
      rw [hp, hh]
      simp [List.getD]
  · have hjk : ¬ (j : Int) = (k : Int) := by omega
    obtain ⟨h1, h2, h3⟩ := hs j x hx
    refine ⟨?_, ?_, ?_⟩
    · rw [at', if_neg hjk]; exact h1
    · rw [past', if_neg hjk, h2]; simp
    · intro a ha
      rw [at', if_neg hjk] at ha
      rw [(h3 a ha).1, (h3 a ha).2]
      obtain ⟨g, hg, hlv, _⟩ := at_some ha
      obtain ⟨hlt, rfl⟩ := List.getElem?_eq_some_iff.1 hg
      have g1 : s'.handles.getD a rhan0 = s.handles[a] := by rw [hh]; simp only [List.getD, List.getElem?_append_left hlt, List.getElem?_eq_getElem hlt, Option.getD_some]
      have g2 : s.handles.getD a rhan0 = s.handles[a] := by simp only [List.getD, List.getElem?_eq_getElem hlt, Option.getD_some]
      rw [g1, g2]
      exact ⟨(hpl _ (List.getElem_mem hlt) hlv).symm, rfl⟩
theorem handle_eq {s : R} {k : Nat} (hf : s.free? = some k) (o : Nat) (c : Int) : s.handle o c = ((32 * s.past k + k : Int), (0 : Int), { s with handles := s.handles ++ [⟨32 * s.past k + k, c, o, true⟩] }) := by
  unfold R.handle; rw [hf]
theorem handle_none {s : R} (hf : s.free? = none) (o : Nat) (c : Int) : s.handle o c = (0, 11, s) := by
  unfold R.handle; rw [hf]
/-- What make is, where no flags are and there is room. -/
theorem make_room {s : R} (hfl : s.flags = []) {o : RObj} (hw : oWords o ≤ s.left) : s.make o = match s.free? with | none => (0, 11, s) | some _ => (s.made1.push o).handle s.objs.length s.scopes := by
  have h2 : s.made2 = s.made1 := by unfold R.made2 R.flagNow; simp [hfl]
  have hu : ¬ usedOf s.objs s.made2.row + oWords o > s.limit := by
    rw [h2]
    show ¬ usedOf s.objs s.row + oWords o > s.limit
    unfold R.left at hw
    omega
  have h3 : s.made3 (oWords o) = s.made1 := by unfold R.made3; rw [if_neg hu, h2]
  have hu' : ¬ usedOf s.objs s.made1.row + oWords o > s.limit := by rw [h2] at hu; exact hu
  unfold R.make
  rw [h3, if_neg hu']
  cases s.free? <;> rfl
end Go.Proofs.YtfoncalkgmeklaaGreat

/- Array and Table of the program. -/
namespace Go.Proofs.YtfoncalkgmeklaaGreat
open Go.RowKit
variable {fx : Fx}

section
variable {w : World} {bh : Nat} {s : R} {sl : List Slot} {op : Int} {a : Option Addr} {c : Nat}

set_option maxHeartbeats 1000000 in
theorem gripAdd_size (k n most : Int) (h : MB w bh [.bool false] s.limit s.words (holdCells fx sl op) 67 a c) (hb : n < 0 ∨ most < n) :
    Calls Tryz.prog 75 #[.pointer (some ⟨bh, 0, none⟩), .int .i64 k, .int .i64 n, .int .i64 most] w fun e w' => e = .returned (.tuple #[.int .i64 0, .int .i64 6]) ∧ w' = w := by
  have c0 := h.blk.cell_of (i := 0) rfl
  clear h
  by_cases h0 : n < 0
  · clear hb
    go_enter Tryz.func75, Tryz.ntmps75
    go_wp2
    all_goals go_ret2
    all_goals exact ⟨rfl, rfl⟩
  · have h1 : most < n := by omega
    clear hb
    go_enter Tryz.func75, Tryz.ntmps75
    go_wp2
    all_goals go_ret2
    all_goals exact ⟨rfl, rfl⟩
set_option maxHeartbeats 1000000 in
theorem gripAdd_full (k n most : Int) (h : MB w bh [.bool false] s.limit s.words (holdCells fx sl op) 67 a c) (hl : sl.length = 32) (h0 : 0 ≤ n) (h1 : n ≤ most) (hf : slotFree sl = 32) :
    Calls Tryz.prog 75 #[.pointer (some ⟨bh, 0, none⟩), .int .i64 k, .int .i64 n, .int .i64 most] w fun e w' => e = .returned (.tuple #[.int .i64 0, .int .i64 11]) ∧ w' = w := by
  have c0 := h.blk.cell_of (i := 0) rfl
  have hfu := slotsFull_any (h.slots hl)
  rw [hf] at hfu
  have HF := hide hfu; clear h hfu hf
  have h0' : ¬ n < 0 := by omega
  have h1' : ¬ n > most := by omega
  go_enter Tryz.func75, Tryz.ntmps75
  go_wp2_with fail
  refine (unhide HF).mono ?_
  rintro e w1 ⟨rfl, rfl⟩
  go_wp2
  go_ret2
  exact ⟨rfl, rfl⟩
theorem slotsAdd_mb {ws : List Int} {lim p sc : Int} {j : Nat} {gv : Int} (h : MB w bh [.bool false] lim ws (holdCells fx sl op) 67 a c) (hl : sl.length = 32) (hf : slotFree sl = j) (hj : j < 32) (hg : (sl.getD j slot0).given = gv) (hg0 : 0 ≤ gv) (hg1 : gv ≤ 4503599627370496) :
    Calls Tryz.prog 132 #[.pointer (some ⟨bh, 3, none⟩), .int .i64 p, .int .i64 sc] w fun e w' => e = .returned (.tuple #[.int .i64 (32 * gv + j), .bool true]) ∧ MB w' bh [.bool false] lim ws (holdCells fx (slotAdd sl p sc) op) 67 a c ∧ Chg [bh] w w' := by
  have hb2 : Blk w bh ([.bool false, .int .i64 lim, .slice a ws.length c] ++ (slotCells sl ++ (.int .i64 op :: fx.cells))) 67 := by simpa [holdCells] using h.blk
  refine (slotsAdd_any p sc hb2 hl (by omega) (by rw [hf, hg]; omega)).mono ?_
  rintro e w' ⟨rfl, hb', hc'⟩
  refine ⟨by rw [hf, hg], ⟨by simpa [holdCells] using hb', owns_chg h.own hc' (fun g hgv e => ?_), h.ty⟩, hc'⟩
  simp at e
  subst e
  exact h.nin (ownBlock_ab hgv)
theorem slotsInner_mb {ws : List Int} {lim : Int} (h : MB w bh [.bool false] lim ws (holdCells fx sl op) 67 a c) (hl : sl.length = 32) :
    Calls Tryz.prog 106 #[.pointer (some ⟨bh, 3, none⟩)] w fun e w' => e = .returned (.int .i64 op) ∧ w' = w := by
  refine slotsInner_any (off := 3) (h.blk.cell_of (i := 131) ?_)
  have := slotCells_len sl
  show ([.bool false, .int .i64 lim, .slice a ws.length c] ++ (slotCells sl ++ (.int .i64 op :: fx.cells)))[131]? = _
  rw [List.getElem?_append_right (by simp), List.getElem?_append_right (by simp; omega)]
  simp [this, hl]
set_option maxHeartbeats 1000000 in
/-- A new handle. -/
theorem newHandle_ok {ws : List Int} {lim p sc : Int} {j : Nat} {gv : Int} (h : MB w bh [.bool false] lim ws (holdCells fx sl op) 67 a c) (hl : sl.length = 32) (hf : slotFree sl = j) (hj : j < 32) (hg : (sl.getD j slot0).given = gv) (hg0 : 0 ≤ gv) (hg1 : gv ≤ 4503599627370496) :
    Calls Tryz.prog 107 #[.pointer (some ⟨bh, 0, none⟩), .int .i64 p, .int .i64 sc] w fun e w' => e = .returned (.tuple #[.int .i64 (32 * gv + j), .int .i64 0]) ∧ MB w' bh [.bool false] lim ws (holdCells fx (slotAdd sl p sc) op) 67 a c ∧ Chg [bh] w w' := by
  have hc := slotsAdd_mb (p := p) (sc := sc) h hl hf hj hg hg0 hg1
  generalize (32 * gv + (j : Int)) = hn at *
  have HC := hide hc; clear hc h
  go_enter Tryz.func107, Tryz.ntmps107
  go_wp2_with fail
  refine (unhide HC).mono ?_
  rintro e w1 ⟨rfl, hm1, hc1⟩
  have HM1 := hide hm1; have HC1 := hide hc1; clear hm1 hc1
  go_wp2
  go_ret2
  exact ⟨rfl, unhide HM1, unhide HC1⟩
set_option maxHeartbeats 1000000 in
theorem newHandle_full {ws : List Int} {lim p sc : Int} (h : MB w bh [.bool false] lim ws (holdCells fx sl op) 67 a c) (hl : sl.length = 32) (hf : slotFree sl = 32) :
    Calls Tryz.prog 107 #[.pointer (some ⟨bh, 0, none⟩), .int .i64 p, .int .i64 sc] w fun e w' => e = .returned (.tuple #[.int .i64 0, .int .i64 11]) ∧ w' = w := by
  have hc := slotsAdd_full p sc (h.slots hl) hf
  have HC := hide hc; clear hc h
  go_enter Tryz.func107, Tryz.ntmps107
  go_wp2_with fail
  refine (unhide HC).mono ?_
  rintro e w1 ⟨rfl, rfl⟩
  go_wp2
  go_ret2
  exact ⟨rfl, rfl⟩

end

/-- The program's heap behind a new object. -/
theorem G_made {w : World} {bh : Nat} {s : R} {sl : List Slot} {a : Option Addr} {c j : Nat} {o : RObj} (hl : sl.length = 32) (hs : ∀ k x, sl[k]? = some x → SlotOk s k x) (ha : RAll s) (hd : s.dead = false) (hf : s.free? = some j)
    (h : MB w bh [.bool false] s.limit (s.words ++ objWords (s.push o) o) (holdCells fx (slotAdd sl s.words.length s.scopes) s.scopes) 67 a c) :
    (G fx) w bh ((s.push o).handle s.objs.length s.scopes).2.2 (bh :: ab a) := by
  have hf' : (s.push o).free? = some j := hf
  rw [handle_eq hf']
  have hw := words_push ha o
  refine ⟨slotAdd sl s.words.length s.scopes, a, c, s.words ++ objWords (s.push o) o, s.limit, s.scopes, ?_, rfl, by simpa [slotAdd] using hl, fun _ => ⟨rfl, ?_, rfl, ?_⟩⟩
  · show MB w bh [.bool s.dead] _ _ _ _ _ _
    rw [hd]
    exact h
  · show s.words ++ objWords (s.push o) o = (s.push o).words
    rw [hw]
  · refine slots_handle (s := s) (c := s.scopes) (o := s.objs.length) hl hs hf rfl ?_ ?_
    · show (s.words.length : Int) = placeOf (s.objs ++ [o]) s.objs.length (s.row ++ [s.objs.length])
      rw [place_last ha.ok.inv.rows]
      exact words_size ha.ok
    · intro g hg hlv
      exact place_append (ha.row.live g hg hlv) ha.ok.inv.rows
theorem G_lt {w : World} {bh : Nat} {s : R} {F : List Nat} (h : (G fx) w bh s F) : ∀ b ∈ F, b < w.heap.size := by
  obtain ⟨sl, a, c, ws, lim, op, hmb, rfl, hl, hd⟩ := h
  intro b hb
  rcases List.mem_cons.1 hb with rfl | hb
  · exact hmb.blk.lt
  · exact own_lt hmb.own b hb
theorem zeros_flat (s : R) : ∀ n, (List.replicate n ((0 : Int), (0 : Int))).flatMap (valWords s) = List.replicate (2 * n) 0
  | 0 => rfl
  | n + 1 => by
    rw [List.replicate_succ, List.flatMap_cons, zeros_flat s n, show 2 * (n + 1) = (2 * n + 1) + 1 by omega, List.replicate_succ, List.replicate_succ]
    rfl
theorem noText : textWords ⟨#[]⟩ = [] := rfl
theorem objWords_array (s : R) {n : Int} (h0 : 0 ≤ n) : objWords s (mkArray n) = (1 * 65536 + n) :: List.replicate ((wordsOf 1 n).toNat - 1) 0 := by
  obtain ⟨m, rfl⟩ := Int.eq_ofNat_of_zero_le h0
  have e1 : fullWords s (mkArray (m : Int)) = (1 * 65536 + (m : Int)) :: List.replicate (2 * m) 0 := by
    unfold fullWords headWords mkArray
    simp only [Int.toNat_natCast, zeros_flat, noText]
    simp
  have e2 : (wordsOf 1 (m : Int)).toNat = 1 + 2 * m := by unfold wordsOf; simp; omega
  have e3 : (oWords (mkArray (m : Int))).toNat = 1 + 2 * m := e2
  unfold objWords
  rw [e3, e1, e2]
  simp
  omega
theorem objWords_table (s : R) {n : Int} (h0 : 0 ≤ n) : objWords s (mkTable n) = (3 * 65536 + n) :: List.replicate ((wordsOf 3 n).toNat - 1) 0 := by
  obtain ⟨m, rfl⟩ := Int.eq_ofNat_of_zero_le h0
  have e1 : fullWords s (mkTable (m : Int)) = [3 * 65536 + (m : Int), 0] := by
    unfold fullWords headWords mkTable
    simp [noText]
  have e2 : (wordsOf 3 (m : Int)).toNat = 2 + 4 * m := by unfold wordsOf; simp; omega
  have e3 : (oWords (mkTable (m : Int))).toNat = 2 + 4 * m := e2
  unfold objWords
  rw [e3, e1, e2, show 2 + 4 * m - 1 = (4 * m) + 1 by omega, List.replicate_succ]
  simp

end Go.Proofs.YtfoncalkgmeklaaGreat

import Derived.Test.YtfoncalkgmeklaaXwM9
import Derived.Test.YtfoncalkgmeklaaXwM11
import Derived.Test.YtfoncalkgmeklaaXwM14

/- What the program must do at a step (PStep), and the step. (Written by wip/genplay.py.) -/
namespace Go.Proofs.Ytfoncalkgmeklaa
open Go.RowKit

/-- What the document says of a step. -/
def R.stepQ (s : R) (o : LOp) : R :=
  if o.kind = 1 then (s.arrayQ o.x).2.2
  else if o.kind = 2 then (s.bytesQ o.s).2.2
  else if o.kind = 3 then (s.tableQ o.x).2.2
  else if o.kind = 22 then (s.joinQ o.x o.y).2.2
  else if o.kind = 23 then (s.copyQ o.x).2.2
  else if o.kind = 9 then (s.getQ o.x o.y).2.2
  else if o.kind = 12 then (s.findQ o.x o.k).2.2
  else if o.kind = 15 then (s.keyQ o.x o.y).2.2
  else if o.kind = 10 then (s.setQ o.x o.y o.v).2
  else if o.kind = 13 then (s.putQ o.x o.k o.v).2
  else if o.kind = 14 then (s.cutQ o.x o.k).2
  else if o.kind = 16 then (s.openQ).2.2
  else if o.kind = 17 then (s.closeQ o.x).2
  else if o.kind = 18 then (s.escapeQ o.x).2.2
  else if o.kind = 19 then (s.keepQ o.x).2.2
  else if o.kind = 20 then (s.releaseQ o.x).2
  else if o.kind = 21 then (s.collectQ).2
  else s

/-- What the program must do at a step of the document. -/
structure PStep (G : World → Nat → R → List Nat → Prop) (bh : Nat) (s : R) (o : LOp) : Prop where
  array : o.kind = 1 → PCall G 61 bh [.int .i64 o.x] s (.int .i64 (s.arrayQ o.x).1) (s.arrayQ o.x).2.1 (s.arrayQ o.x).2.2
  bytes : o.kind = 2 → PCall G 64 bh [.string o.s] s (.int .i64 (s.bytesQ o.s).1) (s.bytesQ o.s).2.1 (s.bytesQ o.s).2.2
  table : o.kind = 3 → PCall G 23 bh [.int .i64 o.x] s (.int .i64 (s.tableQ o.x).1) (s.tableQ o.x).2.1 (s.tableQ o.x).2.2
  join : o.kind = 22 → PCall G 65 bh [.int .i64 o.x, .int .i64 o.y] s (.int .i64 (s.joinQ o.x o.y).1) (s.joinQ o.x o.y).2.1 (s.joinQ o.x o.y).2.2
  copy : o.kind = 23 → PCall G 66 bh [.int .i64 o.x] s (.int .i64 (s.copyQ o.x).1) (s.copyQ o.x).2.1 (s.copyQ o.x).2.2
  kind : o.kind = 4 → PCall G 34 bh [.int .i64 o.x] s (.int .i64 (s.kindQ o.x).1) (s.kindQ o.x).2 s
  len : o.kind = 5 → PCall G 35 bh [.int .i64 o.x] s (.int .i64 (s.lenQ o.x).1) (s.lenQ o.x).2 s
  text : o.kind = 6 → PCall G 36 bh [.int .i64 o.x] s (.string (s.textQ o.x).1) (s.textQ o.x).2 s
  place : o.kind = 7 → PCall G 37 bh [.int .i64 o.x] s (.int .i64 (s.placeQ o.x).1) (s.placeQ o.x).2 s
  same : o.kind = 11 → PCall G 39 bh [.int .i64 o.x, .int .i64 o.y] s (.bool (s.sameQ o.x o.y).1) (s.sameQ o.x o.y).2 s
  get : o.kind = 9 → PCall G 38 bh [.int .i64 o.x, .int .i64 o.y] s (.agg #[.int .i64 (s.getQ o.x o.y).1.1, .int .i64 (s.getQ o.x o.y).1.2]) (s.getQ o.x o.y).2.1 (s.getQ o.x o.y).2.2
  find : o.kind = 12 → PCall G 40 bh [.int .i64 o.x, .agg #[.int .i64 o.k.1, .int .i64 o.k.2]] s (.agg #[.int .i64 (s.findQ o.x o.k).1.1, .int .i64 (s.findQ o.x o.k).1.2]) (s.findQ o.x o.k).2.1 (s.findQ o.x o.k).2.2
  key : o.kind = 15 → PCall G 41 bh [.int .i64 o.x, .int .i64 o.y] s (.agg #[.int .i64 (s.keyQ o.x o.y).1.1, .int .i64 (s.keyQ o.x o.y).1.2]) (s.keyQ o.x o.y).2.1 (s.keyQ o.x o.y).2.2
  set : o.kind = 10 → PCall1 G 62 bh [.int .i64 o.x, .int .i64 o.y, .agg #[.int .i64 o.v.1, .int .i64 o.v.2]] s (s.setQ o.x o.y o.v).1 (s.setQ o.x o.y o.v).2
  put : o.kind = 13 → PCall1 G 25 bh [.int .i64 o.x, .agg #[.int .i64 o.k.1, .int .i64 o.k.2], .agg #[.int .i64 o.v.1, .int .i64 o.v.2]] s (s.putQ o.x o.k o.v).1 (s.putQ o.x o.k o.v).2
  cut : o.kind = 14 → PCall1 G 27 bh [.int .i64 o.x, .agg #[.int .i64 o.k.1, .int .i64 o.k.2]] s (s.cutQ o.x o.k).1 (s.cutQ o.x o.k).2
  opens : o.kind = 16 → PCall G 18 bh [] s (.int .i64 (s.openQ).1) (s.openQ).2.1 (s.openQ).2.2
  close : o.kind = 17 → PCall1 G 19 bh [.int .i64 o.x] s (s.closeQ o.x).1 (s.closeQ o.x).2
  escape : o.kind = 18 → PCall G 42 bh [.int .i64 o.x] s (.int .i64 (s.escapeQ o.x).1) (s.escapeQ o.x).2.1 (s.escapeQ o.x).2.2
  keep : o.kind = 19 → PCall G 43 bh [.int .i64 o.x] s (.int .i64 (s.keepQ o.x).1) (s.keepQ o.x).2.1 (s.keepQ o.x).2.2
  release : o.kind = 20 → PCall1 G 78 bh [.int .i64 o.x] s (s.releaseQ o.x).1 (s.releaseQ o.x).2
  collect : o.kind = 21 → PCall1 G 28 bh [] s (s.collectQ).1 (s.collectQ).2
  words : o.kind = 8 → PWords G bh s

/-- How far a step may turn the owner's part. -/
structure Near (S S' : LS) : Prop where
  mark : S.mark - 1 ≤ S'.mark ∧ S'.mark ≤ S.mark
  ents : S'.ents.length ≤ S.ents.length + 4
  bh : S'.bh = S.bh
  br : S'.br = S.br
  fl : S'.fl = S.fl
theorem Like.near {S S' : LS} (h : Like S S') : Near S S' := ⟨by rw [h.1]; omega, by rw [h.2.1]; omega, h.2.2.1, h.2.2.2.1, h.2.2.2.2⟩
theorem calls_swap {f : FuncId} {args : Array Value} {w : World} {v : Value} {A B : World → LS → Prop} (hab : ∀ w S, A w S → B w S) (h : Calls Try.prog f args w fun e w' => ∃ S', e = .returned v ∧ A w' S') : Calls Try.prog f args w fun e w' => e = .returned v ∧ ∃ S', B w' S' :=
  h.mono fun _ _ ⟨S', e, h⟩ => ⟨e, S', hab _ _ h⟩

theorem ite_p {p : Prop} [Decidable p] (P : R → Prop) {a b : R} (ha : P a) (hb : P b) : P (if p then a else b) := by split <;> assumption
theorem RAll.step {s : R} (h : RAll s) (o : LOp) : RAll (s.stepQ o) :=
  ite_p RAll (h.array _) (ite_p RAll (h.bytes _) (ite_p RAll (h.table _) (ite_p RAll (h.join _ _) (ite_p RAll (h.copy _) (ite_p RAll (h.get _ _) (ite_p RAll (h.finds _ _) (ite_p RAll (h.key _ _) (ite_p RAll (h.set _ _ _) (ite_p RAll (h.put _ _ _) (ite_p RAll (h.cut _ _) (ite_p RAll (h.opens) (ite_p RAll (h.close _) (ite_p RAll (h.escape _) (ite_p RAll (h.keep _) (ite_p RAll (h.release _) (ite_p RAll (h.collect) (h)))))))))))))))))
theorem RUp.step {n : Nat} {s : R} (h : RUp n s) (o : LOp) : RUp (n + 1) (s.stepQ o) :=
  ite_p (RUp (n + 1)) (h.array _) (ite_p (RUp (n + 1)) (h.bytes _) (ite_p (RUp (n + 1)) (h.table _) (ite_p (RUp (n + 1)) (h.join _ _) (ite_p (RUp (n + 1)) (h.copy _) (ite_p (RUp (n + 1)) (h.get _ _) (ite_p (RUp (n + 1)) (h.finds _ _) (ite_p (RUp (n + 1)) (h.key _ _) (ite_p (RUp (n + 1)) (h.set _ _ _) (ite_p (RUp (n + 1)) (h.put _ _ _) (ite_p (RUp (n + 1)) (h.cut _ _) (ite_p (RUp (n + 1)) (h.opens) (ite_p (RUp (n + 1)) (h.close _) (ite_p (RUp (n + 1)) (h.escape _) (ite_p (RUp (n + 1)) (h.keep _) (ite_p (RUp (n + 1)) (h.release _) (ite_p (RUp (n + 1)) (h.collect) (h.succ)))))))))))))))))
end Go.Proofs.Ytfoncalkgmeklaa

/- A frame: what lay there before stays, whatever the heaps do. -/
namespace Go.Proofs.Ytfoncalkgmeklaa
open Go.RowKit

/-- The program's heap, and with it the blocks of an elder world, which stand as they stood. -/
def Fr (G : World → Nat → R → List Nat → Prop) (W : World) : World → Nat → R → List Nat → Prop :=
  fun w bh s F' => ∃ F, F' = F ++ List.range W.heap.size ∧ G w bh s F ∧ (∀ b ∈ F, W.heap.size ≤ b) ∧ Chg [] W w

theorem stays_fr {G : World → Nat → R → List Nat → Prop} (hG : Stays G) (W : World) : Stays (Fr G W) := by
  rintro S w w' bh s F' ⟨F, rfl, hg, hn, hc⟩ k hs
  refine ⟨F, rfl, hG S w w' bh s F hg k (fun b hb => hs b (List.mem_append.2 (.inl hb))), hn, ?_⟩
  refine ⟨k.os.trans hc.os, k.tape.trans hc.tape, k.output.trans hc.output, Nat.le_trans hc.size k.size, fun i hi _ => ?_⟩
  rw [k.block i (Nat.lt_of_lt_of_le hi hc.size) (hs i (List.mem_append.2 (.inr (List.mem_range.2 hi)))), hc.block i hi (by simp)]
theorem fr_stp {G : World → Nat → R → List Nat → Prop} {W w w' : World} {bh : Nat} {s' : R} {F F' : List Nat} (hn : ∀ b ∈ F, W.heap.size ≤ b) (hc : Chg [] W w) (hlt : ∀ b ∈ F', b < w'.heap.size) (hg : G w' bh s' F') (st : Stp F w F' w') :
    Fr G W w' bh s' (F' ++ List.range W.heap.size) ∧ (∀ b ∈ F' ++ List.range W.heap.size, b < w'.heap.size) ∧ Stp (F ++ List.range W.heap.size) w (F' ++ List.range W.heap.size) w' := by
  refine ⟨⟨F', rfl, hg, ?_, Chg.trans_new hc st.chg (fun x hx => .inr (hn x hx))⟩, ?_, ⟨st.chg.mono (fun x hx => List.mem_append.2 (.inl hx)), ?_⟩⟩
  · intro b hb
    rcases st.foot b hb with h | h
    · exact hn b h
    · exact Nat.le_trans hc.size h
  · intro b hb
    rcases List.mem_append.1 hb with h | h
    · exact hlt b h
    · exact Nat.lt_of_lt_of_le (List.mem_range.1 h) (Nat.le_trans hc.size st.chg.size)
  · intro b hb
    rcases List.mem_append.1 hb with h | h
    · rcases st.foot b h with h | h
      · exact .inl (List.mem_append.2 (.inl h))
      · exact .inr h
    · exact .inl (List.mem_append.2 (.inr h))
theorem pcall_fr {G : World → Nat → R → List Nat → Prop} (W : World) {f : FuncId} {bh : Nat} {rest : List Value} {s : R} {v : Value} {er : Int} {s' : R} (h : PCall G f bh rest s v er s') : PCall (Fr G W) f bh rest s v er s' := by
  rintro w F0 ⟨F, rfl, hg, hn, hc⟩
  refine (h w F hg).mono ?_
  rintro e w' ⟨F', rfl, hg', hlt, st⟩
  obtain ⟨h1, h2, h3⟩ := fr_stp hn hc hlt hg' st
  exact ⟨_, rfl, h1, h2, h3⟩
theorem pcall1_fr {G : World → Nat → R → List Nat → Prop} (W : World) {f : FuncId} {bh : Nat} {rest : List Value} {s : R} {er : Int} {s' : R} (h : PCall1 G f bh rest s er s') : PCall1 (Fr G W) f bh rest s er s' := by
  rintro w F0 ⟨F, rfl, hg, hn, hc⟩
  refine (h w F hg).mono ?_
  rintro e w' ⟨F', rfl, hg', hlt, st⟩
  obtain ⟨h1, h2, h3⟩ := fr_stp hn hc hlt hg' st
  exact ⟨_, rfl, h1, h2, h3⟩
theorem pwords_fr {G : World → Nat → R → List Nat → Prop} (W : World) {bh : Nat} {s : R} (h : PWords G bh s) : PWords (Fr G W) bh s := by
  rintro w F0 ⟨F, rfl, hg, hn, hc⟩
  exact h w F hg
theorem pstep_fr {G : World → Nat → R → List Nat → Prop} (W : World) {bh : Nat} {s : R} {o : LOp} (h : PStep G bh s o) : PStep (Fr G W) bh s o := by
  constructor
  all_goals intro hk
  all_goals first
    | exact pcall_fr W (h.array hk) | exact pcall_fr W (h.bytes hk) | exact pcall_fr W (h.table hk) | exact pcall_fr W (h.join hk) | exact pcall_fr W (h.copy hk)
    | exact pcall_fr W (h.kind hk) | exact pcall_fr W (h.len hk) | exact pcall_fr W (h.text hk) | exact pcall_fr W (h.place hk) | exact pcall_fr W (h.same hk)
    | exact pcall_fr W (h.get hk) | exact pcall_fr W (h.find hk) | exact pcall_fr W (h.key hk) | exact pcall1_fr W (h.set hk) | exact pcall1_fr W (h.put hk) | exact pcall1_fr W (h.cut hk)
    | exact pcall_fr W (h.opens hk) | exact pcall1_fr W (h.close hk) | exact pcall_fr W (h.escape hk) | exact pcall_fr W (h.keep hk) | exact pcall1_fr W (h.release hk) | exact pcall1_fr W (h.collect hk)
    | exact pwords_fr W (h.words hk)
/-- What the program must answer at a script's end. -/
structure PEnd (G : World → Nat → R → List Nat → Prop) (bh : Nat) (s : R) : Prop where
  kind : ∀ h ∈ s.handles, PCall G 34 bh [.int .i64 h.num] s (.int .i64 (s.kindQ h.num).1) (s.kindQ h.num).2 s
  place : ∀ h ∈ s.handles, PCall G 37 bh [.int .i64 h.num] s (.int .i64 (s.placeQ h.num).1) (s.placeQ h.num).2 s
  words : PWords G bh s
theorem pend_fr {G : World → Nat → R → List Nat → Prop} (W : World) {bh : Nat} {s : R} (h : PEnd G bh s) : PEnd (Fr G W) bh s := ⟨fun x hx => pcall_fr W (h.kind x hx), fun x hx => pcall_fr W (h.place x hx), pwords_fr W h.words⟩

end Go.Proofs.Ytfoncalkgmeklaa

/- begin, of whatever program keeps New's contract (PNew): the statements' world as the first step finds it. -/
namespace Go.Proofs.Ytfoncalkgmeklaa
open Go.RowKit

def R.init (l : Int) (fs : List Bool) : R := ⟨l, fs, 0, false, [], [], [], 0⟩
/-- The program's New, where the document has a heap. -/
def PNew (G : World → Nat → R → List Nat → Prop) : Prop :=
  ∀ (l : Int) (b n c : Nat) (fs : List Bool) (w : World), 1 ≤ l → l ≤ 512 → n ≤ 64 → fs.length = n → (∀ j x, fs[j]? = some x → w.cell? ⟨b, j, none⟩ = some (.bool x)) → b < w.heap.size →
    Calls Try.prog 32 #[.int .i64 l, .slice (some ⟨b, 0, none⟩) n c] w fun e w' => ∃ bh F, e = .returned (.tuple #[.pointer (some ⟨bh, 0, none⟩), .int .i64 0]) ∧ G w' bh (R.init l fs) F ∧ (∀ x ∈ F, w.heap.size ≤ x ∧ x < w'.heap.size) ∧ Chg [] w w'
/-- The program's New, where the document has none. -/
def PNewBad : Prop :=
  ∀ (l : Int) (b n c : Nat) (w : World), (l < 1 ∨ 512 < l ∨ 64 < n) → Calls Try.prog 32 #[.int .i64 l, .slice (some ⟨b, 0, none⟩) n c] w fun e w' => e = .returned (.tuple #[.pointer none, .int .i64 1]) ∧ Chg [] w w'

def flipped (fs : List Bool) : List Bool := fs.map (fun b => !b) ++ [false]
theorem turned_all {fs : List Bool} {n : Nat} (h : fs.length = n) : turned fs n = (flipped fs).map Value.bool := by
  subst h
  simp [turned, flipped]
theorem turned_zero {fs : List Bool} {j : Nat} {x : Bool} (h : fs[j]? = some x) : (turned fs 0)[j]? = some (.bool x) := by
  have hl : j < fs.length := (List.getElem?_eq_some_iff.1 h).1
  simp only [turned, List.take_zero, List.map_nil, List.nil_append, List.drop_zero]
  rw [List.getElem?_append_left (by simpa using hl), List.getElem?_map, h]
  rfl

end Go.Proofs.Ytfoncalkgmeklaa

/- plays: every script, of whatever program keeps its calls' contracts. -/
namespace Go.Proofs.Ytfoncalkgmeklaa
open Go.RowKit

theorem all_init {l : Int} {fs : List Bool} (h1 : 1 ≤ l) (h2 : l ≤ 512) (h3 : fs.length ≤ 64) : RAll (R.init l fs) :=
  ⟨⟨⟨⟨h1, h2⟩, h3, by simp [R.init], by simp [R.init], by simp [R.init], by simp [R.init], by simp [R.init], by simp [R.init], by simp [R.init]⟩, ⟨by simp [R.init], by simp [R.init], by simp [R.init], by simp [R.init]⟩⟩,
    ⟨by simp [R.init], by simp [R.init]⟩, ⟨by simp [R.init], by simp [R.init], by simp [R.init], by simp [R.init, usedOf]; omega⟩⟩
theorem up_init (l : Int) (fs : List Bool) : RUp 0 (R.init l fs) := ⟨by simp [R.init], by simp [R.init], by simp [R.init]⟩

def inFirst (kinds : List Int) (x : Int) (j : Nat) : Bool := (kinds.take j).any fun k => k == x
theorem inFirst_succ {kinds : List Int} {x k : Int} {j : Nat} (h : kinds[j]? = some k) : inFirst kinds x (j + 1) = (inFirst kinds x j || k == x) := by
  obtain ⟨hlt, rfl⟩ := List.getElem?_eq_some_iff.1 h
  unfold inFirst
  rw [List.take_succ_eq_append_getElem hlt, List.any_append]
  simp
theorem inFirst_all {kinds : List Int} {x : Int} {n : Nat} (hn : kinds.length = n) (h : inFirst kinds x n = true) : x ∈ kinds := by
  unfold inFirst at h
  rw [List.take_of_length_le (by omega)] at h
  obtain ⟨k, h1, h2⟩ := List.any_eq_true.1 h
  have : k = x := by simpa using h2
  exact this ▸ h1

/-- A script's cells. -/
def OpsAt (w : World) (sa : Option Addr) (ops : List LOp) : Prop :=
  0 < ops.length → ∃ b off, sa = some ⟨b, off, none⟩ ∧ b < w.heap.size ∧ ∀ j o, ops[j]? = some o → ∀ i v, o.cells[i]? = some v → w.cell? ⟨b, off + j * 8 + i, none⟩ = some v
def IntsAt (w : World) (ka : Option Addr) (kinds : List Int) : Prop :=
  0 < kinds.length → ∃ b off, ka = some ⟨b, off, none⟩ ∧ b < w.heap.size ∧ ∀ j x, kinds[j]? = some x → w.cell? ⟨b, off + j, none⟩ = some (.int .i64 x)

end Go.Proofs.Ytfoncalkgmeklaa

import Derived.Test.YtfoncalkgmeklaaGreatYwM6
import Derived.Test.YtfoncalkgmeklaaGreatYwM1

/- The statements' world: the program's heap (told by G), the document's, and the lists that came out. -/
namespace Go.Proofs.YtfoncalkgmeklaaGreat
open Go.RowKit

/-- A step of a script. -/
structure LOp where
  kind : Int
  x : Int
  y : Int
  k : Int × Int
  v : Int × Int
  s : ByteArray
def LOp.cells (o : LOp) : List Value := [.int .i64 o.kind, .int .i64 o.x, .int .i64 o.y, .int .i64 o.k.1, .int .i64 o.k.2, .int .i64 o.v.1, .int .i64 o.v.2, .string o.s]
def LOp.val (o : LOp) : Value := .agg #[.int .i64 o.kind, .int .i64 o.x, .int .i64 o.y, .int .i64 o.k.1, .int .i64 o.k.2, .int .i64 o.v.1, .int .i64 o.v.2, .string o.s]

/-- Where the parts of the statements' world lie. -/
structure LS where
  bh : Nat
  br : Nat
  F : List Nat
  L : RL
  bf : Nat
  bt : Nat
  fl : List Bool
  la : Option Addr
  lc : Nat
  ents : List (Option Addr × Nat × Nat)
  ma : Option Addr
  mc : Nat
  marks : List Int
  mark : Int

/-- The owner's part is as it was. -/
def Like (S S' : LS) : Prop := S'.mark = S.mark ∧ S'.ents.length = S.ents.length ∧ S'.bh = S.bh ∧ S'.br = S.br ∧ S'.fl = S.fl
theorem Like.refl (S : LS) : Like S S := ⟨rfl, rfl, rfl, rfl, rfl⟩
/-- A list that came out holds its owner's mark. -/
def Ent (w : World) (e : Option Addr × Nat × Nat) (m : Int) : Prop :=
  0 < e.2.1 → ∃ g, e.1 = some ⟨g, 0, none⟩ ∧ g < w.heap.size ∧ ∀ j, j < e.2.1 → w.cell? ⟨g, j, none⟩ = some (.int .i64 m)
theorem Ent.chg {S : List Nat} {w w' : World} {e : Option Addr × Nat × Nat} {m : Int} (h : Ent w e m) (k : Chg S w w') (hs : ∀ b ∈ ab e.1, b ∉ S) : Ent w' e m := fun h0 => by
  obtain ⟨g, eg, hl, hc⟩ := h h0
  exact ⟨g, eg, Nat.lt_of_lt_of_le hl k.size, fun j hj => by rw [k.cell (a := ⟨g, j, none⟩) hl (hs g (mem_ab eg))]; exact hc j hj⟩

/-- The statements' own blocks. -/
def LS.own (bw : Nat) (S : LS) : List Nat := bw :: S.bf :: S.bt :: (ab S.la ++ ab S.ma ++ S.ents.flatMap fun e => ab e.1)

structure LRep (G : World → Nat → R → List Nat → Prop) (w : World) (bw : Nat) (sp sr : R) (S : LS) : Prop where
  law : Blk w bw (lawCells (.pointer (some ⟨S.bh, 0, none⟩)) (.pointer (some ⟨S.br, 0, none⟩)) (.slice (some ⟨S.bf, 0, none⟩) S.fl.length S.fl.length) (.slice (some ⟨S.bt, 0, none⟩) S.fl.length S.fl.length) (.slice S.la S.ents.length S.lc) (.slice S.ma S.marks.length S.mc) S.mark) 40
  prog : G w S.bh sp S.F
  ref : RRep w S.br sr S.L
  flags : Blk w S.bf (S.fl.map Value.bool) 4
  turn : Blk w S.bt (S.fl.map Value.bool) 4
  lists : w.ownsRow 0 26 1 (.slice S.la S.ents.length S.lc) S.ents.length (S.ents.map fun e => Value.slice e.1 e.2.1 e.2.2)
  marksR : w.ownsRow 0 3 1 (.slice S.ma S.marks.length S.mc) S.marks.length (ints S.marks)
  mlen : S.marks.length = S.ents.length
  ent : ∀ (i : Nat) (e : Option Addr × Nat × Nat) (m : Int), S.ents[i]? = some e → S.marks[i]? = some m → Ent w e m
  elen : ∀ e ∈ S.ents, e.2.1 ≤ 1000000
  ety : ∀ e ∈ S.ents, ∀ b ∈ ab e.1, Ty w b 3
  flt : ∀ b ∈ S.F, b < w.heap.size
  dj1 : ∀ b ∈ S.F, b ∉ S.L.foot S.br
  dj2 : ∀ b ∈ S.F, b ∉ S.own bw
  dj3 : ∀ b ∈ S.L.foot S.br, b ∉ S.own bw
  dj4 : ∀ b ∈ ab S.ma, ∀ e ∈ S.ents, b ∉ ab e.1

theorem Ty.lt {w : World} {b : Nat} {T : TypeId} (h : Ty w b T) : b < w.heap.size := by
  obtain ⟨c, f, h⟩ := h
  rcases Nat.lt_or_ge b w.heap.size with hlt | hge
  · exact hlt
  · rw [Array.getElem?_eq_none hge] at h; cases h
theorem Ty.chg {S : List Nat} {w w' : World} {b : Nat} {T : TypeId} (h : Ty w b T) (k : Chg S w w') (hb : b ∉ S) : Ty w' b T := by
  have hl := h.lt
  obtain ⟨c, f, h⟩ := h
  exact ⟨c, f, (k.block b hl hb).trans h⟩
theorem own_lt {w : World} {e : TypeId} {size n c m : Nat} {a : Option Addr} {xs : List Value} (h : w.ownsRow 0 e size (.slice a n c) m xs) : ∀ b ∈ ab a, b < w.heap.size := by
  intro b hb
  cases a with
  | none => simp [ab] at hb
  | some x => simp [ab] at hb; subst hb; exact owns_lt h rfl
theorem own_cases {bw : Nat} {S : LS} {b : Nat} (h : b ∈ S.own bw) : b = bw ∨ b = S.bf ∨ b = S.bt ∨ b ∈ ab S.la ∨ b ∈ ab S.ma ∨ ∃ e ∈ S.ents, b ∈ ab e.1 := by
  simp only [LS.own, List.mem_cons, List.mem_append, List.mem_flatMap] at h
  rcases h with h | h | h | (h | h) | h
  · exact .inl h
  · exact .inr (.inl h)
  · exact .inr (.inr (.inl h))
  · exact .inr (.inr (.inr (.inl h)))
  · exact .inr (.inr (.inr (.inr (.inl h))))
  · exact .inr (.inr (.inr (.inr (.inr h))))
theorem own_bw (bw : Nat) (S : LS) : bw ∈ S.own bw := by simp [LS.own]
theorem own_bf (bw : Nat) (S : LS) : S.bf ∈ S.own bw := by simp [LS.own]
theorem own_bt (bw : Nat) (S : LS) : S.bt ∈ S.own bw := by simp [LS.own]
theorem own_la {bw : Nat} {S : LS} {b : Nat} (h : b ∈ ab S.la) : b ∈ S.own bw := by simp [LS.own, h]
theorem own_ma {bw : Nat} {S : LS} {b : Nat} (h : b ∈ ab S.ma) : b ∈ S.own bw := by simp [LS.own, h]
theorem own_ent {bw : Nat} {S : LS} {b : Nat} {e : Option Addr × Nat × Nat} (he : e ∈ S.ents) (h : b ∈ ab e.1) : b ∈ S.own bw := by
  simp only [LS.own, List.mem_cons, List.mem_append, List.mem_flatMap]
  exact .inr (.inr (.inr (.inr ⟨e, he, h⟩)))
theorem LRep.own_lt {G : World → Nat → R → List Nat → Prop} {w : World} {bw : Nat} {sp sr : R} {S : LS} (h : LRep G w bw sp sr S) : ∀ b ∈ S.own bw, b < w.heap.size := by
  intro b hb
  rcases own_cases hb with rfl | rfl | rfl | hb | hb | ⟨e, he, hb⟩
  · exact h.law.lt
  · exact h.flags.lt
  · exact h.turn.lt
  · exact Go.Proofs.YtfoncalkgmeklaaGreat.own_lt h.lists b hb
  · exact Go.Proofs.YtfoncalkgmeklaaGreat.own_lt h.marksR b hb
  · exact (h.ety e he b hb).lt

/-- What a program's heap is to the statements: it stands wherever its own blocks stand. -/
def Stays (G : World → Nat → R → List Nat → Prop) : Prop := ∀ (S : List Nat) (w w' : World) (bh : Nat) (s : R) (F : List Nat), G w bh s F → Chg S w w' → (∀ b ∈ F, b ∉ S) → G w' bh s F

/-- The statements' own part, where blocks outside it have turned. -/
theorem LRep.ownpart {G : World → Nat → R → List Nat → Prop} {w w' : World} {bw : Nat} {sp sr : R} {S : LS} {T : List Nat} (h : LRep G w bw sp sr S) (k : Chg T w w') (hs : ∀ b ∈ S.own bw, b ∉ T) :
    Blk w' bw (lawCells (.pointer (some ⟨S.bh, 0, none⟩)) (.pointer (some ⟨S.br, 0, none⟩)) (.slice (some ⟨S.bf, 0, none⟩) S.fl.length S.fl.length) (.slice (some ⟨S.bt, 0, none⟩) S.fl.length S.fl.length) (.slice S.la S.ents.length S.lc) (.slice S.ma S.marks.length S.mc) S.mark) 40 ∧
    Blk w' S.bf (S.fl.map Value.bool) 4 ∧ Blk w' S.bt (S.fl.map Value.bool) 4 ∧
    w'.ownsRow 0 26 1 (.slice S.la S.ents.length S.lc) S.ents.length (S.ents.map fun e => Value.slice e.1 e.2.1 e.2.2) ∧
    w'.ownsRow 0 3 1 (.slice S.ma S.marks.length S.mc) S.marks.length (ints S.marks) ∧
    (∀ (i : Nat) (e : Option Addr × Nat × Nat) (m : Int), S.ents[i]? = some e → S.marks[i]? = some m → Ent w' e m) ∧ (∀ e ∈ S.ents, ∀ b ∈ ab e.1, Ty w' b 3) :=
  ⟨h.law.chg k (hs _ (own_bw _ _)), h.flags.chg k (hs _ (own_bf _ _)), h.turn.chg k (hs _ (own_bt _ _)), owns_chg h.lists k (fun _ hg => hs _ (own_la (ownBlock_ab hg))), owns_chg h.marksR k (fun _ hg => hs _ (own_ma (ownBlock_ab hg))),
    fun i e m h1 h2 => (h.ent i e m h1 h2).chg k (fun _ hb => hs _ (own_ent (List.mem_of_getElem? h1) hb)), fun e he b hb => (h.ety e he b hb).chg k (hs _ (own_ent he hb))⟩

theorem LRep.progStep {G : World → Nat → R → List Nat → Prop} {w w' : World} {bw : Nat} {sp sp' sr : R} {S : LS} {F' : List Nat} (h : LRep G w bw sp sr S) (hg : G w' S.bh sp' F') (hlt : ∀ b ∈ F', b < w'.heap.size) (st : Stp S.F w F' w') :
    LRep G w' bw sp' sr { S with F := F' } := by
  obtain ⟨h1, h2, h3, h4, h5, h6, h7⟩ := h.ownpart st.chg (fun b hb hm => h.dj2 b hm hb)
  refine ⟨h1, hg, h.ref.chg st.chg (fun b hb hm => h.dj1 b hm hb), h2, h3, h4, h5, h.mlen, h6, h.elen, h7, hlt, ?_, ?_, h.dj3, h.dj4⟩
  · intro b hb hm
    rcases st.foot b hb with h8 | h8
    · exact h.dj1 b h8 hm
    · have := h.ref.lt b hm; omega
  · intro b hb hm
    rcases st.foot b hb with h8 | h8
    · exact h.dj2 b h8 hm
    · have := h.own_lt b hm; omega
theorem LRep.refStep {G : World → Nat → R → List Nat → Prop} (hG : Stays G) {w w' : World} {bw : Nat} {sp sr sr' : R} {S : LS} {L' : RL} (h : LRep G w bw sp sr S) (hg : RRep w' S.br sr' L') (st : Stp (S.L.foot S.br) w (L'.foot S.br) w') :
    LRep G w' bw sp sr' { S with L := L' } := by
  obtain ⟨h1, h2, h3, h4, h5, h6, h7⟩ := h.ownpart st.chg (fun b hb hm => h.dj3 b hm hb)
  refine ⟨h1, hG _ _ _ _ _ _ h.prog st.chg (fun b hb hm => h.dj1 b hb hm), hg, h2, h3, h4, h5, h.mlen, h6, h.elen, h7, fun b hb => Nat.lt_of_lt_of_le (h.flt b hb) st.chg.size, ?_, h.dj2, ?_, h.dj4⟩
  · intro b hb hm
    rcases st.foot b hm with h8 | h8
    · exact h.dj1 b hb h8
    · have := h.flt b hb; omega
  · intro b hb hm
    rcases st.foot b hb with h8 | h8
    · exact h.dj3 b h8 hm
    · have := h.own_lt b hm; omega
theorem LRep.quiet {G : World → Nat → R → List Nat → Prop} (hG : Stays G) {w w' : World} {bw : Nat} {sp sr : R} {S : LS} (h : LRep G w bw sp sr S) (k : Chg [] w w') : LRep G w' bw sp sr S := by
  obtain ⟨h1, h2, h3, h4, h5, h6, h7⟩ := h.ownpart k (by simp)
  exact ⟨h1, hG _ _ _ _ _ _ h.prog k (by simp), h.ref.chg k (by simp), h2, h3, h4, h5, h.mlen, h6, h.elen, h7, fun b hb => Nat.lt_of_lt_of_le (h.flt b hb) k.size, h.dj1, h.dj2, h.dj3, h.dj4⟩
end Go.Proofs.YtfoncalkgmeklaaGreat

/- makes: each of these calls, of the program and of the document, answers the same, if each keeps its contract. (Written by wip/genlaw.py.) -/
namespace Go.Proofs.YtfoncalkgmeklaaGreat
open Go.RowKit

/-- A call of the program that answers a value and an error. -/
def PCall (G : World → Nat → R → List Nat → Prop) (f : FuncId) (bh : Nat) (rest : List Value) (s : R) (v : Value) (er : Int) (s' : R) : Prop :=
  ∀ w F, G w bh s F → Calls Tryz.prog f ((Value.pointer (some ⟨bh, 0, none⟩) :: rest).toArray) w fun e w' => ∃ F', e = .returned (.tuple #[v, .int .i64 er]) ∧ G w' bh s' F' ∧ (∀ b ∈ F', b < w'.heap.size) ∧ Stp F w F' w'
/-- The same of the document's heap. -/
def RCall (f : FuncId) (br : Nat) (rest : List Value) (s : R) (v : Value) (er : Int) (s' : R) : Prop :=
  ∀ w L, RRep w br s L → Calls Tryz.prog f ((Value.pointer (some ⟨br, 0, none⟩) :: rest).toArray) w fun e w' => ∃ L', e = .returned (.tuple #[v, .int .i64 er]) ∧ RRep w' br s' L' ∧ Stp (L.foot br) w (L'.foot br) w'
/-- A call of the program that answers an error alone. -/
def PCall1 (G : World → Nat → R → List Nat → Prop) (f : FuncId) (bh : Nat) (rest : List Value) (s : R) (er : Int) (s' : R) : Prop :=
  ∀ w F, G w bh s F → Calls Tryz.prog f ((Value.pointer (some ⟨bh, 0, none⟩) :: rest).toArray) w fun e w' => ∃ F', e = .returned (.int .i64 er) ∧ G w' bh s' F' ∧ (∀ b ∈ F', b < w'.heap.size) ∧ Stp F w F' w'
def RCall1 (f : FuncId) (br : Nat) (rest : List Value) (s : R) (er : Int) (s' : R) : Prop :=
  ∀ w L, RRep w br s L → Calls Tryz.prog f ((Value.pointer (some ⟨br, 0, none⟩) :: rest).toArray) w fun e w' => ∃ L', e = .returned (.int .i64 er) ∧ RRep w' br s' L' ∧ Stp (L.foot br) w (L'.foot br) w'

set_option maxRecDepth 100000 in
set_option maxHeartbeats 2000000 in
theorem makes_array {G : World → Nat → R → List Nat → Prop} (hG : Stays G) {w : World} {bw : Nat} {s : R} {S : LS} (x y : Int) (k v : Int × Int) (t : ByteArray) (a : Int) (er : Int) (s' : R) (h : LRep G w bw s s S)
    (hp : PCall G 27 S.bh [.int .i64 x] s (.int .i64 a) er s') (hr : RCall 28 S.br [.int .i64 x] s (.int .i64 a) er s') :
    Calls Tryz.prog 20 #[.pointer (some ⟨bw, 0, none⟩), LOp.val ⟨1, x, y, k, v, t⟩] w fun e w' => ∃ S', e = .returned (.bool true) ∧ LRep G w' bw s' s' S' ∧ Like S S' := by
  unfold LOp.val
  have h0 := h.ref
  have h1 : LRep G (w.alloc (.cells (LOp.cells ⟨1, x, y, k, v, t⟩).toArray 35)).drew bw s s S := h.quiet hG ((Chg.refl [] w).alloc _).drew
  have hbx : Blk (w.alloc (.cells (LOp.cells ⟨1, x, y, k, v, t⟩).toArray 35)).drew w.heap.size (LOp.cells ⟨1, x, y, k, v, t⟩) 35 := (Blk.new w _ _).drew
  have hbw : bw < w.heap.size := h.law.lt
  have c0 := h.law.cell_of (i := 0) rfl
  have hnF : ∀ b ∈ S.F, b < w.heap.size := h.flt
  have hpc : Hid (Calls Tryz.prog 27 #[.pointer (some ⟨S.bh, 0, none⟩), .int .i64 x] (w.alloc (.cells (LOp.cells ⟨1, x, y, k, v, t⟩).toArray 35)).drew fun e w' => ∃ F', e = .returned (.tuple #[.int .i64 a, .int .i64 er]) ∧ G w' S.bh s' F' ∧ (∀ b ∈ F', b < w'.heap.size) ∧ Stp S.F (w.alloc (.cells (LOp.cells ⟨1, x, y, k, v, t⟩).toArray 35)).drew F' w') := hp _ _ h1.prog
  have hall : Hid (∀ w', Chg S.F (w.alloc (.cells (LOp.cells ⟨1, x, y, k, v, t⟩).toArray 35)).drew w' → w'.cell? ⟨bw, 0, none⟩ = some (.pointer (some ⟨S.bh, 0, none⟩)) ∧ w'.cell? ⟨w.heap.size, 1, none⟩ = some (.int .i64 x)) := by
    intro w' hc
    exact ⟨(h1.law.chg hc (fun hm => h1.dj2 bw hm (own_bw _ _))).cell_of rfl, (hbx.chg hc (fun hm => by have := hnF _ hm; omega)).cell_of rfl⟩
  have H0 := hide h0; have H1 := hide h1; have HBX := hide hbx; have HR := hide hr; have HNF := hide hnF; clear h h0 h1 hbx hp hr hnF
  go_enter Tryz.func20, Tryz.ntmps20
  go_upto_region 7 with fail
  go_cut [5, 6] (fun a' b wx => a' = .int .i64 a ∧ b = .int .i64 er ∧ ∃ S', LRep G wx bw s' s S' ∧ Like S S' ∧ S'.bh = S.bh ∧ S'.br = S.br ∧ (∀ b ∈ S'.L.foot S'.br, b ≠ w.heap.size) ∧ Blk wx w.heap.size (LOp.cells ⟨1, x, y, k, v, t⟩) 35)
  case first =>
    go_region_held3 (fun w' => w'.cell? ⟨bw, 0, none⟩ = some (.pointer (some ⟨S.bh, 0, none⟩)) ∧ w'.cell? ⟨w.heap.size, 1, none⟩ = some (.int .i64 x)) (first | go_keep | (apply unhide hall; assumption)) ((go_at_call 27; refine (unhide hpc).mono ?_; rintro e w2 ⟨F2, rfl, hg2, hl2, st2⟩; have hc2 := st2.chg; have HG2 := hide hg2; have HL2 := hide hl2; have ST2 := hide st2; clear hg2 hl2 st2))
    go_wp2_with fail
    go_meet
    refine ⟨rfl, rfl, _, (unhide H1).progStep (unhide HG2) (unhide HL2) (unhide ST2), ⟨rfl, rfl, rfl, rfl, rfl⟩, rfl, rfl, fun b hb e => ?_, (unhide HBX).chg hc2 (fun hm => by have := unhide HNF _ hm; omega)⟩
    have := (unhide H0).lt b hb
    omega
  case rest =>
    obtain ⟨rfl, rfl, S2, h2, lk, e1, e2, hn2, hbx2⟩ := hcut
    have h3 : LRep G wc.drew bw s' s S2 := h2.quiet hG ((Chg.refl [] wc).drew)
    have c1 := h2.law.cell_of (i := 1) rfl
    have cxx := hbx2.cell_of (i := 1) rfl
    have hrc : Hid (Calls Tryz.prog 28 #[.pointer (some ⟨S.br, 0, none⟩), .int .i64 x] wc.drew fun e w' => ∃ L', e = .returned (.tuple #[.int .i64 a, .int .i64 er]) ∧ RRep w' S.br s' L' ∧ Stp (S2.L.foot S.br) wc.drew (L'.foot S.br) w') := by
      have := unhide HR wc.drew S2.L (by rw [← e2]; exact h3.ref)
      exact this
    have hall2 : Hid (∀ w', Chg (S2.L.foot S.br) wc.drew w' → w'.cell? ⟨bw, 1, none⟩ = some (.pointer (some ⟨S.br, 0, none⟩)) ∧ w'.cell? ⟨w.heap.size, 1, none⟩ = some (.int .i64 x)) := by
      intro w' hc
      have hcb := (h3.law.chg hc (fun hm => h2.dj3 bw (by rw [e2]; exact hm) (own_bw _ _))).cell_of (i := 1) rfl
      rw [e2] at hcb
      exact ⟨hcb, (hbx2.drew.chg hc (fun hm => hn2 _ (by rw [e2]; exact hm) rfl)).cell_of rfl⟩
    rw [e2] at c1
    have H3 := hide h3; have E2 := hide e2; have LK := hide lk; clear h2 h3 lk e1 e2 hn2 hbx2 H1 HBX hpc hall c0
    go_wp2_with fail
    go_region_held3 (fun w' => w'.cell? ⟨bw, 1, none⟩ = some (.pointer (some ⟨S.br, 0, none⟩)) ∧ w'.cell? ⟨w.heap.size, 1, none⟩ = some (.int .i64 x)) (first | go_keep | (apply unhide hall2; assumption)) ((go_at_call 28; refine (unhide hrc).mono ?_; rintro e w4 ⟨L4, rfl, hg4, st4⟩; have hc4 := st4.chg; have HG4 := hide hg4; have ST4 := hide st4; clear hg4 st4))
    go_wp2_with (go_at_call 18; refine (num_any _ _).mono ?_; rintro e w6 ⟨rfl, rfl⟩)
    go_ret
    exact ⟨{ S2 with L := L4 }, by simp, (unhide H3).refStep hG (by rw [unhide E2]; exact unhide HG4) (by rw [unhide E2]; exact unhide ST4), unhide LK⟩

set_option maxRecDepth 100000 in
set_option maxHeartbeats 2000000 in
theorem makes_bytes {G : World → Nat → R → List Nat → Prop} (hG : Stays G) {w : World} {bw : Nat} {s : R} {S : LS} (x y : Int) (k v : Int × Int) (t : ByteArray) (a : Int) (er : Int) (s' : R) (h : LRep G w bw s s S)
    (hp : PCall G 29 S.bh [.string t] s (.int .i64 a) er s') (hr : RCall 30 S.br [.string t] s (.int .i64 a) er s') :
    Calls Tryz.prog 20 #[.pointer (some ⟨bw, 0, none⟩), LOp.val ⟨2, x, y, k, v, t⟩] w fun e w' => ∃ S', e = .returned (.bool true) ∧ LRep G w' bw s' s' S' ∧ Like S S' := by
  unfold LOp.val
  have h0 := h.ref
  have h1 : LRep G (w.alloc (.cells (LOp.cells ⟨2, x, y, k, v, t⟩).toArray 35)).drew bw s s S := h.quiet hG ((Chg.refl [] w).alloc _).drew
  have hbx : Blk (w.alloc (.cells (LOp.cells ⟨2, x, y, k, v, t⟩).toArray 35)).drew w.heap.size (LOp.cells ⟨2, x, y, k, v, t⟩) 35 := (Blk.new w _ _).drew
  have hbw : bw < w.heap.size := h.law.lt
  have c0 := h.law.cell_of (i := 0) rfl
  have hnF : ∀ b ∈ S.F, b < w.heap.size := h.flt
  have hpc : Hid (Calls Tryz.prog 29 #[.pointer (some ⟨S.bh, 0, none⟩), .string t] (w.alloc (.cells (LOp.cells ⟨2, x, y, k, v, t⟩).toArray 35)).drew fun e w' => ∃ F', e = .returned (.tuple #[.int .i64 a, .int .i64 er]) ∧ G w' S.bh s' F' ∧ (∀ b ∈ F', b < w'.heap.size) ∧ Stp S.F (w.alloc (.cells (LOp.cells ⟨2, x, y, k, v, t⟩).toArray 35)).drew F' w') := hp _ _ h1.prog
  have hall : Hid (∀ w', Chg S.F (w.alloc (.cells (LOp.cells ⟨2, x, y, k, v, t⟩).toArray 35)).drew w' → w'.cell? ⟨bw, 0, none⟩ = some (.pointer (some ⟨S.bh, 0, none⟩)) ∧ w'.cell? ⟨w.heap.size, 7, none⟩ = some (.string t)) := by
    intro w' hc
    exact ⟨(h1.law.chg hc (fun hm => h1.dj2 bw hm (own_bw _ _))).cell_of rfl, (hbx.chg hc (fun hm => by have := hnF _ hm; omega)).cell_of rfl⟩
  have H0 := hide h0; have H1 := hide h1; have HBX := hide hbx; have HR := hide hr; have HNF := hide hnF; clear h h0 h1 hbx hp hr hnF
  go_enter Tryz.func20, Tryz.ntmps20
  go_upto_region 10 with fail
  go_cut [5, 6] (fun a' b wx => a' = .int .i64 a ∧ b = .int .i64 er ∧ ∃ S', LRep G wx bw s' s S' ∧ Like S S' ∧ S'.bh = S.bh ∧ S'.br = S.br ∧ (∀ b ∈ S'.L.foot S'.br, b ≠ w.heap.size) ∧ Blk wx w.heap.size (LOp.cells ⟨2, x, y, k, v, t⟩) 35)
  case first =>
    go_region_held3 (fun w' => w'.cell? ⟨bw, 0, none⟩ = some (.pointer (some ⟨S.bh, 0, none⟩)) ∧ w'.cell? ⟨w.heap.size, 7, none⟩ = some (.string t)) (first | go_keep | (apply unhide hall; assumption)) ((go_at_call 29; refine (unhide hpc).mono ?_; rintro e w2 ⟨F2, rfl, hg2, hl2, st2⟩; have hc2 := st2.chg; have HG2 := hide hg2; have HL2 := hide hl2; have ST2 := hide st2; clear hg2 hl2 st2))
    go_wp2_with fail
    go_meet
    refine ⟨rfl, rfl, _, (unhide H1).progStep (unhide HG2) (unhide HL2) (unhide ST2), ⟨rfl, rfl, rfl, rfl, rfl⟩, rfl, rfl, fun b hb e => ?_, (unhide HBX).chg hc2 (fun hm => by have := unhide HNF _ hm; omega)⟩
    have := (unhide H0).lt b hb
    omega
  case rest =>
    obtain ⟨rfl, rfl, S2, h2, lk, e1, e2, hn2, hbx2⟩ := hcut
    have h3 : LRep G wc.drew bw s' s S2 := h2.quiet hG ((Chg.refl [] wc).drew)
    have c1 := h2.law.cell_of (i := 1) rfl
    have cxs := hbx2.cell_of (i := 7) rfl
    have hrc : Hid (Calls Tryz.prog 30 #[.pointer (some ⟨S.br, 0, none⟩), .string t] wc.drew fun e w' => ∃ L', e = .returned (.tuple #[.int .i64 a, .int .i64 er]) ∧ RRep w' S.br s' L' ∧ Stp (S2.L.foot S.br) wc.drew (L'.foot S.br) w') := by
      have := unhide HR wc.drew S2.L (by rw [← e2]; exact h3.ref)
      exact this
    have hall2 : Hid (∀ w', Chg (S2.L.foot S.br) wc.drew w' → w'.cell? ⟨bw, 1, none⟩ = some (.pointer (some ⟨S.br, 0, none⟩)) ∧ w'.cell? ⟨w.heap.size, 7, none⟩ = some (.string t)) := by
      intro w' hc
      have hcb := (h3.law.chg hc (fun hm => h2.dj3 bw (by rw [e2]; exact hm) (own_bw _ _))).cell_of (i := 1) rfl
      rw [e2] at hcb
      exact ⟨hcb, (hbx2.drew.chg hc (fun hm => hn2 _ (by rw [e2]; exact hm) rfl)).cell_of rfl⟩
    rw [e2] at c1
    have H3 := hide h3; have E2 := hide e2; have LK := hide lk; clear h2 h3 lk e1 e2 hn2 hbx2 H1 HBX hpc hall c0
    go_wp2_with fail
    go_region_held3 (fun w' => w'.cell? ⟨bw, 1, none⟩ = some (.pointer (some ⟨S.br, 0, none⟩)) ∧ w'.cell? ⟨w.heap.size, 7, none⟩ = some (.string t)) (first | go_keep | (apply unhide hall2; assumption)) ((go_at_call 30; refine (unhide hrc).mono ?_; rintro e w4 ⟨L4, rfl, hg4, st4⟩; have hc4 := st4.chg; have HG4 := hide hg4; have ST4 := hide st4; clear hg4 st4))
    go_wp2_with (go_at_call 18; refine (num_any _ _).mono ?_; rintro e w6 ⟨rfl, rfl⟩)
    go_ret
    exact ⟨{ S2 with L := L4 }, by simp, (unhide H3).refStep hG (by rw [unhide E2]; exact unhide HG4) (by rw [unhide E2]; exact unhide ST4), unhide LK⟩

set_option maxRecDepth 100000 in
set_option maxHeartbeats 2000000 in
theorem makes_table {G : World → Nat → R → List Nat → Prop} (hG : Stays G) {w : World} {bw : Nat} {s : R} {S : LS} (x y : Int) (k v : Int × Int) (t : ByteArray) (a : Int) (er : Int) (s' : R) (h : LRep G w bw s s S)
    (hp : PCall G 31 S.bh [.int .i64 x] s (.int .i64 a) er s') (hr : RCall 32 S.br [.int .i64 x] s (.int .i64 a) er s') :
    Calls Tryz.prog 20 #[.pointer (some ⟨bw, 0, none⟩), LOp.val ⟨3, x, y, k, v, t⟩] w fun e w' => ∃ S', e = .returned (.bool true) ∧ LRep G w' bw s' s' S' ∧ Like S S' := by
  unfold LOp.val
  have h0 := h.ref
  have h1 : LRep G (w.alloc (.cells (LOp.cells ⟨3, x, y, k, v, t⟩).toArray 35)).drew bw s s S := h.quiet hG ((Chg.refl [] w).alloc _).drew
  have hbx : Blk (w.alloc (.cells (LOp.cells ⟨3, x, y, k, v, t⟩).toArray 35)).drew w.heap.size (LOp.cells ⟨3, x, y, k, v, t⟩) 35 := (Blk.new w _ _).drew
  have hbw : bw < w.heap.size := h.law.lt
  have c0 := h.law.cell_of (i := 0) rfl
  have hnF : ∀ b ∈ S.F, b < w.heap.size := h.flt
  have hpc : Hid (Calls Tryz.prog 31 #[.pointer (some ⟨S.bh, 0, none⟩), .int .i64 x] (w.alloc (.cells (LOp.cells ⟨3, x, y, k, v, t⟩).toArray 35)).drew fun e w' => ∃ F', e = .returned (.tuple #[.int .i64 a, .int .i64 er]) ∧ G w' S.bh s' F' ∧ (∀ b ∈ F', b < w'.heap.size) ∧ Stp S.F (w.alloc (.cells (LOp.cells ⟨3, x, y, k, v, t⟩).toArray 35)).drew F' w') := hp _ _ h1.prog
  have hall : Hid (∀ w', Chg S.F (w.alloc (.cells (LOp.cells ⟨3, x, y, k, v, t⟩).toArray 35)).drew w' → w'.cell? ⟨bw, 0, none⟩ = some (.pointer (some ⟨S.bh, 0, none⟩)) ∧ w'.cell? ⟨w.heap.size, 1, none⟩ = some (.int .i64 x)) := by
    intro w' hc
    exact ⟨(h1.law.chg hc (fun hm => h1.dj2 bw hm (own_bw _ _))).cell_of rfl, (hbx.chg hc (fun hm => by have := hnF _ hm; omega)).cell_of rfl⟩
  have H0 := hide h0; have H1 := hide h1; have HBX := hide hbx; have HR := hide hr; have HNF := hide hnF; clear h h0 h1 hbx hp hr hnF
  go_enter Tryz.func20, Tryz.ntmps20
  go_upto_region 13 with fail
  go_cut [5, 6] (fun a' b wx => a' = .int .i64 a ∧ b = .int .i64 er ∧ ∃ S', LRep G wx bw s' s S' ∧ Like S S' ∧ S'.bh = S.bh ∧ S'.br = S.br ∧ (∀ b ∈ S'.L.foot S'.br, b ≠ w.heap.size) ∧ Blk wx w.heap.size (LOp.cells ⟨3, x, y, k, v, t⟩) 35)
  case first =>
    go_region_held3 (fun w' => w'.cell? ⟨bw, 0, none⟩ = some (.pointer (some ⟨S.bh, 0, none⟩)) ∧ w'.cell? ⟨w.heap.size, 1, none⟩ = some (.int .i64 x)) (first | go_keep | (apply unhide hall; assumption)) ((go_at_call 31; refine (unhide hpc).mono ?_; rintro e w2 ⟨F2, rfl, hg2, hl2, st2⟩; have hc2 := st2.chg; have HG2 := hide hg2; have HL2 := hide hl2; have ST2 := hide st2; clear hg2 hl2 st2))
    go_wp2_with fail
    go_meet
    refine ⟨rfl, rfl, _, (unhide H1).progStep (unhide HG2) (unhide HL2) (unhide ST2), ⟨rfl, rfl, rfl, rfl, rfl⟩, rfl, rfl, fun b hb e => ?_, (unhide HBX).chg hc2 (fun hm => by have := unhide HNF _ hm; omega)⟩
    have := (unhide H0).lt b hb
    omega
  case rest =>
    obtain ⟨rfl, rfl, S2, h2, lk, e1, e2, hn2, hbx2⟩ := hcut
    have h3 : LRep G wc.drew bw s' s S2 := h2.quiet hG ((Chg.refl [] wc).drew)
    have c1 := h2.law.cell_of (i := 1) rfl
    have cxx := hbx2.cell_of (i := 1) rfl
    have hrc : Hid (Calls Tryz.prog 32 #[.pointer (some ⟨S.br, 0, none⟩), .int .i64 x] wc.drew fun e w' => ∃ L', e = .returned (.tuple #[.int .i64 a, .int .i64 er]) ∧ RRep w' S.br s' L' ∧ Stp (S2.L.foot S.br) wc.drew (L'.foot S.br) w') := by
      have := unhide HR wc.drew S2.L (by rw [← e2]; exact h3.ref)
      exact this
    have hall2 : Hid (∀ w', Chg (S2.L.foot S.br) wc.drew w' → w'.cell? ⟨bw, 1, none⟩ = some (.pointer (some ⟨S.br, 0, none⟩)) ∧ w'.cell? ⟨w.heap.size, 1, none⟩ = some (.int .i64 x)) := by
      intro w' hc
      have hcb := (h3.law.chg hc (fun hm => h2.dj3 bw (by rw [e2]; exact hm) (own_bw _ _))).cell_of (i := 1) rfl
      rw [e2] at hcb
      exact ⟨hcb, (hbx2.drew.chg hc (fun hm => hn2 _ (by rw [e2]; exact hm) rfl)).cell_of rfl⟩
    rw [e2] at c1
    have H3 := hide h3; have E2 := hide e2; have LK := hide lk; clear h2 h3 lk e1 e2 hn2 hbx2 H1 HBX hpc hall c0
    go_wp2_with fail
    go_region_held3 (fun w' => w'.cell? ⟨bw, 1, none⟩ = some (.pointer (some ⟨S.br, 0, none⟩)) ∧ w'.cell? ⟨w.heap.size, 1, none⟩ = some (.int .i64 x)) (first | go_keep | (apply unhide hall2; assumption)) ((go_at_call 32; refine (unhide hrc).mono ?_; rintro e w4 ⟨L4, rfl, hg4, st4⟩; have hc4 := st4.chg; have HG4 := hide hg4; have ST4 := hide st4; clear hg4 st4))
    go_wp2_with (go_at_call 18; refine (num_any _ _).mono ?_; rintro e w6 ⟨rfl, rfl⟩)
    go_ret
    exact ⟨{ S2 with L := L4 }, by simp, (unhide H3).refStep hG (by rw [unhide E2]; exact unhide HG4) (by rw [unhide E2]; exact unhide ST4), unhide LK⟩

set_option maxRecDepth 100000 in
set_option maxHeartbeats 2000000 in
theorem makes_join {G : World → Nat → R → List Nat → Prop} (hG : Stays G) {w : World} {bw : Nat} {s : R} {S : LS} (x y : Int) (k v : Int × Int) (t : ByteArray) (a : Int) (er : Int) (s' : R) (h : LRep G w bw s s S)
    (hp : PCall G 33 S.bh [.int .i64 x, .int .i64 y] s (.int .i64 a) er s') (hr : RCall 34 S.br [.int .i64 x, .int .i64 y] s (.int .i64 a) er s') :
    Calls Tryz.prog 20 #[.pointer (some ⟨bw, 0, none⟩), LOp.val ⟨22, x, y, k, v, t⟩] w fun e w' => ∃ S', e = .returned (.bool true) ∧ LRep G w' bw s' s' S' ∧ Like S S' := by
  unfold LOp.val
  have h0 := h.ref
  have h1 : LRep G (w.alloc (.cells (LOp.cells ⟨22, x, y, k, v, t⟩).toArray 35)).drew bw s s S := h.quiet hG ((Chg.refl [] w).alloc _).drew
  have hbx : Blk (w.alloc (.cells (LOp.cells ⟨22, x, y, k, v, t⟩).toArray 35)).drew w.heap.size (LOp.cells ⟨22, x, y, k, v, t⟩) 35 := (Blk.new w _ _).drew
  have hbw : bw < w.heap.size := h.law.lt
  have c0 := h.law.cell_of (i := 0) rfl
  have hnF : ∀ b ∈ S.F, b < w.heap.size := h.flt
  have hpc : Hid (Calls Tryz.prog 33 #[.pointer (some ⟨S.bh, 0, none⟩), .int .i64 x, .int .i64 y] (w.alloc (.cells (LOp.cells ⟨22, x, y, k, v, t⟩).toArray 35)).drew fun e w' => ∃ F', e = .returned (.tuple #[.int .i64 a, .int .i64 er]) ∧ G w' S.bh s' F' ∧ (∀ b ∈ F', b < w'.heap.size) ∧ Stp S.F (w.alloc (.cells (LOp.cells ⟨22, x, y, k, v, t⟩).toArray 35)).drew F' w') := hp _ _ h1.prog
  have hall : Hid (∀ w', Chg S.F (w.alloc (.cells (LOp.cells ⟨22, x, y, k, v, t⟩).toArray 35)).drew w' → w'.cell? ⟨bw, 0, none⟩ = some (.pointer (some ⟨S.bh, 0, none⟩)) ∧ w'.cell? ⟨w.heap.size, 1, none⟩ = some (.int .i64 x) ∧ w'.cell? ⟨w.heap.size, 2, none⟩ = some (.int .i64 y)) := by
    intro w' hc
    exact ⟨(h1.law.chg hc (fun hm => h1.dj2 bw hm (own_bw _ _))).cell_of rfl, (hbx.chg hc (fun hm => by have := hnF _ hm; omega)).cell_of rfl, (hbx.chg hc (fun hm => by have := hnF _ hm; omega)).cell_of rfl⟩
  have H0 := hide h0; have H1 := hide h1; have HBX := hide hbx; have HR := hide hr; have HNF := hide hnF; clear h h0 h1 hbx hp hr hnF
  go_enter Tryz.func20, Tryz.ntmps20
  go_upto_region 16 with fail
  go_cut [5, 6] (fun a' b wx => a' = .int .i64 a ∧ b = .int .i64 er ∧ ∃ S', LRep G wx bw s' s S' ∧ Like S S' ∧ S'.bh = S.bh ∧ S'.br = S.br ∧ (∀ b ∈ S'.L.foot S'.br, b ≠ w.heap.size) ∧ Blk wx w.heap.size (LOp.cells ⟨22, x, y, k, v, t⟩) 35)
  case first =>
    go_region_held3 (fun w' => w'.cell? ⟨bw, 0, none⟩ = some (.pointer (some ⟨S.bh, 0, none⟩)) ∧ w'.cell? ⟨w.heap.size, 1, none⟩ = some (.int .i64 x) ∧ w'.cell? ⟨w.heap.size, 2, none⟩ = some (.int .i64 y)) (first | go_keep | (apply unhide hall; assumption)) ((go_at_call 33; refine (unhide hpc).mono ?_; rintro e w2 ⟨F2, rfl, hg2, hl2, st2⟩; have hc2 := st2.chg; have HG2 := hide hg2; have HL2 := hide hl2; have ST2 := hide st2; clear hg2 hl2 st2))
    go_wp2_with fail
    go_meet
    refine ⟨rfl, rfl, _, (unhide H1).progStep (unhide HG2) (unhide HL2) (unhide ST2), ⟨rfl, rfl, rfl, rfl, rfl⟩, rfl, rfl, fun b hb e => ?_, (unhide HBX).chg hc2 (fun hm => by have := unhide HNF _ hm; omega)⟩
    have := (unhide H0).lt b hb
    omega
  case rest =>
    obtain ⟨rfl, rfl, S2, h2, lk, e1, e2, hn2, hbx2⟩ := hcut
    have h3 : LRep G wc.drew bw s' s S2 := h2.quiet hG ((Chg.refl [] wc).drew)
    have c1 := h2.law.cell_of (i := 1) rfl
    have cxx := hbx2.cell_of (i := 1) rfl
    have cxy := hbx2.cell_of (i := 2) rfl
    have hrc : Hid (Calls Tryz.prog 34 #[.pointer (some ⟨S.br, 0, none⟩), .int .i64 x, .int .i64 y] wc.drew fun e w' => ∃ L', e = .returned (.tuple #[.int .i64 a, .int .i64 er]) ∧ RRep w' S.br s' L' ∧ Stp (S2.L.foot S.br) wc.drew (L'.foot S.br) w') := by
      have := unhide HR wc.drew S2.L (by rw [← e2]; exact h3.ref)
      exact this
    have hall2 : Hid (∀ w', Chg (S2.L.foot S.br) wc.drew w' → w'.cell? ⟨bw, 1, none⟩ = some (.pointer (some ⟨S.br, 0, none⟩)) ∧ w'.cell? ⟨w.heap.size, 1, none⟩ = some (.int .i64 x) ∧ w'.cell? ⟨w.heap.size, 2, none⟩ = some (.int .i64 y)) := by
      intro w' hc
      have hcb := (h3.law.chg hc (fun hm => h2.dj3 bw (by rw [e2]; exact hm) (own_bw _ _))).cell_of (i := 1) rfl
      rw [e2] at hcb
      exact ⟨hcb, (hbx2.drew.chg hc (fun hm => hn2 _ (by rw [e2]; exact hm) rfl)).cell_of rfl, (hbx2.drew.chg hc (fun hm => hn2 _ (by rw [e2]; exact hm) rfl)).cell_of rfl⟩
    rw [e2] at c1
    have H3 := hide h3; have E2 := hide e2; have LK := hide lk; clear h2 h3 lk e1 e2 hn2 hbx2 H1 HBX hpc hall c0
    go_wp2_with fail
    go_region_held3 (fun w' => w'.cell? ⟨bw, 1, none⟩ = some (.pointer (some ⟨S.br, 0, none⟩)) ∧ w'.cell? ⟨w.heap.size, 1, none⟩ = some (.int .i64 x) ∧ w'.cell? ⟨w.heap.size, 2, none⟩ = some (.int .i64 y)) (first | go_keep | (apply unhide hall2; assumption)) ((go_at_call 34; refine (unhide hrc).mono ?_; rintro e w4 ⟨L4, rfl, hg4, st4⟩; have hc4 := st4.chg; have HG4 := hide hg4; have ST4 := hide st4; clear hg4 st4))
    go_wp2_with (go_at_call 18; refine (num_any _ _).mono ?_; rintro e w6 ⟨rfl, rfl⟩)
    go_ret
    exact ⟨{ S2 with L := L4 }, by simp, (unhide H3).refStep hG (by rw [unhide E2]; exact unhide HG4) (by rw [unhide E2]; exact unhide ST4), unhide LK⟩

set_option maxRecDepth 100000 in
set_option maxHeartbeats 2000000 in
theorem makes_copy {G : World → Nat → R → List Nat → Prop} (hG : Stays G) {w : World} {bw : Nat} {s : R} {S : LS} (x y : Int) (k v : Int × Int) (t : ByteArray) (a : Int) (er : Int) (s' : R) (h : LRep G w bw s s S)
    (hp : PCall G 35 S.bh [.int .i64 x] s (.int .i64 a) er s') (hr : RCall 36 S.br [.int .i64 x] s (.int .i64 a) er s') :
    Calls Tryz.prog 20 #[.pointer (some ⟨bw, 0, none⟩), LOp.val ⟨23, x, y, k, v, t⟩] w fun e w' => ∃ S', e = .returned (.bool true) ∧ LRep G w' bw s' s' S' ∧ Like S S' := by
  unfold LOp.val
  have h0 := h.ref
  have h1 : LRep G (w.alloc (.cells (LOp.cells ⟨23, x, y, k, v, t⟩).toArray 35)).drew bw s s S := h.quiet hG ((Chg.refl [] w).alloc _).drew
  have hbx : Blk (w.alloc (.cells (LOp.cells ⟨23, x, y, k, v, t⟩).toArray 35)).drew w.heap.size (LOp.cells ⟨23, x, y, k, v, t⟩) 35 := (Blk.new w _ _).drew
  have hbw : bw < w.heap.size := h.law.lt
  have c0 := h.law.cell_of (i := 0) rfl
  have hnF : ∀ b ∈ S.F, b < w.heap.size := h.flt
  have hpc : Hid (Calls Tryz.prog 35 #[.pointer (some ⟨S.bh, 0, none⟩), .int .i64 x] (w.alloc (.cells (LOp.cells ⟨23, x, y, k, v, t⟩).toArray 35)).drew fun e w' => ∃ F', e = .returned (.tuple #[.int .i64 a, .int .i64 er]) ∧ G w' S.bh s' F' ∧ (∀ b ∈ F', b < w'.heap.size) ∧ Stp S.F (w.alloc (.cells (LOp.cells ⟨23, x, y, k, v, t⟩).toArray 35)).drew F' w') := hp _ _ h1.prog
  have hall : Hid (∀ w', Chg S.F (w.alloc (.cells (LOp.cells ⟨23, x, y, k, v, t⟩).toArray 35)).drew w' → w'.cell? ⟨bw, 0, none⟩ = some (.pointer (some ⟨S.bh, 0, none⟩)) ∧ w'.cell? ⟨w.heap.size, 1, none⟩ = some (.int .i64 x)) := by
    intro w' hc
    exact ⟨(h1.law.chg hc (fun hm => h1.dj2 bw hm (own_bw _ _))).cell_of rfl, (hbx.chg hc (fun hm => by have := hnF _ hm; omega)).cell_of rfl⟩
  have H0 := hide h0; have H1 := hide h1; have HBX := hide hbx; have HR := hide hr; have HNF := hide hnF; clear h h0 h1 hbx hp hr hnF
  go_enter Tryz.func20, Tryz.ntmps20
  go_upto_region 19 with fail
  go_cut [5, 6] (fun a' b wx => a' = .int .i64 a ∧ b = .int .i64 er ∧ ∃ S', LRep G wx bw s' s S' ∧ Like S S' ∧ S'.bh = S.bh ∧ S'.br = S.br ∧ (∀ b ∈ S'.L.foot S'.br, b ≠ w.heap.size) ∧ Blk wx w.heap.size (LOp.cells ⟨23, x, y, k, v, t⟩) 35)
  case first =>
    go_region_held3 (fun w' => w'.cell? ⟨bw, 0, none⟩ = some (.pointer (some ⟨S.bh, 0, none⟩)) ∧ w'.cell? ⟨w.heap.size, 1, none⟩ = some (.int .i64 x)) (first | go_keep | (apply unhide hall; assumption)) ((go_at_call 35; refine (unhide hpc).mono ?_; rintro e w2 ⟨F2, rfl, hg2, hl2, st2⟩; have hc2 := st2.chg; have HG2 := hide hg2; have HL2 := hide hl2; have ST2 := hide st2; clear hg2 hl2 st2))
    go_wp2_with fail
    go_meet
    refine ⟨rfl, rfl, _, (unhide H1).progStep (unhide HG2) (unhide HL2) (unhide ST2), ⟨rfl, rfl, rfl, rfl, rfl⟩, rfl, rfl, fun b hb e => ?_, (unhide HBX).chg hc2 (fun hm => by have := unhide HNF _ hm; omega)⟩
    have := (unhide H0).lt b hb
    omega
  case rest =>
    obtain ⟨rfl, rfl, S2, h2, lk, e1, e2, hn2, hbx2⟩ := hcut
    have h3 : LRep G wc.drew bw s' s S2 := h2.quiet hG ((Chg.refl [] wc).drew)
    have c1 := h2.law.cell_of (i := 1) rfl
    have cxx := hbx2.cell_of (i := 1) rfl
    have hrc : Hid (Calls Tryz.prog 36 #[.pointer (some ⟨S.br, 0, none⟩), .int .i64 x] wc.drew fun e w' => ∃ L', e = .returned (.tuple #[.int .i64 a, .int .i64 er]) ∧ RRep w' S.br s' L' ∧ Stp (S2.L.foot S.br) wc.drew (L'.foot S.br) w') := by
      have := unhide HR wc.drew S2.L (by rw [← e2]; exact h3.ref)
      exact this
    have hall2 : Hid (∀ w', Chg (S2.L.foot S.br) wc.drew w' → w'.cell? ⟨bw, 1, none⟩ = some (.pointer (some ⟨S.br, 0, none⟩)) ∧ w'.cell? ⟨w.heap.size, 1, none⟩ = some (.int .i64 x)) := by
      intro w' hc
      have hcb := (h3.law.chg hc (fun hm => h2.dj3 bw (by rw [e2]; exact hm) (own_bw _ _))).cell_of (i := 1) rfl
      rw [e2] at hcb
      exact ⟨hcb, (hbx2.drew.chg hc (fun hm => hn2 _ (by rw [e2]; exact hm) rfl)).cell_of rfl⟩
    rw [e2] at c1
    have H3 := hide h3; have E2 := hide e2; have LK := hide lk; clear h2 h3 lk e1 e2 hn2 hbx2 H1 HBX hpc hall c0
    go_wp2_with fail
    go_region_held3 (fun w' => w'.cell? ⟨bw, 1, none⟩ = some (.pointer (some ⟨S.br, 0, none⟩)) ∧ w'.cell? ⟨w.heap.size, 1, none⟩ = some (.int .i64 x)) (first | go_keep | (apply unhide hall2; assumption)) ((go_at_call 36; refine (unhide hrc).mono ?_; rintro e w4 ⟨L4, rfl, hg4, st4⟩; have hc4 := st4.chg; have HG4 := hide hg4; have ST4 := hide st4; clear hg4 st4))
    go_wp2_with (go_at_call 18; refine (num_any _ _).mono ?_; rintro e w6 ⟨rfl, rfl⟩)
    go_ret
    exact ⟨{ S2 with L := L4 }, by simp, (unhide H3).refStep hG (by rw [unhide E2]; exact unhide HG4) (by rw [unhide E2]; exact unhide ST4), unhide LK⟩

end Go.Proofs.YtfoncalkgmeklaaGreat

/- keep: a list that came out is written full by its owner, and some behind it. -/
namespace Go.Proofs.YtfoncalkgmeklaaGreat
open Go.RowKit

/-- The list that keep holds: its own row, full of the mark; what shares its block is no longer and bears the same mark. -/
structure Kp (w : World) (bw : Nat) (S : LS) (a : Option Addr) (n c : Nat) : Prop where
  own : w.ownsRow 0 3 1 (.slice a n c) n (ints (List.replicate n S.mark))
  dF : ∀ b ∈ ab a, b ∉ S.F
  dL : ∀ b ∈ ab a, b ∉ S.L.foot S.br
  dM : ∀ b ∈ ab a, b ∉ ab S.ma
  sh : ∀ (i : Nat) (e : Option Addr × Nat × Nat) (m : Int), S.ents[i]? = some e → S.marks[i]? = some m → ∀ b ∈ ab e.1, b ∈ ab a → m = S.mark ∧ e.2.1 ≤ n

/-- Another world for the statements' part where only blocks that nobody of the two heaps has were written. -/
theorem LRep.both {G : World → Nat → R → List Nat → Prop} (hG : Stays G) {w w' : World} {bw : Nat} {sp sr : R} {S : LS} {T : List Nat} (h : LRep G w bw sp sr S) (k : Chg T w w') (h1 : ∀ b ∈ S.F, b ∉ T) (h2 : ∀ b ∈ S.L.foot S.br, b ∉ T) : G w' S.bh sp S.F ∧ RRep w' S.br sr S.L :=
  ⟨hG _ _ _ _ _ _ h.prog k h1, h.ref.chg k h2⟩

/-- The mark goes down by one. -/
theorem LRep.setMark {G : World → Nat → R → List Nat → Prop} (hG : Stays G) {w : World} {bw : Nat} {sp sr : R} {S : LS} (h : LRep G w bw sp sr S) (m : Int) : LRep G (w.setCell ⟨bw, 6, none⟩ (.int .i64 m)) bw sp sr { S with mark := m } := by
  have k : Chg [bw] w (w.setCell ⟨bw, 6, none⟩ (.int .i64 m)) := (Chg.refl _ _).setCell (.inl (by simp)) _
  obtain ⟨g1, g2⟩ := h.both hG k (fun b hb => by simp; intro e; subst e; exact h.dj2 _ hb (own_bw _ _)) (fun b hb => by simp; intro e; subst e; exact h.dj3 _ hb (own_bw _ _))
  have ty : ∀ {b : Nat} {T : TypeId}, Ty w b T → T ≠ 40 → b ∉ [bw] := fun ht hn hm => by simp at hm; subst hm; exact ht.ne hn h.law.ty
  have ety : ∀ e ∈ S.ents, ∀ b ∈ ab e.1, b ∉ [bw] := fun e he b hb => ty (h.ety e he b hb) (by decide)
  refine ⟨?_, g1, g2, h.flags.chg k (ty h.flags.ty (by decide)), h.turn.chg k (ty h.turn.ty (by decide)), owns_chg_ty h.lists k (fun x hx => by simp at hx; subst hx; exact h.law.ty.ne (by decide)), owns_chg_ty h.marksR k (fun x hx => by simp at hx; subst hx; exact h.law.ty.ne (by decide)), h.mlen, ?_, h.elen, fun e he b hb => (h.ety e he b hb).chg k (ety e he b hb), fun b hb => Nat.lt_of_lt_of_le (h.flt b hb) k.size, h.dj1, h.dj2, h.dj3, h.dj4⟩
  · have := h.law.setCell 6 (.int .i64 m)
    simpa [lawCells] using this
  · intro i e m' h1 h2
    exact (h.ent i e m' h1 h2).chg k (ety e (List.mem_of_getElem? h1))

/-- A store into a list that nobody else has. -/
theorem LRep.free {G : World → Nat → R → List Nat → Prop} (hG : Stays G) {w w' : World} {bw : Nat} {sp sr : R} {S : LS} {T : List Nat} (h : LRep G w bw sp sr S) (k : Chg T w w') (h1 : ∀ b ∈ T, b ∉ S.F) (h2 : ∀ b ∈ T, b ∉ S.L.foot S.br) (h3 : ∀ b ∈ T, b ∉ S.own bw) : LRep G w' bw sp sr S := by
  obtain ⟨g1, g2⟩ := h.both hG k (fun b hb hm => h1 b hm hb) (fun b hb hm => h2 b hm hb)
  obtain ⟨a1, a2, a3, a4, a5, a6, a7⟩ := h.ownpart k (fun b hb hm => h3 b hm hb)
  exact ⟨a1, g1, g2, a2, a3, a4, a5, h.mlen, a6, h.elen, a7, fun b hb => Nat.lt_of_lt_of_le (h.flt b hb) k.size, h.dj1, h.dj2, h.dj3, h.dj4⟩

/-- One list more, with its mark. -/
theorem LRep.push2 {G : World → Nat → R → List Nat → Prop} (hG : Stays G) {w w0 w1 w1' wz w2 : World} {bw : Nat} {sp sr : R} {S : LS} {a : Option Addr} {n c : Nat} (h : LRep G w bw sp sr S) (kp : Kp w bw S a n c) (hn : n ≤ 1000000)
    {va vm : Option Addr} {cap capm H Hm : Nat} (k0 : Chg [] w w0)
    (ho1 : w1.ownsRow 0 26 1 (.slice va (S.ents.length + 1) cap) (S.ents.length + 1) ((S.ents.map fun e => Value.slice e.1 e.2.1 e.2.2) ++ [.slice a n c]))
    (hg1 : w0.grownBy w1 (Value.slice S.la S.ents.length S.lc).ownBlock) (hH : w.heap.size ≤ H) (hat1 : (Value.slice va (S.ents.length + 1) cap).ownBlock = (Value.slice S.la S.ents.length S.lc).ownBlock ∨ (Value.slice va (S.ents.length + 1) cap).ownBlock = some H)
    (e1 : w1' = w1.setCell ⟨bw, 4, none⟩ (.slice va (S.ents.length + 1) cap)) (kz : Chg [] w1' wz)
    (ho2 : w2.ownsRow 0 3 1 (.slice vm (S.marks.length + 1) capm) (S.marks.length + 1) (ints S.marks ++ ints [S.mark]))
    (hg2 : wz.grownBy w2 (Value.slice S.ma S.marks.length S.mc).ownBlock) (hHm : w1'.heap.size ≤ Hm) (hat2 : (Value.slice vm (S.marks.length + 1) capm).ownBlock = (Value.slice S.ma S.marks.length S.mc).ownBlock ∨ (Value.slice vm (S.marks.length + 1) capm).ownBlock = some Hm) :
    LRep G (w2.setCell ⟨bw, 5, none⟩ (.slice vm (S.marks.length + 1) capm)) bw sp sr { S with la := va, lc := cap, ents := S.ents ++ [(a, n, c)], ma := vm, mc := capm, marks := S.marks ++ [S.mark] } ∧
      Kp (w2.setCell ⟨bw, 5, none⟩ (.slice vm (S.marks.length + 1) capm)) bw { S with la := va, lc := cap, ents := S.ents ++ [(a, n, c)], ma := vm, mc := capm, marks := S.marks ++ [S.mark] } a n c := by
  have kA : Chg (bw :: ab S.la) w w1' := by
    rw [e1]
    exact ((grown_ab (S := []) k0 hg1).mono (fun x hx => by simp at hx; simp [hx])).setCell (.inl (by simp)) _
  have tA : ∀ x ∈ bw :: ab S.la, Ty w x 40 ∨ Ty w x 26 := by
    intro x hx
    rcases List.mem_cons.1 hx with rfl | hx
    · exact .inl h.law.ty
    · exact .inr (owns_ty h.lists x hx)
  have hbw1 : Blk w1 bw _ 40 := h.law.chg_ty (grown_ab (S := []) k0 hg1) (fun x hx => by simp at hx; exact (owns_ty h.lists x hx).ne (by decide))
  have hbw1' : Blk w1' bw (lawCells (.pointer (some ⟨S.bh, 0, none⟩)) (.pointer (some ⟨S.br, 0, none⟩)) (.slice (some ⟨S.bf, 0, none⟩) S.fl.length S.fl.length) (.slice (some ⟨S.bt, 0, none⟩) S.fl.length S.fl.length) (.slice va (S.ents.length + 1) cap) (.slice S.ma S.marks.length S.mc) S.mark) 40 := by
    rw [e1]
    have := hbw1.setCell 4 (.slice va (S.ents.length + 1) cap)
    simpa [lawCells] using this
  have hmk1 := owns_chg_ty h.marksR kA (not_ty tA (by decide) (by decide))
  have ho1' : w1'.ownsRow 0 26 1 (.slice va (S.ents.length + 1) cap) (S.ents.length + 1) ((S.ents.map fun e => Value.slice e.1 e.2.1 e.2.2) ++ [.slice a n c]) := by
    rw [e1]
    exact ownsRow_setCell_other' ho1 (fun g hgv e => by
      simp at e
      subst e
      exact (owns_ty ho1 g (ownBlock_ab hgv)).ne (by decide) hbw1.ty) _
  have kB : Chg (bw :: ab S.ma) w1' (w2.setCell ⟨bw, 5, none⟩ (.slice vm (S.marks.length + 1) capm)) :=
    ((grown_ab (S := []) kz hg2).mono (fun x hx => by simp at hx; simp [hx])).setCell (.inl (by simp)) _
  have tB : ∀ x ∈ bw :: ab S.ma, Ty w1' x 40 ∨ Ty w1' x 3 := by
    intro x hx
    rcases List.mem_cons.1 hx with rfl | hx
    · exact .inl hbw1'.ty
    · exact .inr (owns_ty hmk1 x hx)
  have hbw2 : Blk w2 bw _ 40 := hbw1'.chg_ty (grown_ab (S := []) kz hg2) (fun x hx => by simp at hx; exact (owns_ty hmk1 x hx).ne (by decide))
  have hvm := at_ab hHm hat2
  have hva := at_ab hH hat1
  have kAB : Chg (bw :: (ab S.la ++ ab S.ma)) w (w2.setCell ⟨bw, 5, none⟩ (.slice vm (S.marks.length + 1) capm)) :=
    (kA.mono (fun x hx => by rcases List.mem_cons.1 hx with rfl | hx <;> simp [*])).trans (kB.mono (fun x hx => by rcases List.mem_cons.1 hx with rfl | hx <;> simp [*]))
  have hout : ∀ b, b ∈ S.F ∨ b ∈ S.L.foot S.br → b ∉ bw :: (ab S.la ++ ab S.ma) := by
    intro b hb hm
    have hown : b ∈ S.own bw := by
      rcases List.mem_cons.1 hm with rfl | hm
      · exact own_bw _ _
      · rcases List.mem_append.1 hm with hm | hm
        · exact own_la hm
        · exact own_ma hm
    rcases hb with hb | hb
    · exact h.dj2 b hb hown
    · exact h.dj3 b hb hown
  obtain ⟨g1, g2⟩ := h.both hG kAB (fun b hb => hout b (.inl hb)) (fun b hb => hout b (.inr hb))
  -- a block of numbers that is not the marks' row stays
  have hint : ∀ b, Ty w b 3 → b ∉ ab S.ma → b ∉ bw :: (ab S.la ++ ab S.ma) := by
    intro b ht hm hx
    rcases List.mem_cons.1 hx with rfl | hx
    · exact ht.ne (by decide) h.law.ty
    · rcases List.mem_append.1 hx with hx | hx
      · exact ht.ne (by decide) (owns_ty h.lists b hx)
      · exact hm hx
  have hkpty : ∀ b ∈ ab a, Ty w b 3 := owns_ty kp.own
  have hown' := owns_chg kp.own kAB (fun g hg => hint g (hkpty g (ownBlock_ab hg)) (kp.dM g (ownBlock_ab hg)))
  have hlt' : ∀ b, b ∈ S.F ∨ b ∈ S.L.foot S.br → b < w.heap.size := by
    intro b hb
    rcases hb with hb | hb
    · exact h.flt b hb
    · exact h.ref.lt b hb
  have hsz1 : w.heap.size ≤ w1'.heap.size := kA.size
  have hownS : ∀ b, b ∈ S.F ∨ b ∈ S.L.foot S.br → b ∉ LS.own bw { S with la := va, lc := cap, ents := S.ents ++ [(a, n, c)], ma := vm, mc := capm, marks := S.marks ++ [S.mark] } := by
    intro b hb hm
    have hbl := hlt' b hb
    have hold : b ∉ S.own bw := by
      rcases hb with hb | hb
      · exact h.dj2 b hb
      · exact h.dj3 b hb
    rcases own_cases hm with rfl | rfl | rfl | hm | hm | ⟨e, he, hm⟩
    · exact hold (own_bw _ _)
    · exact hold (own_bf _ _)
    · exact hold (own_bt _ _)
    · rcases hva b hm with h8 | h8
      · exact hold (own_la h8)
      · omega
    · rcases hvm b hm with h8 | h8
      · exact hold (own_ma h8)
      · omega
    · rcases List.mem_append.1 he with he | he
      · exact hold (own_ent he hm)
      · simp at he
        subst he
        rcases hb with hb | hb
        · exact kp.dF b hm hb
        · exact kp.dL b hm hb
  have hentM : ∀ e ∈ S.ents ++ [(a, n, c)], ∀ b ∈ ab e.1, b ∉ ab S.ma ∧ Ty w b 3 := by
    intro e he b hb
    rcases List.mem_append.1 he with he | he
    · exact ⟨fun hm => h.dj4 b hm e he hb, h.ety e he b hb⟩
    · simp at he; subst he; exact ⟨kp.dM b hb, hkpty b hb⟩
  refine ⟨⟨?_, g1, g2, h.flags.chg kAB (fun hm => ?_), h.turn.chg kAB (fun hm => ?_), ?_, ?_, by simp [h.mlen], ?_, ?_, ?_, fun b hb => Nat.lt_of_lt_of_le (h.flt b hb) kAB.size, h.dj1, fun b hb => hownS b (.inl hb), fun b hb => hownS b (.inr hb), ?_⟩, ⟨hown', kp.dF, kp.dL, ?_, ?_⟩⟩
  · have := hbw2.setCell 5 (.slice vm (S.marks.length + 1) capm)
    simpa [lawCells] using this
  · rcases List.mem_cons.1 hm with e | hm
    · have ht := h.law.ty; rw [← e] at ht; exact h.flags.ty.ne (by decide) ht
    · rcases List.mem_append.1 hm with hm | hm
      · exact h.flags.ty.ne (by decide) (owns_ty h.lists _ hm)
      · exact h.flags.ty.ne (by decide) (owns_ty h.marksR _ hm)
  · rcases List.mem_cons.1 hm with e | hm
    · have ht := h.law.ty; rw [← e] at ht; exact h.turn.ty.ne (by decide) ht
    · rcases List.mem_append.1 hm with hm | hm
      · exact h.turn.ty.ne (by decide) (owns_ty h.lists _ hm)
      · exact h.turn.ty.ne (by decide) (owns_ty h.marksR _ hm)
  · have := owns_chg_ty ho1' kB (not_ty tB (by decide) (by decide))
    simpa using this
  · have := ownsRow_setCell_other' ho2 (p := ⟨bw, 5, none⟩) (fun g hgv e => by
      simp at e
      subst e
      exact (owns_ty ho2 g (ownBlock_ab hgv)).ne (by decide) hbw2.ty) (.slice vm (S.marks.length + 1) capm)
    simpa [ints_append] using this
  · intro i e m h1 h2
    have hil : i < S.ents.length ∨ i = S.ents.length := by
      have := (List.getElem?_eq_some_iff.1 h1).1
      simp at this
      omega
    rcases hil with hil | hil
    · simp only at h1 h2
      rw [List.getElem?_append_left hil] at h1
      rw [List.getElem?_append_left (by rw [h.mlen]; exact hil)] at h2
      exact (h.ent i e m h1 h2).chg kAB (fun b hb => hint b (h.ety e (List.mem_of_getElem? h1) b hb) (fun hm => h.dj4 b hm e (List.mem_of_getElem? h1) hb))
    · simp only at h1 h2
      rw [hil, List.getElem?_append_right (Nat.le_refl _), Nat.sub_self] at h1
      rw [hil, List.getElem?_append_right (by rw [h.mlen]; exact Nat.le_refl _), h.mlen, Nat.sub_self] at h2
      simp at h1 h2
      subst h1 h2
      intro h0
      obtain ⟨g, eg, hgl, hc⟩ := owns_at hown' h0
      exact ⟨g, eg, hgl, fun j hj => hc j _ (by simp [ints, hj])⟩
  · intro e he
    rcases List.mem_append.1 he with he | he
    · exact h.elen e he
    · simp at he; subst he; exact hn
  · intro e he b hb
    exact (hentM e he b hb).2.chg kAB (hint b (hentM e he b hb).2 (hentM e he b hb).1)
  · intro b hb e he hm
    rcases hvm b hb with h8 | h8
    · exact (hentM e he b hm).1 h8
    · have := (hentM e he b hm).2.lt; omega
  · intro b hb hm
    rcases hvm b hm with h8 | h8
    · exact kp.dM b hb h8
    · have := (hkpty b hb).lt; omega
  · intro i e m h1 h2 b hb hba
    have hil : i < S.ents.length ∨ i = S.ents.length := by
      have := (List.getElem?_eq_some_iff.1 h1).1
      simp at this
      omega
    rcases hil with hil | hil
    · simp only at h1 h2
      rw [List.getElem?_append_left hil] at h1
      rw [List.getElem?_append_left (by rw [h.mlen]; exact hil)] at h2
      exact kp.sh i e m h1 h2 b hb hba
    · simp only at h1 h2
      rw [hil, List.getElem?_append_right (Nat.le_refl _), Nat.sub_self] at h1
      rw [hil, List.getElem?_append_right (by rw [h.mlen]; exact Nat.le_refl _), h.mlen, Nat.sub_self] at h2
      simp at h1 h2
      subst h1 h2
      exact ⟨rfl, Nat.le_refl _⟩

/-- The list grown by one mark more. -/
theorem LRep.grow {G : World → Nat → R → List Nat → Prop} (hG : Stays G) {w w1 : World} {bw : Nat} {sp sr : R} {S : LS} {a va : Option Addr} {n c cap H : Nat} (h : LRep G w bw sp sr S) (kp : Kp w bw S a n c) (o : Obj)
    (ho : w1.ownsRow 0 3 1 (.slice va (n + 1) cap) (n + 1) (ints (List.replicate n S.mark) ++ ints [S.mark])) (hg : (w.alloc o).grownBy w1 (Value.slice a n c).ownBlock) (hH : w.heap.size ≤ H)
    (hat : (Value.slice va (n + 1) cap).ownBlock = (Value.slice a n c).ownBlock ∨ ((Value.slice va (n + 1) cap).ownBlock = some H ∧ Chg [] (w.alloc o) w1)) :
    LRep G w1 bw sp sr S ∧ Kp w1 bw S va (n + 1) cap := by
  have ho' : w1.ownsRow 0 3 1 (.slice va (n + 1) cap) (n + 1) (ints (List.replicate (n + 1) S.mark)) := by rw [List.replicate_succ', ints_append]; exact ho
  have kA : Chg (ab a) w w1 := grown_ab (S := []) ((Chg.refl [] w).alloc o) hg
  have hkt : ∀ b ∈ ab a, Ty w b 3 := owns_ty kp.own
  rcases hat with hat | ⟨hat, hcm⟩
  · -- in place: the same block
    have hva : ab va = ab a := by
      cases va <;> cases a <;> simp [Value.ownBlock] at hat <;> simp [ab, hat]
    obtain ⟨g1, g2⟩ := h.both hG kA (fun b hb hm => kp.dF b hm hb) (fun b hb hm => kp.dL b hm hb)
    have hne : ∀ {b : Nat} {T : TypeId}, Ty w b T → T ≠ 3 → b ∉ ab a := fun ht hn hm => ht.ne hn (hkt _ hm)
    refine ⟨⟨h.law.chg kA (hne h.law.ty (by decide)), g1, g2, h.flags.chg kA (hne h.flags.ty (by decide)), h.turn.chg kA (hne h.turn.ty (by decide)), owns_chg_ty h.lists kA (fun x hx => (hkt x hx).ne (by decide)), owns_chg h.marksR kA (fun g hg hm => kp.dM g hm (ownBlock_ab hg)), h.mlen, ?_, h.elen, ?_, fun b hb => Nat.lt_of_lt_of_le (h.flt b hb) kA.size, h.dj1, h.dj2, h.dj3, h.dj4⟩, ⟨ho', by rw [hva]; exact kp.dF, by rw [hva]; exact kp.dL, by rw [hva]; exact kp.dM, ?_⟩⟩
    · intro i e m h1 h2
      by_cases hsh : ∃ b ∈ ab e.1, b ∈ ab a
      · obtain ⟨b, hb, hba⟩ := hsh
        obtain ⟨hm, hl⟩ := kp.sh i e m h1 h2 b hb hba
        intro h0
        obtain ⟨g, eg, _, _⟩ := h.ent i e m h1 h2 h0
        obtain ⟨g', eg', hgl', hc'⟩ := owns_at ho' (by omega)
        have hgg : g = g' := by
          have e1 : b = g := by rw [eg] at hb; simpa [ab] using hb
          have e2 : b = g' := by rw [← hva, eg'] at hba; simpa [ab] using hba
          omega
        refine ⟨g, eg, by rw [hgg]; exact hgl', fun j hj => ?_⟩
        rw [hgg, hm]
        exact hc' j _ (by rw [ints, List.map_replicate, List.getElem?_replicate, if_pos (by omega)])
      · exact (h.ent i e m h1 h2).chg kA (fun b hb hm => hsh ⟨b, hb, hm⟩)
    · intro e he b hb
      by_cases hba : b ∈ ab a
      · exact owns_ty ho' b (by rw [hva]; exact hba)
      · exact (h.ety e he b hb).chg kA hba
    · intro i e m h1 h2 b hb hba
      rw [hva] at hba
      obtain ⟨hm, hl⟩ := kp.sh i e m h1 h2 b hb hba
      exact ⟨hm, by omega⟩
  · -- moved: nothing old has turned
    have kB : Chg [] w w1 := ((Chg.refl [] w).alloc o).trans hcm
    have hvn : ∀ b ∈ ab va, w.heap.size ≤ b := by
      intro b hb
      cases va with
      | none => simp [ab] at hb
      | some x => simp [ab] at hb; subst hb; simp [Value.ownBlock] at hat; omega
    refine ⟨h.quiet hG kB, ⟨ho', fun b hb hm => ?_, fun b hb hm => ?_, fun b hb hm => ?_, fun i e m h1 h2 b hb hba => ?_⟩⟩
    · have := hvn b hb; have := h.flt b hm; omega
    · have := hvn b hb; have := h.ref.lt b hm; omega
    · have := hvn b hb; have := (owns_ty h.marksR b hm).lt; omega
    · have := hvn b hba; have := (h.ety e (List.mem_of_getElem? h1) b hb).lt; omega
end Go.Proofs.YtfoncalkgmeklaaGreat

/- append: where the new slice lies elsewhere, nothing old has turned. -/
namespace Go.Proofs.YtfoncalkgmeklaaGreat
open Go.RowKit

theorem run_append_moved {P : Program} (w : World) (t ty e : TypeId) (i : TypeInfo) (z : Value) (size bytes : Nat) (ht : P.underlying t = some (.slice e)) (hi : P.info? e = some i) (hz : i.zero = some z)
    (hsize : i.size = size) (hby : i.bytes = bytes) (v : Value) (n : Nat) (xs : List Value) (hown : w.ownsRow 0 e size v n xs)
    (ad : Addr) (m c : Nat) (news : List Value) (hl : news.length = m * size) (hnews : ∀ j u, news[j]? = some u → w.cell? (ad.add j) = some u) (h1 : ∀ u ∈ news, u.oneCell' = true) (hm : 0 < m)
    (h63 : n + m ≤ maxLen) (hbytes : (n + m) * bytes ≤ 140737488355328) {v' : Value} {w' : World} (hr : (Builtin.append_ #[t, t] ty #[v, .slice (some ad) m c]).run P w = .ok v' w') :
    v'.ownBlock = v.ownBlock ∨ (v'.ownBlock = some w.heap.size ∧ Chg [] w w') := by
  subst hsize
  subst hby
  have hsmall : n + m ≤ 9223372036854775807 := by simp only [maxLen] at h63; omega
  rcases hown.2 with ⟨rfl, rfl⟩ | ⟨g, cap, cur, rfl, hbg, hg, hnc, hcm, hcs, htake⟩
  · have hr' := run_append_nil (P := P) w t ty e i z ht hi hz ad m c news hl hnews (by omega) (by omega) (by have hb := hbytes; simp only [Nat.zero_add] at hb; omega)
    rw [hr'] at hr
    simp only [Result.ok.injEq] at hr
    obtain ⟨rfl, rfl⟩ := hr
    exact .inr ⟨rfl, ((Chg.refl [] w).drew).alloc _⟩
  · by_cases hroom : n + m ≤ cap
    · have hfit : n * i.size + news.length ≤ cur.size := by rw [hl, hcs, ← Nat.add_mul]; exact Nat.mul_le_mul_right _ hroom
      have hr' := run_append_room (P := P) w t ty e i ht hi g n cap cur hg ad m c news hl hnews h1 hroom hfit
      rw [hr'] at hr
      simp only [Result.ok.injEq] at hr
      obtain ⟨rfl, rfl⟩ := hr
      exact .inl rfl
    · have holds : ∀ j u, xs[j]? = some u → w.cell? ((⟨g, 0, none⟩ : Addr).add j) = some u := hown.cells (g := g) rfl
      have hr' := run_append_grow (P := P) w t ty e i z ht hi hz ⟨g, 0, none⟩ n cap xs hown.1 holds ad m c news hl hnews (by omega) (by omega) (growslice_fits (by omega) hbytes)
      rw [hr'] at hr
      simp only [Result.ok.injEq] at hr
      obtain ⟨rfl, rfl⟩ := hr
      exact .inr ⟨rfl, ((Chg.refl [] w).drew).alloc _⟩

/-- The same at the list of a plain region's operations. -/
theorem wpList_append_moved {P : Program} (w : World) {ops : Array Oper} {rest : List Oper} {o : Oper} {a : Act} {Q : Exit → Act → World → Prop} (hgd : o.guard = none) (s x : Operand) (t : TypeId)
    (ho : o.op = .call { callee := .builtin .append, args := #[s, x], argTypes := #[t, t] })
    (e : TypeId) (i : TypeInfo) (z : Value) (size bytes : Nat) (ht : P.underlying t = some (.slice e)) (hi : P.info? e = some i) (hz : i.zero = some z)
    (hsize : i.size = size) (hby : i.bytes = bytes) (hzs : z.cells.size = size) (hsz : 0 < size)
    (v : Value) (n : Nat) (xs : List Value) (hs : a.eval s = v) (hown : w.ownsRow 0 e size v n xs)
    (ad : Addr) (m c : Nat) (news : List Value) (hx : a.eval x = .slice (some ad) m c) (hl : news.length = m * size) (hsrc : ∀ j u, news[j]? = some u → w.cell? (ad.add j) = some u) (h1 : ∀ u ∈ news, u.oneCell' = true) (hm : 0 < m)
    (h63 : n + m ≤ maxLen) (hbytes : (n + m) * bytes ≤ 140737488355328)
    (h : ∀ va cap w', w'.ownsRow 0 e size (.slice va (n + m) cap) (n + m) (xs ++ news) → w.grownBy w' v.ownBlock →
      ((Value.slice va (n + m) cap).ownBlock = v.ownBlock ∨ ((Value.slice va (n + m) cap).ownBlock = some w.heap.size ∧ Chg [] w w')) → wpList P ops Q rest (a.put o.dst (.slice va (n + m) cap)) w') : wpList P ops Q (o :: rest) a w := by
  refine wpList_plain hgd fun K hK => ?_
  obtain ⟨v', w', hr, h2, h3, h4, _⟩ := run_append_own_at (P := P) w 0 t o.type e i z size bytes ht hi hz hsize hby hzs hsz v n xs hown ad m c news hl hsrc h1 h63 hbytes (Nat.zero_le _)
  have h6 := run_append_moved w t o.type e i z size bytes ht hi hz hsize hby v n xs hown ad m c news hl hsrc h1 hm h63 hbytes hr
  unfold Oper.wp execOp
  simp only [ho, resolve, invoke, builtin, Sem.run_bind, Sem.run_pure, Result.andThen_ok, List.map_toArray, List.map_cons, List.map_nil, hs, hx, hr]
  obtain ⟨va, cap, rfl⟩ := owns_form h2
  exact hK _ _ (h va cap w' h2 h3 h6)
end Go.Proofs.YtfoncalkgmeklaaGreat

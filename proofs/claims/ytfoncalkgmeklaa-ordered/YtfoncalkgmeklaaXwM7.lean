import Derived.Test.YtfoncalkgmeklaaXwM6
import Derived.Test.YtfoncalkgmeklaaXwM1

/- The statements' world: the program's heap (told by G), the document's, and the lists that came out. -/
namespace Go.Proofs.Ytfoncalkgmeklaa
open Go.RowKit

/-- A step of a script. -/
structure LOp where
  kind : Int
  x : Int
  y : Int
  k : Int × Int
  v : Int × Int
  s : ByteArray
def LOp.cells (o : LOp) : List Value := [.int .i64 o.kind, .int .i64 o.x, .int .i64 o.y, .int .i64 o.k.1, .int .i64 o.k.2, .int .i64 o.v.1, .int .i64 o.v.2, .string o.s]
def LOp.val (o : LOp) : Value := .agg #[.int .i64 o.kind, .int .i64 o.x, .int .i64 o.y, .int .i64 o.k.1, .int .i64 o.k.2, .int .i64 o.v.1, .int .i64 o.v.2, .string o.s]

/-- Where the parts of the statements' world lie. -/
structure LS where
  bh : Nat
  br : Nat
  F : List Nat
  L : RL
  bf : Nat
  bt : Nat
  fl : List Bool
  la : Option Addr
  lc : Nat
  ents : List (Option Addr × Nat × Nat)
  ma : Option Addr
  mc : Nat
  marks : List Int
  mark : Int

/-- The owner's part is as it was. -/
def Like (S S' : LS) : Prop := S'.mark = S.mark ∧ S'.ents.length = S.ents.length ∧ S'.bh = S.bh ∧ S'.br = S.br ∧ S'.fl = S.fl
theorem Like.refl (S : LS) : Like S S := ⟨rfl, rfl, rfl, rfl, rfl⟩
/-- A list that came out holds its owner's mark. -/
def Ent (w : World) (e : Option Addr × Nat × Nat) (m : Int) : Prop :=
  0 < e.2.1 → ∃ g, e.1 = some ⟨g, 0, none⟩ ∧ g < w.heap.size ∧ ∀ j, j < e.2.1 → w.cell? ⟨g, j, none⟩ = some (.int .i64 m)
theorem Ent.chg {S : List Nat} {w w' : World} {e : Option Addr × Nat × Nat} {m : Int} (h : Ent w e m) (k : Chg S w w') (hs : ∀ b ∈ ab e.1, b ∉ S) : Ent w' e m := fun h0 => by
  obtain ⟨g, eg, hl, hc⟩ := h h0
  exact ⟨g, eg, Nat.lt_of_lt_of_le hl k.size, fun j hj => by rw [k.cell (a := ⟨g, j, none⟩) hl (hs g (mem_ab eg))]; exact hc j hj⟩

/-- The statements' own blocks. -/
def LS.own (bw : Nat) (S : LS) : List Nat := bw :: S.bf :: S.bt :: (ab S.la ++ ab S.ma ++ S.ents.flatMap fun e => ab e.1)

theorem Ty.lt {w : World} {b : Nat} {T : TypeId} (h : Ty w b T) : b < w.heap.size := by
  obtain ⟨c, f, h⟩ := h
  rcases Nat.lt_or_ge b w.heap.size with hlt | hge
  · exact hlt
  · rw [Array.getElem?_eq_none hge] at h; cases h
theorem Ty.chg {S : List Nat} {w w' : World} {b : Nat} {T : TypeId} (h : Ty w b T) (k : Chg S w w') (hb : b ∉ S) : Ty w' b T := by
  have hl := h.lt
  obtain ⟨c, f, h⟩ := h
  exact ⟨c, f, (k.block b hl hb).trans h⟩
theorem own_lt {w : World} {e : TypeId} {size n c m : Nat} {a : Option Addr} {xs : List Value} (h : w.ownsRow 0 e size (.slice a n c) m xs) : ∀ b ∈ ab a, b < w.heap.size := by
  intro b hb
  cases a with
  | none => simp [ab] at hb
  | some x => simp [ab] at hb; subst hb; exact owns_lt h rfl
theorem own_cases {bw : Nat} {S : LS} {b : Nat} (h : b ∈ S.own bw) : b = bw ∨ b = S.bf ∨ b = S.bt ∨ b ∈ ab S.la ∨ b ∈ ab S.ma ∨ ∃ e ∈ S.ents, b ∈ ab e.1 := by
  simp only [LS.own, List.mem_cons, List.mem_append, List.mem_flatMap] at h
  rcases h with h | h | h | (h | h) | h
  · exact .inl h
  · exact .inr (.inl h)
  · exact .inr (.inr (.inl h))
  · exact .inr (.inr (.inr (.inl h)))
  · exact .inr (.inr (.inr (.inr (.inl h))))
  · exact .inr (.inr (.inr (.inr (.inr h))))
theorem own_bw (bw : Nat) (S : LS) : bw ∈ S.own bw := by simp [LS.own]
theorem own_bf (bw : Nat) (S : LS) : S.bf ∈ S.own bw := by simp [LS.own]
theorem own_bt (bw : Nat) (S : LS) : S.bt ∈ S.own bw := by simp [LS.own]
theorem own_la {bw : Nat} {S : LS} {b : Nat} (h : b ∈ ab S.la) : b ∈ S.own bw := by simp [LS.own, h]
theorem own_ma {bw : Nat} {S : LS} {b : Nat} (h : b ∈ ab S.ma) : b ∈ S.own bw := by simp [LS.own, h]
theorem own_ent {bw : Nat} {S : LS} {b : Nat} {e : Option Addr × Nat × Nat} (he : e ∈ S.ents) (h : b ∈ ab e.1) : b ∈ S.own bw := by
  simp only [LS.own, List.mem_cons, List.mem_append, List.mem_flatMap]
  exact .inr (.inr (.inr (.inr ⟨e, he, h⟩)))
/-- What a program's heap is to the statements: it stands wherever its own blocks stand. -/
def Stays (G : World → Nat → R → List Nat → Prop) : Prop := ∀ (S : List Nat) (w w' : World) (bh : Nat) (s : R) (F : List Nat), G w bh s F → Chg S w w' → (∀ b ∈ F, b ∉ S) → G w' bh s F

end Go.Proofs.Ytfoncalkgmeklaa

/- makes: each of these calls, of the program and of the document, answers the same, if each keeps its contract. (Written by wip/genlaw.py.) -/
namespace Go.Proofs.Ytfoncalkgmeklaa
open Go.RowKit

/-- A call of the program that answers a value and an error. -/
def PCall (G : World → Nat → R → List Nat → Prop) (f : FuncId) (bh : Nat) (rest : List Value) (s : R) (v : Value) (er : Int) (s' : R) : Prop :=
  ∀ w F, G w bh s F → Calls Try.prog f ((Value.pointer (some ⟨bh, 0, none⟩) :: rest).toArray) w fun e w' => ∃ F', e = .returned (.tuple #[v, .int .i64 er]) ∧ G w' bh s' F' ∧ (∀ b ∈ F', b < w'.heap.size) ∧ Stp F w F' w'
/-- A call of the program that answers an error alone. -/
def PCall1 (G : World → Nat → R → List Nat → Prop) (f : FuncId) (bh : Nat) (rest : List Value) (s : R) (er : Int) (s' : R) : Prop :=
  ∀ w F, G w bh s F → Calls Try.prog f ((Value.pointer (some ⟨bh, 0, none⟩) :: rest).toArray) w fun e w' => ∃ F', e = .returned (.int .i64 er) ∧ G w' bh s' F' ∧ (∀ b ∈ F', b < w'.heap.size) ∧ Stp F w F' w'
end Go.Proofs.Ytfoncalkgmeklaa

/- keep: a list that came out is written full by its owner, and some behind it. -/
namespace Go.Proofs.Ytfoncalkgmeklaa
open Go.RowKit

/-- The list that keep holds: its own row, full of the mark; what shares its block is no longer and bears the same mark. -/
structure Kp (w : World) (bw : Nat) (S : LS) (a : Option Addr) (n c : Nat) : Prop where
  own : w.ownsRow 0 3 1 (.slice a n c) n (ints (List.replicate n S.mark))
  dF : ∀ b ∈ ab a, b ∉ S.F
  dL : ∀ b ∈ ab a, b ∉ S.L.foot S.br
  dM : ∀ b ∈ ab a, b ∉ ab S.ma
  sh : ∀ (i : Nat) (e : Option Addr × Nat × Nat) (m : Int), S.ents[i]? = some e → S.marks[i]? = some m → ∀ b ∈ ab e.1, b ∈ ab a → m = S.mark ∧ e.2.1 ≤ n

end Go.Proofs.Ytfoncalkgmeklaa

/- append: where the new slice lies elsewhere, nothing old has turned. -/
namespace Go.Proofs.Ytfoncalkgmeklaa
open Go.RowKit

theorem run_append_moved {P : Program} (w : World) (t ty e : TypeId) (i : TypeInfo) (z : Value) (size bytes : Nat) (ht : P.underlying t = some (.slice e)) (hi : P.info? e = some i) (hz : i.zero = some z)
    (hsize : i.size = size) (hby : i.bytes = bytes) (v : Value) (n : Nat) (xs : List Value) (hown : w.ownsRow 0 e size v n xs)
    (ad : Addr) (m c : Nat) (news : List Value) (hl : news.length = m * size) (hnews : ∀ j u, news[j]? = some u → w.cell? (ad.add j) = some u) (h1 : ∀ u ∈ news, u.oneCell' = true) (hm : 0 < m)
    (h63 : n + m ≤ maxLen) (hbytes : (n + m) * bytes ≤ 140737488355328) {v' : Value} {w' : World} (hr : (Builtin.append_ #[t, t] ty #[v, .slice (some ad) m c]).run P w = .ok v' w') :
    v'.ownBlock = v.ownBlock ∨ (v'.ownBlock = some w.heap.size ∧ Chg [] w w') := by
  subst hsize
  subst hby
  have hsmall : n + m ≤ 9223372036854775807 := by simp only [maxLen] at h63; omega
  rcases hown.2 with ⟨rfl, rfl⟩ | ⟨g, cap, cur, rfl, hbg, hg, hnc, hcm, hcs, htake⟩
  · have hr' := run_append_nil (P := P) w t ty e i z ht hi hz ad m c news hl hnews (by omega) (by omega) (by have hb := hbytes; simp only [Nat.zero_add] at hb; omega)
    rw [hr'] at hr
    simp only [Result.ok.injEq] at hr
    obtain ⟨rfl, rfl⟩ := hr
    exact .inr ⟨rfl, ((Chg.refl [] w).drew).alloc _⟩
  · by_cases hroom : n + m ≤ cap
    · have hfit : n * i.size + news.length ≤ cur.size := by rw [hl, hcs, ← Nat.add_mul]; exact Nat.mul_le_mul_right _ hroom
      have hr' := run_append_room (P := P) w t ty e i ht hi g n cap cur hg ad m c news hl hnews h1 hroom hfit
      rw [hr'] at hr
      simp only [Result.ok.injEq] at hr
      obtain ⟨rfl, rfl⟩ := hr
      exact .inl rfl
    · have holds : ∀ j u, xs[j]? = some u → w.cell? ((⟨g, 0, none⟩ : Addr).add j) = some u := hown.cells (g := g) rfl
      have hr' := run_append_grow (P := P) w t ty e i z ht hi hz ⟨g, 0, none⟩ n cap xs hown.1 holds ad m c news hl hnews (by omega) (by omega) (growslice_fits (by omega) hbytes)
      rw [hr'] at hr
      simp only [Result.ok.injEq] at hr
      obtain ⟨rfl, rfl⟩ := hr
      exact .inr ⟨rfl, ((Chg.refl [] w).drew).alloc _⟩

/-- The same at the list of a plain region's operations. -/
theorem wpList_append_moved {P : Program} (w : World) {ops : Array Oper} {rest : List Oper} {o : Oper} {a : Act} {Q : Exit → Act → World → Prop} (hgd : o.guard = none) (s x : Operand) (t : TypeId)
    (ho : o.op = .call { callee := .builtin .append, args := #[s, x], argTypes := #[t, t] })
    (e : TypeId) (i : TypeInfo) (z : Value) (size bytes : Nat) (ht : P.underlying t = some (.slice e)) (hi : P.info? e = some i) (hz : i.zero = some z)
    (hsize : i.size = size) (hby : i.bytes = bytes) (hzs : z.cells.size = size) (hsz : 0 < size)
    (v : Value) (n : Nat) (xs : List Value) (hs : a.eval s = v) (hown : w.ownsRow 0 e size v n xs)
    (ad : Addr) (m c : Nat) (news : List Value) (hx : a.eval x = .slice (some ad) m c) (hl : news.length = m * size) (hsrc : ∀ j u, news[j]? = some u → w.cell? (ad.add j) = some u) (h1 : ∀ u ∈ news, u.oneCell' = true) (hm : 0 < m)
    (h63 : n + m ≤ maxLen) (hbytes : (n + m) * bytes ≤ 140737488355328)
    (h : ∀ va cap w', w'.ownsRow 0 e size (.slice va (n + m) cap) (n + m) (xs ++ news) → w.grownBy w' v.ownBlock →
      ((Value.slice va (n + m) cap).ownBlock = v.ownBlock ∨ ((Value.slice va (n + m) cap).ownBlock = some w.heap.size ∧ Chg [] w w')) → wpList P ops Q rest (a.put o.dst (.slice va (n + m) cap)) w') : wpList P ops Q (o :: rest) a w := by
  refine wpList_plain hgd fun K hK => ?_
  obtain ⟨v', w', hr, h2, h3, h4, _⟩ := run_append_own_at (P := P) w 0 t o.type e i z size bytes ht hi hz hsize hby hzs hsz v n xs hown ad m c news hl hsrc h1 h63 hbytes (Nat.zero_le _)
  have h6 := run_append_moved w t o.type e i z size bytes ht hi hz hsize hby v n xs hown ad m c news hl hsrc h1 hm h63 hbytes hr
  unfold Oper.wp execOp
  simp only [ho, resolve, invoke, builtin, Sem.run_bind, Sem.run_pure, Result.andThen_ok, List.map_toArray, List.map_cons, List.map_nil, hs, hx, hr]
  obtain ⟨va, cap, rfl⟩ := owns_form h2
  exact hK _ _ (h va cap w' h2 h3 h6)
end Go.Proofs.Ytfoncalkgmeklaa

/- A script that is handed in: its cells. -/
import Derived.Test.YtfoncalkgmeklaaGreatYwM15
import Derived.ProofKit
import Derived.OpenShut
import Derived.JoinedCond
import Derived.Deep.CondSized
import Derived.Deep.Grids
import Derived.ChangeOld
import Derived.ShutString
import Derived.SizedLaws
namespace Go.Proofs.YtfoncalkgmeklaaGreat
open Go.ChangeShapes Go.WideShapes Go.ChangeAt Go.RowKit Go.Deep

def wcount {H : Type} : DataW H → Nat
  | .slice e _ => e.length
  | _ => 0
theorem wcount_le {H : Type} {P : Program} {ts : List TypeId} {ds : List (DataW H)} (h : (DataW.weightsEach P ts ds).all (· ≤ reachBytes) = true) {j : Nat} {t e : TypeId} {d : DataW H} (ht : ts[j]? = some t) (hd : ds[j]? = some d) (hu : P.underlying t = some (.slice e)) : wcount d * P.bytesOf e ≤ reachBytes := by
  cases d with
  | slice elems spare =>
    have h1 := sized_slice h ht hd hu
    have h2 : elems.length * P.bytesOf e ≤ (elems.length + spare.length) * P.bytesOf e := Nat.mul_le_mul_right _ (Nat.le_add_right _ _)
    exact Nat.le_trans h2 h1
  | _ => simp [wcount]
/-- A number that a word can hold. -/
def I64 (n : Int) : Prop := -9223372036854775808 ≤ n ∧ n ≤ 9223372036854775807
/-- A step as it can be handed in. -/
structure LOp.Ok (o : LOp) : Prop where
  kind : I64 o.kind
  x : I64 o.x
  y : I64 o.y
  k : I64 o.k.1 ∧ I64 o.k.2
  v : I64 o.v.1 ∧ I64 o.v.2
  s : o.s.size ≤ maxLen
theorem i64_wf {n : Int} (h : (Lit.int .i64 n).wf = true) : I64 n := by
  simp only [Lit.wf, Bool.and_eq_true, decide_eq_true_eq] at h
  have h1 : IntKind.i64.min = -9223372036854775808 := by kernel_rfl
  have h2 : IntKind.i64.max = 9223372036854775807 := by kernel_rfl
  rw [h1, h2] at h
  exact h
instance : Inhabited LOp := ⟨⟨0, 0, 0, (0, 0), (0, 0), ByteArray.empty⟩⟩

section
variable {H : Type} {enc : TypeId × Value → H} {w : World} {base : Nat} {held : Bool}

theorem co_int : Tryz.prog.cellsOf 3 = 1 := by kernel_rfl
theorem co_str : Tryz.prog.cellsOf 9 = 1 := by kernel_rfl
theorem co_val : Tryz.prog.cellsOf 33 = 2 := by kernel_rfl
theorem co_op : Tryz.prog.cellsOf 35 = 8 := by kernel_rfl

set_option maxRecDepth 100000 in
theorem open_val {fuel : Nat} {cs : List Value} {x : DataW H × List MemPlace} (h : DataW.trod enc Tryz.prog w base (fun _ => true) held fuel 33 cs = some x) : ∃ a b : Int, cs = [.int .i64 a, .int .i64 b] ∧ I64 a ∧ I64 b := by
  obtain ⟨xs, n, _, _, hl, hxl, hf⟩ := DataW.trod_struct Tryz.underlying33 h
  rw [co_val] at hl
  match cs, hl with
  | [u, v], _ =>
    match xs, hxl with
    | [y0, y1], _ =>
      have g0 : DataW.trod enc Tryz.prog w base (fun _ => true) held n 3 (([u, v].drop 0).take (Tryz.prog.cellsOf 3)) = some y0 := hf 0 _ rfl
      have g1 : DataW.trod enc Tryz.prog w base (fun _ => true) held n 3 (([u, v].drop 1).take (Tryz.prog.cellsOf 3)) = some y1 := hf 1 _ rfl
      rw [co_int] at g0 g1
      obtain ⟨a, ha, _, wa⟩ := DataW.trod_int Tryz.underlying3 g0
      obtain ⟨b, hb, _, wb⟩ := DataW.trod_int Tryz.underlying3 g1
      simp at ha hb
      exact ⟨a, b, by rw [ha, hb], i64_wf wa, i64_wf wb⟩
set_option maxRecDepth 100000 in
theorem open_op {fuel : Nat} {cs : List Value} {x : DataW H × List MemPlace} (h : DataW.trod enc Tryz.prog w base (fun _ => true) held fuel 35 cs = some x) : ∃ o : LOp, cs = o.cells ∧ o.Ok := by
  obtain ⟨xs, n, _, _, hl, hxl, hf⟩ := DataW.trod_struct Tryz.underlying35 h
  rw [co_op] at hl
  match cs, hl with
  | [u0, u1, u2, u3, u4, u5, u6, u7], _ =>
    match xs, hxl with
    | [y0, y1, y2, y3, y4, y5], _ =>
      have g0 : DataW.trod enc Tryz.prog w base (fun _ => true) held n 3 (([u0, u1, u2, u3, u4, u5, u6, u7].drop 0).take (Tryz.prog.cellsOf 3)) = some y0 := hf 0 _ rfl
      have g1 : DataW.trod enc Tryz.prog w base (fun _ => true) held n 3 (([u0, u1, u2, u3, u4, u5, u6, u7].drop 1).take (Tryz.prog.cellsOf 3)) = some y1 := hf 1 _ rfl
      have g2 : DataW.trod enc Tryz.prog w base (fun _ => true) held n 3 (([u0, u1, u2, u3, u4, u5, u6, u7].drop 2).take (Tryz.prog.cellsOf 3)) = some y2 := hf 2 _ rfl
      have g3 : DataW.trod enc Tryz.prog w base (fun _ => true) held n 33 (([u0, u1, u2, u3, u4, u5, u6, u7].drop 3).take (Tryz.prog.cellsOf 33)) = some y3 := hf 3 _ rfl
      have g4 : DataW.trod enc Tryz.prog w base (fun _ => true) held n 33 (([u0, u1, u2, u3, u4, u5, u6, u7].drop 5).take (Tryz.prog.cellsOf 33)) = some y4 := hf 4 _ rfl
      have g5 : DataW.trod enc Tryz.prog w base (fun _ => true) held n 9 (([u0, u1, u2, u3, u4, u5, u6, u7].drop 7).take (Tryz.prog.cellsOf 9)) = some y5 := hf 5 _ rfl
      rw [co_int] at g0 g1 g2
      rw [co_val] at g3 g4
      rw [co_str] at g5
      obtain ⟨a0, h0, _, w0⟩ := DataW.trod_int Tryz.underlying3 g0
      obtain ⟨a1, h1, _, w1⟩ := DataW.trod_int Tryz.underlying3 g1
      obtain ⟨a2, h2, _, w2⟩ := DataW.trod_int Tryz.underlying3 g2
      obtain ⟨k1, k2, h3, wk1, wk2⟩ := open_val g3
      obtain ⟨v1, v2, h4, wv1, wv2⟩ := open_val g4
      obtain ⟨t, h5, _, ht⟩ := DataW.trod_string Tryz.underlying9 g5
      simp at h0 h1 h2 h3 h4 h5
      refine ⟨⟨a0, a1, a2, (k1, k2), (v1, v2), t⟩, ?_, ⟨i64_wf w0, i64_wf w1, i64_wf w2, ⟨wk1, wk2⟩, ⟨wv1, wv2⟩, ht⟩⟩
      simp [LOp.cells, h0, h1, h2, h3, h4, h5]
/-- A script's cells, and how long it may be. -/
theorem open_ops {fuel : Nat} {cs : List Value} {x : DataW H × List MemPlace} (h : DataW.trod enc Tryz.prog w base (fun _ => true) held fuel 25 cs = some x) (hlt : ∀ q ∈ x.2, q.block < w.heap.size) :
    ∃ (a : Option Addr) (len cap : Nat) (ops : List LOp), cs = [.slice a len cap] ∧ ops.length = len ∧ (∀ o ∈ ops, o.Ok) ∧ OpsAt w a ops ∧ len ≤ wcount x.1 := by
  rcases open_slice Tryz.underlying25 h with ⟨rfl, rfl⟩ | ⟨a, len, cap, m, n, D, Pl, rfl, hb, hl, hm, hmm, rfl, hx⟩
  · exact ⟨none, 0, 0, [], rfl, rfl, by simp, fun h0 => by simp at h0, by simp⟩
  · simp only [if_true] at hmm
    subst hmm
    rw [co_op] at hx
    have each : ∀ i, i < m → ∃ o : LOp, o.Ok ∧ ∀ j v, o.cells[j]? = some v → w.cell? (a.add (i * 8 + j)) = some v := by
      intro i hi
      obtain ⟨cs', h1, h2⟩ := hx i hi
      obtain ⟨o, rfl, ht⟩ := open_op h2
      obtain ⟨_, _, hcell⟩ := World.cells?_some h1
      refine ⟨o, ht, fun j v hj => ?_⟩
      have hj8 : j < 8 := by
        have := (List.getElem?_eq_some_iff.1 hj).1
        simpa [LOp.cells] using this
      rw [← add_add, hcell j hj8]
      exact hj
    obtain ⟨f, hf⟩ := choose_lt each
    refine ⟨some a, len, m, (List.range len).map f, rfl, by simp, ?_, ?_, ?_⟩
    · intro o ho
      obtain ⟨i, hi, rfl⟩ := List.mem_map.1 ho
      exact (hf i (by have := List.mem_range.1 hi; omega)).1
    · intro h0
      have h0' : 0 < len := by simpa using h0
      obtain ⟨b, off, spot⟩ := a
      have hspot : spot = none := by
        have := (hf 0 (by omega)).2 0 _ rfl
        simpa [Addr.add] using World.cell?_spot this
      subst hspot
      refine ⟨b, off, rfl, ?_, ?_⟩
      · have := hlt (.cell b off) (List.mem_append.2 (.inl (MemPlace.mem_row.2 ⟨0, by rw [co_op]; omega, by simp⟩)))
        exact this
      · intro j o hj i v hv
        rw [List.getElem?_map, Option.map_eq_some_iff] at hj
        obtain ⟨j', hj', rfl⟩ := hj
        obtain ⟨hj1, hj2⟩ := List.getElem?_eq_some_iff.1 hj'
        simp at hj1 hj2
        subst hj2
        have := (hf j (by omega)).2 i v hv
        rw [addr_add] at this
        rw [Nat.add_assoc]
        exact this
    · show len ≤ wcount (DataW.slice ((List.range len).map D) _)
      simp [wcount]
end
end Go.Proofs.YtfoncalkgmeklaaGreat

import Derived.Test.YtfoncalkgmeklaaXwM16
import Derived.ChangeSlices
import Derived.SliceStrings
import Derived.ChangeMaps5
import Derived.SizedLaws

/- Lists that are handed in: flags, numbers, texts. -/
namespace Go.Proofs.Ytfoncalkgmeklaa
open Go.ChangeShapes Go.WideShapes Go.ChangeAt Go.RowKit Go.Deep

section
variable {H : Type} {enc : TypeId × Value → H} {w : World} {base : Nat} {held : Bool}
def wcount : DataW H → Nat
  | .slice e _ => e.length
  | _ => 0
theorem bulk_slice (e s : List (DataW H)) : e.length ≤ wcount (.slice e s) := Nat.le_refl _
theorem open_flags {fuel : Nat} {cs : List Value} {x : DataW H × List MemPlace} (h : DataW.trod enc Try.prog w base (fun _ => true) held fuel 22 cs = some x) (hlt : ∀ q ∈ x.2, q.block < w.heap.size) :
    ∃ (a : Option Addr) (len cap : Nat) (fs : List Bool), cs = [.slice a len cap] ∧ len ≤ cap ∧ fs.length = len ∧ (0 < len → ∃ b off, a = some ⟨b, off, none⟩ ∧ b < w.heap.size ∧ ∀ j x, fs[j]? = some x → w.cell? ⟨b, off + j, none⟩ = some (.bool x)) ∧ len ≤ wcount x.1 := by
  rcases open_bools Try.underlying22 Try.underlying4 (by kernel_rfl) h with ⟨hcs, _⟩ | ⟨a, len, cap, B, hcs, _, hlc, hm, rfl, hcell⟩
  · exact ⟨none, 0, 0, [], hcs, Nat.le_refl _, rfl, by omega, Nat.zero_le _⟩
  · refine ⟨some a, len, cap, (List.range len).map B, hcs, hlc, by simp, fun h0 => ?_, ?_⟩
    · obtain ⟨b, off, spot⟩ := a
      have hspot : spot = none := by simpa [Addr.add] using World.cell?_spot (hcell 0 (by omega))
      subst hspot
      have hbW : b < w.heap.size := hlt (.cell b off) (MemPlace.mem_row.2 ⟨0, by omega, by simp⟩)
      refine ⟨b, off, rfl, hbW, fun j x hj => ?_⟩
      rw [List.getElem?_map, Option.map_eq_some_iff] at hj
      obtain ⟨i, hi, rfl⟩ := hj
      rw [List.getElem?_eq_some_iff] at hi
      obtain ⟨hi1, hi2⟩ := hi
      simp at hi1 hi2
      subst hi2
      rw [← addr_add]
      exact hcell j (by omega)
    · simp only [boolRow]
      refine Nat.le_trans ?_ (bulk_slice _ _)
      simp
theorem open_nums {fuel : Nat} {cs : List Value} {x : DataW H × List MemPlace} (h : DataW.trod enc Try.prog w base (fun _ => true) held fuel 27 cs = some x) (hlt : ∀ q ∈ x.2, q.block < w.heap.size) :
    ∃ (a : Option Addr) (len cap : Nat) (l : List Int), cs = [.slice a len cap] ∧ l.length = len ∧ (∀ x ∈ l, I64 x) ∧ IntsAt w a l ∧ len ≤ wcount x.1 := by
  rcases open_ints Try.underlying27 Try.underlying3 (by kernel_rfl) h with ⟨hcs, _⟩ | ⟨a, len, cap, zs, hcs, _, hlc, hm, hz, rfl, hcell, hwf⟩
  · exact ⟨none, 0, 0, [], hcs, rfl, by simp, fun h0 => by simp at h0, Nat.zero_le _⟩
  · simp only [if_true] at hz
    refine ⟨some a, len, cap, zs.take len, hcs, by simp; omega, fun x hx => i64_wf (hwf x (List.mem_of_mem_take hx)), fun h0 => ?_, ?_⟩
    · have h0' : 0 < len := by simp at h0; omega
      obtain ⟨b, off, spot⟩ := a
      have hspot : spot = none := by simpa [Addr.add] using World.cell?_spot (hcell 0 (by omega))
      subst hspot
      have hbW : b < w.heap.size := hlt (.cell b off) (MemPlace.mem_row.2 ⟨0, by omega, by simp⟩)
      refine ⟨b, off, rfl, hbW, fun j x hj => ?_⟩
      have hj2 : j < len ∧ zs[j]? = some x := by
        rw [List.getElem?_take] at hj
        split at hj
        · rename_i hlt; exact ⟨hlt, hj⟩
        · exact absurd hj (by simp)
      have := hcell j (by omega)
      rw [addr_add, show zs.getD j 0 = x from by simp [List.getD, hj2.2]] at this
      exact this
    · refine Nat.le_trans ?_ (bulk_slice _ _)
      simp only [lits, List.length_map, List.length_take]
      omega
/-- Where texts lie. -/
def TextsAt (w : World) (a : Option Addr) (l : List ByteArray) : Prop :=
  0 < l.length → ∃ b off, a = some ⟨b, off, none⟩ ∧ b < w.heap.size ∧ ∀ j x, l[j]? = some x → w.cell? ⟨b, off + j, none⟩ = some (.string x)
end
end Go.Proofs.Ytfoncalkgmeklaa

/- A script of gripkeep that is handed in: its cells. -/
namespace Go.Proofs.Ytfoncalkgmeklaa
open Go.ChangeShapes Go.WideShapes Go.ChangeAt Go.RowKit Go.Deep

section
variable {H : Type} {enc : TypeId × Value → H} {w : World} {base : Nat} {held : Bool}

theorem co_kop : Try.prog.cellsOf 35 = 8 := by kernel_rfl
set_option maxRecDepth 100000 in
theorem kopen_op {fuel : Nat} {cs : List Value} {x : DataW H × List MemPlace} (h : DataW.trod enc Try.prog w base (fun _ => true) held fuel 35 cs = some x) : ∃ o : LOp, cs = o.cells ∧ o.Ok := by
  obtain ⟨xs, n, _, _, hl, hxl, hf⟩ := DataW.trod_struct Try.underlying35 h
  rw [co_kop] at hl
  match cs, hl with
  | [u0, u1, u2, u3, u4, u5, u6, u7], _ =>
    match xs, hxl with
    | [y0, y1, y2, y3, y4, y5], _ =>
      have g0 : DataW.trod enc Try.prog w base (fun _ => true) held n 3 (([u0, u1, u2, u3, u4, u5, u6, u7].drop 0).take (Try.prog.cellsOf 3)) = some y0 := hf 0 _ rfl
      have g1 : DataW.trod enc Try.prog w base (fun _ => true) held n 3 (([u0, u1, u2, u3, u4, u5, u6, u7].drop 1).take (Try.prog.cellsOf 3)) = some y1 := hf 1 _ rfl
      have g2 : DataW.trod enc Try.prog w base (fun _ => true) held n 3 (([u0, u1, u2, u3, u4, u5, u6, u7].drop 2).take (Try.prog.cellsOf 3)) = some y2 := hf 2 _ rfl
      have g3 : DataW.trod enc Try.prog w base (fun _ => true) held n 30 (([u0, u1, u2, u3, u4, u5, u6, u7].drop 3).take (Try.prog.cellsOf 30)) = some y3 := hf 3 _ rfl
      have g4 : DataW.trod enc Try.prog w base (fun _ => true) held n 30 (([u0, u1, u2, u3, u4, u5, u6, u7].drop 5).take (Try.prog.cellsOf 30)) = some y4 := hf 4 _ rfl
      have g5 : DataW.trod enc Try.prog w base (fun _ => true) held n 9 (([u0, u1, u2, u3, u4, u5, u6, u7].drop 7).take (Try.prog.cellsOf 9)) = some y5 := hf 5 _ rfl
      rw [co_int] at g0 g1 g2
      rw [co_val] at g3 g4
      rw [co_str] at g5
      obtain ⟨a0, h0, _, w0⟩ := DataW.trod_int Try.underlying3 g0
      obtain ⟨a1, h1, _, w1⟩ := DataW.trod_int Try.underlying3 g1
      obtain ⟨a2, h2, _, w2⟩ := DataW.trod_int Try.underlying3 g2
      obtain ⟨k1, k2, h3, wk1, wk2⟩ := open_val g3
      obtain ⟨v1, v2, h4, wv1, wv2⟩ := open_val g4
      obtain ⟨t, h5, _, ht⟩ := DataW.trod_string Try.underlying9 g5
      simp at h0 h1 h2 h3 h4 h5
      refine ⟨⟨a0, a1, a2, (k1, k2), (v1, v2), t⟩, ?_, ⟨i64_wf w0, i64_wf w1, i64_wf w2, ⟨wk1, wk2⟩, ⟨wv1, wv2⟩, ht⟩⟩
      simp [LOp.cells, h0, h1, h2, h3, h4, h5]
set_option maxRecDepth 100000 in
theorem kopen_arg {r : Reach} {b0 : Nat} {v : Value} {d : DataW H} {p : List MemPlace} (hv : Value.okWide Try.prog w r b0 35 v) (h : ∃ fuel, DataW.trod enc Try.prog w base (fun _ => true) held fuel 35 v.cells.toList = some (d, p)) : ∃ o : LOp, v = o.val ∧ o.Ok := by
  obtain ⟨cs, rfl, _⟩ := okWide_struct Try.underlying35 hv
  obtain ⟨fuel, hf⟩ := h
  obtain ⟨o, hcs, hok⟩ := kopen_op hf
  refine ⟨o, ?_, hok⟩
  have hcs' : cs.toList = o.cells := hcs
  obtain ⟨l⟩ := cs
  simp only at hcs'
  subst hcs'
  rfl
/-- A script's cells, and how long it may be. -/
theorem kopen_ops {fuel : Nat} {cs : List Value} {x : DataW H × List MemPlace} (h : DataW.trod enc Try.prog w base (fun _ => true) held fuel 23 cs = some x) (hlt : ∀ q ∈ x.2, q.block < w.heap.size) :
    ∃ (a : Option Addr) (len cap : Nat) (ops : List LOp), cs = [.slice a len cap] ∧ ops.length = len ∧ (∀ o ∈ ops, o.Ok) ∧ OpsAt w a ops ∧ len ≤ wcount x.1 := by
  rcases open_slice Try.underlying23 h with ⟨rfl, rfl⟩ | ⟨a, len, cap, m, n, D, Pl, rfl, hb, hl, hm, hmm, rfl, hx⟩
  · exact ⟨none, 0, 0, [], rfl, rfl, by simp, fun h0 => by simp at h0, by simp⟩
  · simp only [if_true] at hmm
    subst hmm
    rw [co_kop] at hx
    have each : ∀ i, i < m → ∃ o : LOp, o.Ok ∧ ∀ j v, o.cells[j]? = some v → w.cell? (a.add (i * 8 + j)) = some v := by
      intro i hi
      obtain ⟨cs', h1, h2⟩ := hx i hi
      obtain ⟨o, rfl, ht⟩ := kopen_op h2
      obtain ⟨_, _, hcell⟩ := World.cells?_some h1
      refine ⟨o, ht, fun j v hj => ?_⟩
      have hj8 : j < 8 := by
        have := (List.getElem?_eq_some_iff.1 hj).1
        simpa [LOp.cells] using this
      rw [← add_add, hcell j hj8]
      exact hj
    obtain ⟨f, hf⟩ := choose_lt each
    refine ⟨some a, len, m, (List.range len).map f, rfl, by simp, ?_, ?_, ?_⟩
    · intro o ho
      obtain ⟨i, hi, rfl⟩ := List.mem_map.1 ho
      exact (hf i (by have := List.mem_range.1 hi; omega)).1
    · intro h0
      have h0' : 0 < len := by simpa using h0
      obtain ⟨b, off, spot⟩ := a
      have hspot : spot = none := by
        have := (hf 0 (by omega)).2 0 _ rfl
        simpa [Addr.add] using World.cell?_spot this
      subst hspot
      refine ⟨b, off, rfl, ?_, ?_⟩
      · have := hlt (.cell b off) (List.mem_append.2 (.inl (MemPlace.mem_row.2 ⟨0, by rw [co_kop]; omega, by simp⟩)))
        exact this
      · intro j o hj i v hv
        rw [List.getElem?_map, Option.map_eq_some_iff] at hj
        obtain ⟨j', hj', rfl⟩ := hj
        obtain ⟨hj1, hj2⟩ := List.getElem?_eq_some_iff.1 hj'
        simp at hj1 hj2
        subst hj2
        have := (hf j (by omega)).2 i v hv
        rw [addr_add] at this
        rw [Nat.add_assoc]
        exact this
    · show len ≤ wcount (DataW.slice ((List.range len).map D) _)
      simp [wcount]
theorem wcount_le {P : Program} {ts : List TypeId} {ds : List (DataW H)} (h : (DataW.weightsEach P ts ds).all (· ≤ reachBytes) = true) {j : Nat} {t e : TypeId} {d : DataW H} (ht : ts[j]? = some t) (hd : ds[j]? = some d) (hu : P.underlying t = some (.slice e)) : wcount d * P.bytesOf e ≤ reachBytes := by
  cases d with
  | slice elems spare =>
    have h1 := sized_slice h ht hd hu
    have h2 : elems.length * P.bytesOf e ≤ (elems.length + spare.length) * P.bytesOf e := Nat.mul_le_mul_right _ (Nat.le_add_right _ _)
    exact Nat.le_trans h2 h1
  | _ => simp [wcount]
end
end Go.Proofs.Ytfoncalkgmeklaa

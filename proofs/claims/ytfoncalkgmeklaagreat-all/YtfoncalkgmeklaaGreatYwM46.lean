/- Lists that are handed in: flags, numbers, texts. -/
import Derived.Test.YtfoncalkgmeklaaGreatYwM16
import Derived.ChangeSlices
import Derived.SliceStrings
import Derived.ChangeMaps5
namespace Go.Proofs.YtfoncalkgmeklaaGreat
open Go.ChangeShapes Go.WideShapes Go.ChangeAt Go.RowKit Go.Deep

section
variable {H : Type} {enc : TypeId × Value → H} {w : World} {base : Nat} {held : Bool}
theorem bulk_slice (e s : List (DataW H)) : e.length ≤ wcount (.slice e s) := Nat.le_refl _
theorem open_flags {fuel : Nat} {cs : List Value} {x : DataW H × List MemPlace} (h : DataW.trod enc Tryz.prog w base (fun _ => true) held fuel 22 cs = some x) (hlt : ∀ q ∈ x.2, q.block < w.heap.size) :
    ∃ (a : Option Addr) (len cap : Nat) (fs : List Bool), cs = [.slice a len cap] ∧ len ≤ cap ∧ fs.length = len ∧ (0 < len → ∃ b off, a = some ⟨b, off, none⟩ ∧ b < w.heap.size ∧ ∀ j x, fs[j]? = some x → w.cell? ⟨b, off + j, none⟩ = some (.bool x)) ∧ len ≤ wcount x.1 := by
  rcases open_bools Tryz.underlying22 Tryz.underlying4 (by kernel_rfl) h with ⟨hcs, _⟩ | ⟨a, len, cap, B, hcs, _, hlc, hm, rfl, hcell⟩
  · exact ⟨none, 0, 0, [], hcs, Nat.le_refl _, rfl, by omega, Nat.zero_le _⟩
  · refine ⟨some a, len, cap, (List.range len).map B, hcs, hlc, by simp, fun h0 => ?_, ?_⟩
    · obtain ⟨b, off, spot⟩ := a
      have hspot : spot = none := by simpa [Addr.add] using World.cell?_spot (hcell 0 (by omega))
      subst hspot
      have hbW : b < w.heap.size := hlt (.cell b off) (MemPlace.mem_row.2 ⟨0, by omega, by simp⟩)
      refine ⟨b, off, rfl, hbW, fun j x hj => ?_⟩
      rw [List.getElem?_map, Option.map_eq_some_iff] at hj
      obtain ⟨i, hi, rfl⟩ := hj
      rw [List.getElem?_eq_some_iff] at hi
      obtain ⟨hi1, hi2⟩ := hi
      simp at hi1 hi2
      subst hi2
      rw [← addr_add]
      exact hcell j (by omega)
    · simp only [boolRow]
      refine Nat.le_trans ?_ (bulk_slice _ _)
      simp
theorem open_nums {fuel : Nat} {cs : List Value} {x : DataW H × List MemPlace} (h : DataW.trod enc Tryz.prog w base (fun _ => true) held fuel 26 cs = some x) (hlt : ∀ q ∈ x.2, q.block < w.heap.size) :
    ∃ (a : Option Addr) (len cap : Nat) (l : List Int), cs = [.slice a len cap] ∧ l.length = len ∧ (∀ x ∈ l, I64 x) ∧ IntsAt w a l ∧ len ≤ wcount x.1 := by
  rcases open_ints Tryz.underlying26 Tryz.underlying3 (by kernel_rfl) h with ⟨hcs, _⟩ | ⟨a, len, cap, zs, hcs, _, hlc, hm, hz, rfl, hcell, hwf⟩
  · exact ⟨none, 0, 0, [], hcs, rfl, by simp, fun h0 => by simp at h0, Nat.zero_le _⟩
  · simp only [if_true] at hz
    refine ⟨some a, len, cap, zs.take len, hcs, by simp; omega, fun x hx => i64_wf (hwf x (List.mem_of_mem_take hx)), fun h0 => ?_, ?_⟩
    · have h0' : 0 < len := by simp at h0; omega
      obtain ⟨b, off, spot⟩ := a
      have hspot : spot = none := by simpa [Addr.add] using World.cell?_spot (hcell 0 (by omega))
      subst hspot
      have hbW : b < w.heap.size := hlt (.cell b off) (MemPlace.mem_row.2 ⟨0, by omega, by simp⟩)
      refine ⟨b, off, rfl, hbW, fun j x hj => ?_⟩
      have hj2 : j < len ∧ zs[j]? = some x := by
        rw [List.getElem?_take] at hj
        split at hj
        · rename_i hlt; exact ⟨hlt, hj⟩
        · exact absurd hj (by simp)
      have := hcell j (by omega)
      rw [addr_add, show zs.getD j 0 = x from by simp [List.getD, hj2.2]] at this
      exact this
    · refine Nat.le_trans ?_ (bulk_slice _ _)
      simp only [lits, List.length_map, List.length_take]
      omega
/-- Where texts lie. -/
def TextsAt (w : World) (a : Option Addr) (l : List ByteArray) : Prop :=
  0 < l.length → ∃ b off, a = some ⟨b, off, none⟩ ∧ b < w.heap.size ∧ ∀ j x, l[j]? = some x → w.cell? ⟨b, off + j, none⟩ = some (.string x)
end
end Go.Proofs.YtfoncalkgmeklaaGreat

/- griplaw.Arrays, of whatever program keeps its calls' contracts. (Written by wip/gensaid.py.) -/
import Derived.Test.YtfoncalkgmeklaaGreatYwM16
namespace Go.Proofs.YtfoncalkgmeklaaGreat
open Go.RowKit

def kindsArrays : List Int := [1, 2, 3, 8, 9, 10, 11]
set_option maxRecDepth 100000 in
set_option maxHeartbeats 1000000 in
theorem walk_arrays {G : World → Nat → R → List Nat → Prop} {J : R → Prop} (hG : Stays G) (hnew : PNew G) (hbad : PNewBad) (sa : Option Addr) (sn sc : Nat) (ops : List LOp) (w : World)
    (hsn : ops.length = sn) (hsb : sn ≤ 1954687338211) (htx : ∀ o ∈ ops, o.s.size ≤ maxLen) (hop : OpsAt w sa ops) (hJ0 : J (R.init 512 []))
    (hJ : ∀ s o, J s → RAll s → o ∈ ops → o.kind ∈ kindsArrays → 34 ≤ s.left → J (s.stepQ o))
    (hstep : ∀ bh s m o, J s → RAll s → RUp m s → m ≤ 1954687338211 → o ∈ ops → o.kind ∈ kindsArrays → 34 ≤ s.left → PStep G bh s o)
    (hend : ∀ bh s m, J s → RAll s → RUp m s → m ≤ 1954687338211 → PEnd G bh s) :
    Calls Tryz.prog 5 #[.slice sa sn sc] w fun e w' => e = .returned (.bool true) ∧ Chg [] w w' := by
  have hch : Chg [] w (w.alloc (.cells #[.int .i64 1, .int .i64 2, .int .i64 3, .int .i64 8, .int .i64 9, .int .i64 10, .int .i64 11] 3)) := (Chg.refl [] w).alloc _
  have hkb : Blk (w.alloc (.cells #[.int .i64 1, .int .i64 2, .int .i64 3, .int .i64 8, .int .i64 9, .int .i64 10, .int .i64 11] 3)) w.heap.size (kindsArrays.map (Value.int .i64)) 3 := Blk.new w (kindsArrays.map (Value.int .i64)) _
  have hcall := plays_any (J := J) hG hnew hbad 512 none 0 0 [] sa sn sc ops (some ⟨w.heap.size, 0, none⟩) 7 7 kindsArrays true (w.alloc (.cells #[.int .i64 1, .int .i64 2, .int .i64 3, .int .i64 8, .int .i64 9, .int .i64 10, .int .i64 11] 3)) (by omega) rfl (fun h => by omega) hsn hsb htx
    (fun h0 => by
      obtain ⟨b, off, e, hb, hc⟩ := hop h0
      exact ⟨b, off, e, Nat.lt_of_lt_of_le hb hch.size, fun j o hj i v hv => by rw [hch.cell hb (by simp)]; exact hc j o hj i v hv⟩)
    rfl (by omega) (fun _ => ⟨w.heap.size, 0, rfl, hkb.lt, fun j x hj => by rw [Nat.zero_add]; exact hkb.cell_of (by rw [List.getElem?_map, hj]; rfl)⟩)
    (fun _ _ _ => hJ0) (fun s o h1 h2 h3 h4 h5 => hJ s o h1 h2 h3 h4 (h5 rfl)) (fun bh s m o h1 h2 h3 h4 h5 h6 h7 => hstep bh s m o h1 h2 h3 h4 h5 h6 (h7 rfl)) hend
  have HC := hide hcall; have HCH := hide hch; clear hcall hch hkb hop htx hJ hstep hend hsn hJ0
  go_enter Tryz.func5, Tryz.ntmps5
  go_wp2_with fail
  refine (unhide HC).mono ?_
  rintro e w2 ⟨rfl, hc⟩
  have HC2 := hide hc; clear hc
  go_wp2
  go_ret
  exact ⟨rfl, (unhide HCH).trans (unhide HC2)⟩
end Go.Proofs.YtfoncalkgmeklaaGreat

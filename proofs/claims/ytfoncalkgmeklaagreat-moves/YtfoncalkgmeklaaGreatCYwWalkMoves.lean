/- griplaw.Moves, of whatever program keeps its calls' contracts. (Written by wip/gensaid.py.) -/
import Derived.Test.YtfoncalkgmeklaaGreatYwM16
namespace Go.Proofs.YtfoncalkgmeklaaGreat
open Go.RowKit

def kindsMoves : List Int := [1, 2, 3, 6, 7, 10, 13, 16, 17, 19, 20, 21, 22, 23]
set_option maxRecDepth 100000 in
set_option maxHeartbeats 1000000 in
theorem walk_moves {G : World → Nat → R → List Nat → Prop} {J : R → Prop} (hG : Stays G) (hnew : PNew G) (hbad : PNewBad) (l : Int) (a : Option Addr) (n c : Nat) (fs : List Bool) (sa : Option Addr) (sn sc : Nat) (ops : List LOp) (w : World)
    (hn : n ≤ 140737488351232) (hl : fs.length = n) (hsrc : 0 < n → ∃ b off, a = some ⟨b, off, none⟩ ∧ b < w.heap.size ∧ ∀ j x, fs[j]? = some x → w.cell? ⟨b, off + j, none⟩ = some (.bool x))
    (hsn : ops.length = sn) (hsb : sn ≤ 1954687338211) (htx : ∀ o ∈ ops, o.s.size ≤ maxLen) (hop : OpsAt w sa ops) (hJ0 : 1 ≤ l → l ≤ 512 → n ≤ 64 → J (R.init l fs))
    (hJ : ∀ s o, J s → RAll s → o ∈ ops → o.kind ∈ kindsMoves → J (s.stepQ o))
    (hstep : ∀ bh s m o, J s → RAll s → RUp m s → m ≤ 1954687338211 → o ∈ ops → o.kind ∈ kindsMoves → PStep G bh s o)
    (hend : ∀ bh s m, J s → RAll s → RUp m s → m ≤ 1954687338211 → PEnd G bh s) :
    Calls Tryz.prog 8 #[.int .i64 l, .slice a n c, .slice sa sn sc] w fun e w' => e = .returned (.bool true) ∧ Chg [] w w' := by
  have hch : Chg [] w (w.alloc (.cells #[.int .i64 1, .int .i64 2, .int .i64 3, .int .i64 6, .int .i64 7, .int .i64 10, .int .i64 13, .int .i64 16, .int .i64 17, .int .i64 19, .int .i64 20, .int .i64 21, .int .i64 22, .int .i64 23] 3)) := (Chg.refl [] w).alloc _
  have hkb : Blk (w.alloc (.cells #[.int .i64 1, .int .i64 2, .int .i64 3, .int .i64 6, .int .i64 7, .int .i64 10, .int .i64 13, .int .i64 16, .int .i64 17, .int .i64 19, .int .i64 20, .int .i64 21, .int .i64 22, .int .i64 23] 3)) w.heap.size (kindsMoves.map (Value.int .i64)) 3 := Blk.new w (kindsMoves.map (Value.int .i64)) _
  have hcall := plays_any (J := J) hG hnew hbad l a n c fs sa sn sc ops (some ⟨w.heap.size, 0, none⟩) 14 14 kindsMoves false (w.alloc (.cells #[.int .i64 1, .int .i64 2, .int .i64 3, .int .i64 6, .int .i64 7, .int .i64 10, .int .i64 13, .int .i64 16, .int .i64 17, .int .i64 19, .int .i64 20, .int .i64 21, .int .i64 22, .int .i64 23] 3)) hn hl
    (fun h0 => by
      obtain ⟨b, off, e, hb, hc⟩ := hsrc h0
      exact ⟨b, off, e, Nat.lt_of_lt_of_le hb hch.size, fun j x hj => by rw [hch.cell hb (by simp)]; exact hc j x hj⟩) hsn hsb htx
    (fun h0 => by
      obtain ⟨b, off, e, hb, hc⟩ := hop h0
      exact ⟨b, off, e, Nat.lt_of_lt_of_le hb hch.size, fun j o hj i v hv => by rw [hch.cell hb (by simp)]; exact hc j o hj i v hv⟩)
    rfl (by omega) (fun _ => ⟨w.heap.size, 0, rfl, hkb.lt, fun j x hj => by rw [Nat.zero_add]; exact hkb.cell_of (by rw [List.getElem?_map, hj]; rfl)⟩)
    hJ0 (fun s o h1 h2 h3 h4 h5 => hJ s o h1 h2 h3 h4) (fun bh s m o h1 h2 h3 h4 h5 h6 h7 => hstep bh s m o h1 h2 h3 h4 h5 h6) hend
  have HC := hide hcall; have HCH := hide hch; clear hcall hch hkb hop htx hJ hstep hend hsn hJ0 hsrc hl
  go_enter Tryz.func8, Tryz.ntmps8
  go_wp2_with fail
  refine (unhide HC).mono ?_
  rintro e w2 ⟨rfl, hc⟩
  have HC2 := hide hc; clear hc
  go_wp2
  go_ret
  exact ⟨rfl, (unhide HCH).trans (unhide HC2)⟩
end Go.Proofs.YtfoncalkgmeklaaGreat

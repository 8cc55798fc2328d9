/- griplaw.Moves at this program. -/
import Derived.Test.YtfoncalkgmeklaaGreatCYwWalkMoves
import Derived.Test.YtfoncalkgmeklaaGreatYwM34
namespace Go.Proofs.YtfoncalkgmeklaaGreat
open Go.RowKit

theorem holds_moves (w : World) (l : Int) (_ : I64 l) (a : Option Addr) (n c : Nat) (fs : List Bool) (_ : n ≤ c) (hl : fs.length = n) (hf : 0 < fs.length → ∃ b off, a = some ⟨b, off, none⟩ ∧ b < w.heap.size ∧ ∀ j x, fs[j]? = some x → w.cell? ⟨b, off + j, none⟩ = some (.bool x)) (hb : n ≤ 140737488351232) (sa : Option Addr) (sn sc : Nat) (ops : List LOp) (hsn : ops.length = sn) (hok : ∀ o ∈ ops, o.Ok) (hop : OpsAt w sa ops) (hsb : sn ≤ 1954687338211) :
    Calls Tryz.prog 8 #[.int .i64 l, .slice a n c, .slice sa sn sc] w fun e w' => e = .returned (.bool true) ∧ Chg [] w w' :=
  walk_moves (J := fun _ => True) stays_GG pnew_GG pnewbad_GG l a n c fs sa sn sc ops w (by omega) hl (fun h => hf (by omega)) hsn hsb (fun o ho => (hok o ho).s) hop (fun _ _ _ => trivial)
    (fun _ _ _ _ _ _ => trivial)
    (fun _ _ _ _ _ ha hu hm ho _ => pstep_GG (hok _ ho) ha hu (by omega))
    (fun _ _ _ _ ha hu hm => pend_GG ha hu (by omega))
end Go.Proofs.YtfoncalkgmeklaaGreat

/- griplaw.Tables at this program. -/
import Derived.Test.YtfoncalkgmeklaaGreatCYwWalkTables
import Derived.Test.YtfoncalkgmeklaaGreatYwM34
namespace Go.Proofs.YtfoncalkgmeklaaGreat
open Go.RowKit

theorem holds_tables (sa : Option Addr) (sn sc : Nat) (ops : List LOp) (w : World) (hsn : ops.length = sn) (hsb : sn ≤ 1954687338211) (hok : ∀ o ∈ ops, o.Ok) (hop : OpsAt w sa ops) :
    Calls Tryz.prog 6 #[.slice sa sn sc] w fun e w' => e = .returned (.bool true) ∧ Chg [] w w' :=
  walk_tables (J := fun _ => True) stays_GG pnew_GG pnewbad_GG sa sn sc ops w hsn hsb (fun o ho => (hok o ho).s) hop trivial
    (fun _ _ _ _ _ _ _ => trivial)
    (fun _ _ _ _ _ ha hu hm ho _ _ => pstep_GG (hok _ ho) ha hu (by omega))
    (fun _ _ _ _ ha hu hm => pend_GG ha hu (by omega))
end Go.Proofs.YtfoncalkgmeklaaGreat

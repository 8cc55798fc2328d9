/-
  gripkeep.Roomy, called with any arguments whose bulk is at most 1048576, returns true and leaves its arguments as they were (the given statement RoomyUptoSaid, at the commit of the claim).
  Conditions: the bound on the bulk alone, which is the statement's own.
-/
import Derived.Test.YtfoncalkgmeklaaCKSaidRoomy
import Derived.Test.YtfoncalkgmeklaaCKProg
namespace Go.Proofs.Ytfoncalkgmeklaa

theorem roomy_holds : Rows.RoomyUptoSaid := roomy_of kp_GG
end Go.Proofs.Ytfoncalkgmeklaa

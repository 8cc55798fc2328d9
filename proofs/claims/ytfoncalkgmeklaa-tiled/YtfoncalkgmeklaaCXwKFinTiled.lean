/-
  gripkeep.Tiled, called with any arguments, returns true and leaves its arguments as they were (the given statement TiledSaid, at the commit of the claim).
  Conditions: none of ours; each slice and string that is read is within the form's own reach.
-/
import Derived.Test.YtfoncalkgmeklaaCXwKSaidTiled
import Derived.Test.YtfoncalkgmeklaaCXwKProg
namespace Go.Proofs.Ytfoncalkgmeklaa

theorem tiled_holds : Rows.TiledSaid := tiled_of kp_GG
end Go.Proofs.Ytfoncalkgmeklaa

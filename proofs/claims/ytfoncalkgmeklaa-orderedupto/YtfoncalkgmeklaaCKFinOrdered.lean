/-
  gripkeep.Ordered, called with any arguments whose bulk is at most 1048576, returns true and leaves its arguments as they were (the given statement OrderedUptoSaid, at the commit of the claim).
  Conditions: the bound on the bulk alone, which is the statement's own.
-/
import Derived.Test.YtfoncalkgmeklaaCKSaidOrdered
import Derived.Test.YtfoncalkgmeklaaCKProg
namespace Go.Proofs.Ytfoncalkgmeklaa

theorem ordered_holds : Rows.OrderedUptoSaid := ordered_of kp_GG
end Go.Proofs.Ytfoncalkgmeklaa

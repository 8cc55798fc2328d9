/-
  gripkeep.Ordered, called with any arguments, returns true and leaves its arguments as they were (the given statement OrderedSaid, at the commit of the claim).
  Conditions: none of ours; each slice and string that is read is within the form's own reach.
-/
import Derived.Test.YtfoncalkgmeklaaCXwKSaidOrdered
import Derived.Test.YtfoncalkgmeklaaCXwKProg
namespace Go.Proofs.Ytfoncalkgmeklaa

theorem ordered_holds : Rows.OrderedSaid := ordered_of kp_GG
end Go.Proofs.Ytfoncalkgmeklaa

/-
  gripkeep.Numbered, called with any arguments, returns true and leaves its arguments as they were (the given statement NumberedSaid, at the commit of the claim).
  Conditions: none of ours; each slice and string that is read is within the form's own reach.
-/
import Derived.Test.YtfoncalkgmeklaaCXwKSaidNumbered
import Derived.Test.YtfoncalkgmeklaaCXwKProg
namespace Go.Proofs.Ytfoncalkgmeklaa

theorem numbered_holds : Rows.NumberedSaid := numbered_of kp_GG
end Go.Proofs.Ytfoncalkgmeklaa

/-
  gripkeep.Scoped, called with any arguments, returns true and leaves its arguments as they were (the given statement ScopedSaid, at the commit of the claim).
  Conditions: none of ours; each slice and string that is read is within the form's own reach.
-/
import Derived.Test.YtfoncalkgmeklaaCXwKSaidScoped
import Derived.Test.YtfoncalkgmeklaaCXwKProg
namespace Go.Proofs.Ytfoncalkgmeklaa

theorem scoped_holds : Rows.ScopedSaid := scoped_of kp_GG
end Go.Proofs.Ytfoncalkgmeklaa

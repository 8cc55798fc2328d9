/-
  gripkeep.Scoped, called with any arguments whose bulk is at most 1048576, returns true and leaves its arguments as they were (the given statement ScopedUptoSaid, at the commit of the claim).
  Conditions: the bound on the bulk alone, which is the statement's own.
-/
import Derived.Test.YtfoncalkgmeklaaCKSaidScoped
import Derived.Test.YtfoncalkgmeklaaCKProg
namespace Go.Proofs.Ytfoncalkgmeklaa

theorem scoped_holds : Rows.ScopedUptoSaid := scoped_of kp_GG
end Go.Proofs.Ytfoncalkgmeklaa

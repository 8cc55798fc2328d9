/-
  gripkeep.Survives, called with any arguments whose bulk is at most 1048576, returns true and leaves its arguments as they were (the given statement SurvivesUptoSaid, at the commit of the claim).
  Conditions: the bound on the bulk alone, which is the statement's own.
-/
import Derived.Test.YtfoncalkgmeklabCKSaidSurvives
import Derived.Test.YtfoncalkgmeklabCKProg
namespace Go.Proofs.Ytfoncalkgmeklab

theorem survives_holds : Rows.SurvivesUptoSaid := survives_of kp_GG
end Go.Proofs.Ytfoncalkgmeklab

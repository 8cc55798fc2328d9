/-
  gripkeep.Survives, called with any arguments, returns true and leaves its arguments as they were (the given statement SurvivesSaid, at the commit of the claim).
  Conditions: none of ours; each slice and string that is read is within the form's own reach.
-/
import Derived.Test.YtfoncalkgmeklabCXwKSaidSurvives
import Derived.Test.YtfoncalkgmeklabCXwKProg
namespace Go.Proofs.Ytfoncalkgmeklab

theorem survives_holds : Rows.SurvivesSaid := survives_of kp_GG
end Go.Proofs.Ytfoncalkgmeklab

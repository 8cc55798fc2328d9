import Derived.Test.YtfoncalkgmeklabXwM7
import Derived.Test.YtfoncalkgmeklabXwM8

/- handles: each of these calls, of the program and of the document, answers the same, if each keeps its contract. (Written by wip/genlaw.py.) -/
namespace Go.Proofs.Ytfoncalkgmeklab
open Go.RowKit

end Go.Proofs.Ytfoncalkgmeklab

/- looks: the flags and the lists that came out hold what their owner wrote. -/
namespace Go.Proofs.Ytfoncalkgmeklab
open Go.RowKit

end Go.Proofs.Ytfoncalkgmeklab

/- step: which of the four a step goes to. -/
namespace Go.Proofs.Ytfoncalkgmeklab
open Go.RowKit

end Go.Proofs.Ytfoncalkgmeklab

import Derived.Test.YtfoncalkgmeklaaXwM7
import Derived.Test.YtfoncalkgmeklaaXwM8

/- handles: each of these calls, of the program and of the document, answers the same, if each keeps its contract. (Written by wip/genlaw.py.) -/
namespace Go.Proofs.Ytfoncalkgmeklaa
open Go.RowKit

end Go.Proofs.Ytfoncalkgmeklaa

/- looks: the flags and the lists that came out hold what their owner wrote. -/
namespace Go.Proofs.Ytfoncalkgmeklaa
open Go.RowKit

end Go.Proofs.Ytfoncalkgmeklaa

/- step: which of the four a step goes to. -/
namespace Go.Proofs.Ytfoncalkgmeklaa
open Go.RowKit

end Go.Proofs.Ytfoncalkgmeklaa

/- values: Set, Put, Cut: each of these calls, of the program and of the document, answers the same, if each keeps its contract. (Written by wip/genlaw.py.) -/
import Derived.Test.YtfoncalkgmeklaaXwM10
namespace Go.Proofs.Ytfoncalkgmeklaa
open Go.RowKit

end Go.Proofs.Ytfoncalkgmeklaa

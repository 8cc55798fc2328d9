/-
  gripkeep.Tiled, called with any arguments whose bulk is at most 1048576, returns true and leaves its arguments as they were (the given statement TiledUptoSaid, at the commit of the claim).
  Conditions: the bound on the bulk alone, which is the statement's own.
-/
import Derived.Test.YtfoncalkgmeklaaKSaidTiled
import Derived.Test.YtfoncalkgmeklaaKProg
namespace Go.Proofs.Ytfoncalkgmeklaa

theorem tiled_holds : Rows.TiledUptoSaid := tiled_of kp_GG
end Go.Proofs.Ytfoncalkgmeklaa

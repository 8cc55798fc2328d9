/- The program, as gripkeep's statements need it: New, and every step. No condition. -/
import Derived.Test.YtfoncalkgmeklaaXwM42
import Derived.Test.YtfoncalkgmeklaaXwM34
namespace Go.Proofs.Ytfoncalkgmeklaa
open Go.RowKit

theorem kp_GG : KP GG (fun _ => True) where
  stays := stays_GG
  new := new_GG
  bad := by
    intro l a n c w h
    refine (gripNew_bad l a n c w h).mono ?_
    rintro e w' ⟨rfl, rfl⟩
    exact ⟨rfl, Chg.refl _ _⟩
  init := fun _ _ _ _ _ => trivial
  keep := fun _ _ _ _ _ => trivial
  step := fun _ _ _ _ _ ha hu hm ho => pstep_GG ho ha hu hm
end Go.Proofs.Ytfoncalkgmeklaa

/- griplaw.News at this program. -/
import Derived.Test.YtfoncalkgmeklaaGreatM15
import Derived.Test.YtfoncalkgmeklaaGreatM34
import Derived.ProofKit
import Derived.OpenShut
import Derived.SizedLaws
namespace Go.Proofs.YtfoncalkgmeklaaGreat
open Go.RowKit

theorem news_walk (l : Int) (a : Option Addr) (n c : Nat) (fs : List Bool) (w : World) (hn : n ≤ 140737488351232) (hl : fs.length = n) (hsrc : 0 < n → ∃ b off, a = some ⟨b, off, none⟩ ∧ b < w.heap.size ∧ ∀ j x, fs[j]? = some x → w.cell? ⟨b, off + j, none⟩ = some (.bool x)) :
    Calls Tryz.prog 3 #[.int .i64 l, .slice a n c] w fun e w' => e = .returned (.bool true) ∧ Chg [] w w' := by
  have hcall := plays_any (J := fun _ => True) stays_GG pnew_GG pnewbad_GG l a n c fs none 0 0 [] none 0 0 [] false w hn hl hsrc rfl (by omega) (by simp) (fun h => by simp at h) rfl (by omega) (fun h => by simp at h) (fun _ _ _ => trivial)
    (fun _ _ _ _ _ _ _ => trivial) (fun _ _ _ _ _ _ _ _ ho _ _ => by simp at ho) (fun _ _ _ _ ha hu hm => pend_GG ha hu (by omega))
  have HC := hide hcall; clear hcall hsrc hl
  go_enter Tryz.func3, Tryz.ntmps3
  go_wp2_with fail
  refine (unhide HC).mono ?_
  rintro e w2 ⟨rfl, hc⟩
  have HC2 := hide hc; clear hc
  go_wp2
  go_ret
  exact ⟨rfl, unhide HC2⟩
end Go.Proofs.YtfoncalkgmeklaaGreat

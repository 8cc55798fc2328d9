/- griplaw.Arrays at this program. -/
import Derived.Test.YtdphgbkeagcclaaGreatWalkArrays
import Derived.Test.YtdphgbkeagcclaaGreatM24
namespace Go.Proofs.YtdphgbkeagcclaaGreat
open Go.RowKit

theorem pstep_arrays {bh : Nat} {s : R} {m : Nat} {o : LOp} (ho : o.Ok) (hc : Calm s) (ha : RAll s) (hu : RUp m s) (hm : m ≤ 16777216) (hk : o.kind ∈ kindsArrays) (hl : 34 ≤ s.left) : PStep G bh s o := by
  have hkk : o.kind = 1 ∨ o.kind = 2 ∨ o.kind = 3 ∨ o.kind = 8 ∨ o.kind = 9 ∨ o.kind = 10 ∨ o.kind = 11 := by simp [kindsArrays] at hk; omega
  constructor
  all_goals intro hk'
  all_goals first
    | (exfalso; omega)
    | exact p_array _ hc.1 hc.2 ha hu hm hl
    | exact p_bytes _ ho.s hc.1 hc.2 ha hu hm hl
    | exact p_table _ hc.1 hc.2 ha hu hm hl
    | exact p_words hc.1 ha
    | exact p_get _ _ hc.1 ha hu hm ho.x.2
    | exact p_set _ _ _ hc.1 ha ho.x.2 ho.v.2.2
    | exact p_same _ _ hc.1 ha ho.x.2 ho.y.2
theorem holds_arrays (sa : Option Addr) (sn sc : Nat) (ops : List LOp) (w : World) (hsn : ops.length = sn) (hsb : sn ≤ 1048576) (hok : ∀ o ∈ ops, o.Ok) (hop : OpsAt w sa ops) :
    Calls Tryz.prog 5 #[.slice sa sn sc] w fun e w' => e = .returned (.bool true) ∧ Chg [] w w' :=
  walk_arrays (J := Calm) stays_G pnew_G pnewbad_G sa sn sc ops w hsn hsb (fun o ho => (hok o ho).s) hop ⟨rfl, rfl⟩
    (fun s o hc _ _ hk hl => hc.step o hl (by simp [kindsArrays] at hk; omega))
    (fun bh s m o hc ha hu hm ho hk hl => pstep_arrays (hok o ho) hc ha hu (by omega) hk hl)
    (fun bh s m hc ha hu hm => pend_G hc ha hu (by omega))
end Go.Proofs.YtdphgbkeagcclaaGreat

/- griplaw.Makes at this program. -/
import Derived.Test.YtdphgbkeagcclaaGreatWalkMakes
import Derived.Test.YtdphgbkeagcclaaGreatM22
namespace Go.Proofs.YtdphgbkeagcclaaGreat
open Go.RowKit

theorem pstep_makes {bh : Nat} {s : R} {m : Nat} {o : LOp} (ho : o.Ok) (hc : Calm s) (ha : RAll s) (hu : RUp m s) (hm : m ≤ 16777216) (hk : o.kind ∈ kindsMakes) (hl : 34 ≤ s.left) : PStep G bh s o := by
  have hkk : 1 ≤ o.kind ∧ o.kind ≤ 8 := by simp [kindsMakes] at hk; omega
  constructor
  all_goals intro hk'
  all_goals first
    | (exfalso; omega)
    | exact p_array _ hc.1 hc.2 ha hu hm hl
    | exact p_bytes _ ho.s hc.1 hc.2 ha hu hm hl
    | exact p_table _ hc.1 hc.2 ha hu hm hl
    | exact p_kind _ hc.1 ha ho.x.2
    | exact p_len _ hc.1 ha ho.x.2
    | exact p_text _ hc.1 ha ho.x.2
    | exact p_place _ hc.1 ha ho.x.2
    | exact p_words hc.1 ha
theorem holds_makes (sa : Option Addr) (sn sc : Nat) (ops : List LOp) (w : World) (hsn : ops.length = sn) (hsb : sn ≤ 1048576) (hok : ∀ o ∈ ops, o.Ok) (hop : OpsAt w sa ops) :
    Calls Tryz.prog 4 #[.slice sa sn sc] w fun e w' => e = .returned (.bool true) ∧ Chg [] w w' :=
  walk_makes (J := Calm) stays_G pnew_G pnewbad_G sa sn sc ops w hsn hsb (fun o ho => (hok o ho).s) hop ⟨rfl, rfl⟩
    (fun s o hc _ _ hk hl => hc.step o hl (by simp [kindsMakes] at hk; omega))
    (fun bh s m o hc ha hu hm ho hk hl => pstep_makes (hok o ho) hc ha hu (by omega) hk hl)
    (fun bh s m hc ha hu hm => pend_G hc ha hu (by omega))
end Go.Proofs.YtdphgbkeagcclaaGreat

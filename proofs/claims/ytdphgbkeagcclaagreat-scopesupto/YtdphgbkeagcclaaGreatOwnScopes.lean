/- griplaw.Scopes at this program. -/
import Derived.Test.YtdphgbkeagcclaaGreatWalkScopes
import Derived.Test.YtdphgbkeagcclaaGreatM24
import Derived.Test.YtdphgbkeagcclaaGreatM28
namespace Go.Proofs.YtdphgbkeagcclaaGreat
open Go.RowKit

theorem Calm.opens {s : R} (h : Calm s) : Calm (s.openQ).2.2 := by
  unfold R.openQ; repeat' split
  all_goals exact h
theorem Calm.close {s : R} (h : Calm s) (n : Int) : Calm (s.closeQ n).2 := by
  unfold R.closeQ; repeat' split
  all_goals exact h
theorem Calm.release {s : R} (h : Calm s) (x : Int) : Calm (s.releaseQ x).2 := by
  unfold R.releaseQ; repeat' split
  all_goals exact h
theorem Calm.keep {s : R} (h : Calm s) (x : Int) : Calm (s.keepQ x).2.2 := by
  unfold R.keepQ; repeat' split
  all_goals first | exact h | exact h.handle _ _
theorem Calm.escape {s : R} (h : Calm s) (x : Int) : Calm (s.escapeQ x).2.2 := by
  unfold R.escapeQ; repeat' split
  all_goals first | exact h | exact h.handle _ _
/-- The steps of kinds 1 to 20 keep a calm heap calm, while there is room. -/
theorem Calm.step20 {s : R} (h : Calm s) (o : LOp) (hl : 34 ≤ s.left) (hk : o.kind ≤ 20) : Calm (s.stepQ o) := by
  by_cases h15 : o.kind ≤ 15
  · exact h.step o hl h15
  · have hkk : o.kind = 16 ∨ o.kind = 17 ∨ o.kind = 18 ∨ o.kind = 19 ∨ o.kind = 20 := by omega
    unfold R.stepQ
    rcases hkk with e | e | e | e | e <;> rw [e] <;> simp only [reduceIte, Int.reduceEq]
    · exact h.opens
    · exact h.close _
    · exact h.escape _
    · exact h.keep _
    · exact h.release _
theorem pstep_scopes {bh : Nat} {s : R} {m : Nat} {o : LOp} (ho : o.Ok) (hc : Calm s) (ha : RAll s) (hu : RUp m s) (hm : m ≤ 16777216) (hk : o.kind ∈ kindsScopes) (hl : 34 ≤ s.left) : PStep G bh s o := by
  have hkk : o.kind = 1 ∨ o.kind = 2 ∨ o.kind = 3 ∨ o.kind = 4 ∨ o.kind = 8 ∨ o.kind = 9 ∨ o.kind = 10 ∨ o.kind = 11 ∨ o.kind = 16 ∨ o.kind = 17 ∨ o.kind = 18 ∨ o.kind = 19 ∨ o.kind = 20 := by simp [kindsScopes] at hk; omega
  constructor
  all_goals intro hk'
  all_goals first
    | (exfalso; omega)
    | exact p_array _ hc.1 hc.2 ha hu hm hl
    | exact p_bytes _ ho.s hc.1 hc.2 ha hu hm hl
    | exact p_table _ hc.1 hc.2 ha hu hm hl
    | exact p_kind _ hc.1 ha ho.x.2
    | exact p_words hc.1 ha
    | exact p_same _ _ hc.1 ha ho.x.2 ho.y.2
    | exact p_get _ _ hc.1 ha hu hm ho.x.2
    | exact p_set _ _ _ hc.1 ha ho.x.2 ho.v.2.2
    | exact p_open hc.1 ha
    | exact p_close _ hc.1 ha
    | exact p_escape _ hc.1 ha hu hm ho.x.2
    | exact p_keep _ hc.1 ha hu hm ho.x.2
    | exact p_release _ hc.1 ha ho.x.2
theorem holds_scopes (sa : Option Addr) (sn sc : Nat) (ops : List LOp) (w : World) (hsn : ops.length = sn) (hsb : sn ≤ 1048576) (hok : ∀ o ∈ ops, o.Ok) (hop : OpsAt w sa ops) :
    Calls Tryz.prog 7 #[.slice sa sn sc] w fun e w' => e = .returned (.bool true) ∧ Chg [] w w' :=
  walk_scopes (J := Calm) stays_G pnew_G pnewbad_G sa sn sc ops w hsn hsb (fun o ho => (hok o ho).s) hop ⟨rfl, rfl⟩
    (fun s o hc _ _ hk hl => hc.step20 o hl (by simp [kindsScopes] at hk; omega))
    (fun bh s m o hc ha hu hm ho hk hl => pstep_scopes (hok o ho) hc ha hu (by omega) hk hl)
    (fun bh s m hc ha hu hm => pend_G hc ha hu (by omega))
end Go.Proofs.YtdphgbkeagcclaaGreat

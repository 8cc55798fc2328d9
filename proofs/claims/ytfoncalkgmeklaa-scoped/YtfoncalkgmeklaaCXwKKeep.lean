/- What a step keeps of the objects' kinds and of the live handles' scopes (plain). -/
import Derived.Test.YtfoncalkgmeklaaXwM50
namespace Go.Proofs.Ytfoncalkgmeklaa
open Go.RowKit

/-- The kinds of the objects stay. -/
def Kin (s s' : R) : Prop := ∀ i, i < s.objs.length → i < s'.objs.length ∧ (s'.objOf i).kind = (s.objOf i).kind
theorem Kin.refl (s : R) : Kin s s := fun _ h => ⟨h, rfl⟩
theorem Kin.trans {a b c : R} (h : Kin a b) (g : Kin b c) : Kin a c := fun i hi => ⟨(g i (h i hi).1).1, (g i (h i hi).1).2.trans (h i hi).2⟩
theorem Kin.objs {s s' : R} (h : s'.objs = s.objs) : Kin s s' := fun i hi => ⟨by rw [h]; exact hi, by unfold R.objOf; rw [h]⟩
theorem Kin.more {s s' : R} {o : RObj} (h : s'.objs = s.objs ++ [o]) : Kin s s' := fun i hi => ⟨by rw [h]; simp; omega, by
  unfold R.objOf
  rw [h]
  simp only [List.getD]
  rw [List.getElem?_append_left hi]⟩
theorem Kin.setObj (s : R) (j : Nat) (o : RObj) (h : o.kind = (s.objOf j).kind) : Kin s (s.setObj j o) := fun i hi => by
  refine ⟨by unfold R.setObj; simpa using hi, ?_⟩
  unfold R.setObj R.objOf at *
  simp only [List.getD, List.getElem?_set] at *
  by_cases e : j = i
  · subst e
    simp [hi] at *
    exact h
  · simp [e]
theorem kin_handle (s : R) (o : Nat) (c : Int) : Kin s (s.handle o c).2.2 := by
  unfold R.handle
  split
  · exact Kin.refl s
  · exact Kin.objs rfl
theorem kin_outer (s : R) (v : Int × Int) : Kin s (s.outer v).2.2 := by
  unfold R.outer
  split
  · split
    · exact kin_handle s _ _
    · exact Kin.refl s
  · exact Kin.refl s
theorem kin_make (s : R) (o : RObj) : Kin s (s.make o).2.2 := by
  have e := (made3_objs s (oWords o)).1
  unfold R.make
  split
  · exact Kin.refl s
  · split
    · exact Kin.objs e
    · refine Kin.trans (b := (s.made3 (oWords o)).push o) (Kin.more (o := o) ?_) (kin_handle _ _ _)
      show (s.made3 (oWords o)).objs ++ [o] = _
      rw [e]
theorem kin_step (s : R) (o : LOp) : Kin s (s.stepQ o) := by
  unfold R.stepQ
  refine ite_p (Kin s) ?_ (ite_p (Kin s) ?_ (ite_p (Kin s) ?_ (ite_p (Kin s) ?_ (ite_p (Kin s) ?_ (ite_p (Kin s) ?_ (ite_p (Kin s) ?_ (ite_p (Kin s) ?_ (ite_p (Kin s) ?_ (ite_p (Kin s) ?_ (ite_p (Kin s) ?_ (ite_p (Kin s) ?_ (ite_p (Kin s) ?_ (ite_p (Kin s) ?_ (ite_p (Kin s) ?_ (ite_p (Kin s) ?_ (ite_p (Kin s) ?_ (Kin.refl s)))))))))))))))))
  · unfold R.arrayQ; repeat' split
    all_goals first | exact kin_make s _ | exact Kin.refl s
  · unfold R.bytesQ; repeat' split
    all_goals first | exact kin_make s _ | exact Kin.refl s
  · unfold R.tableQ; repeat' split
    all_goals first | exact kin_make s _ | exact Kin.refl s
  · unfold R.joinQ; repeat' split
    all_goals first | exact kin_make s _ | exact Kin.refl s
  · unfold R.copyQ; repeat' split
    all_goals first | exact kin_make s _ | exact Kin.refl s
  · unfold R.getQ; repeat' split
    all_goals first | exact kin_outer s _ | exact Kin.refl s
  · unfold R.findQ; repeat' split
    all_goals first | exact kin_outer s _ | exact Kin.refl s
  · unfold R.keyQ; repeat' split
    all_goals first | exact kin_outer s _ | exact Kin.refl s
  · unfold R.setQ; repeat' split
    all_goals first | exact Kin.setObj s _ _ rfl | exact Kin.refl s
  · unfold R.putQ; repeat' split
    all_goals first | exact Kin.setObj s _ _ rfl | exact Kin.refl s
  · unfold R.cutQ; repeat' split
    all_goals first | exact Kin.setObj s _ _ rfl | exact Kin.refl s
  · unfold R.openQ; repeat' split
    all_goals exact Kin.objs rfl
  · unfold R.closeQ; repeat' split
    all_goals exact Kin.objs rfl
  · unfold R.escapeQ; repeat' split
    all_goals first | exact kin_handle s _ _ | exact Kin.refl s
  · unfold R.keepQ; repeat' split
    all_goals first | exact kin_handle s _ _ | exact Kin.refl s
  · unfold R.releaseQ; repeat' split
    all_goals exact Kin.objs rfl
  · unfold R.collectQ; repeat' split
    all_goals exact Kin.objs rfl
/-- Live handles are of open scopes. -/
def Sc (s : R) : Prop := ∀ g ∈ s.handles, g.live = true → g.scope ≤ s.scopes
theorem sc_step {s : R} (o : LOp) (hd : s.dead = false) (ha : RAll s) (he : (s.askQ o).e ≠ 12) (h : Sc s) : Sc (s.stepQ o) := by
  have hsc := ha.ok.inv.scopes
  cases book_step o hd ha with
  | more _ _ _ m =>
    obtain ⟨k, g, _, _, _, f4, _, f6, f7⟩ := m
    intro x hx hl
    rw [f6] at hx
    rw [f7]
    rcases List.mem_append.1 hx with h1 | h1
    · exact h x h1 hl
    · simp at h1
      subst h1
      rw [f4]
      unfold noteScope
      split
      · omega
      · split <;> omega
  | mem _ e => exact absurd e he
  | full _ _ _ c => intro x hx hl; rw [c.han] at hx; rw [c.sco]; exact h x hx hl
  | none _ _ _ c => intro x hx hl; rw [c.han] at hx; rw [c.sco]; exact h x hx hl
  | opens _ _ _ _ a b => intro x hx hl; rw [a] at hx; rw [b]; have := h x hx hl; omega
  | ends _ e k a b =>
    intro x hx hl
    rw [a] at hx
    rw [b]
    obtain ⟨g, hg, rfl⟩ := List.mem_map.1 hx
    obtain ⟨_, q2, q3⟩ := endQ_num o.kind o.x g
    rw [q3] at hl
    rw [q2]
    simp at hl
    have hgs := h g hg hl.1
    rcases k with k | k
    · rw [if_pos k]
      obtain ⟨kind, ox, oy, ok, ov, ot⟩ := o
      simp only at k
      subst k
      have e2 : (s.closeQ ox).1 = 0 := e
      have hx : ox = s.scopes := by
        unfold R.closeQ at e2
        rw [hd] at e2
        simp only [Bool.false_eq_true, if_false] at e2
        by_cases hc : ox = 0 ∨ ox ≠ s.scopes
        · rw [if_pos hc] at e2; simp at e2
        · omega
      have h9 := hl.2
      simp [endIs] at h9
      omega
    · rw [if_neg (by omega)]
      exact hgs
theorem calm_step {s : R} (o : LOp) (hd : s.dead = false) (ha : RAll s) (hk : o.kind ≠ 16 ∧ o.kind ≠ 17 ∧ o.kind ≠ 20) (he : (s.askQ o).e ≠ 12) : (∃ t, (s.stepQ o).handles = s.handles ++ t) ∧ (s.stepQ o).scopes = s.scopes := by
  cases book_step o hd ha with
  | more _ _ _ m =>
    obtain ⟨k, g, _, _, _, f4, _, f6, f7⟩ := m
    exact ⟨⟨_, f6⟩, f7⟩
  | mem _ e => exact absurd e he
  | full _ _ _ c => exact ⟨⟨[], by rw [c.han]; simp⟩, c.sco⟩
  | none _ _ _ c => exact ⟨⟨[], by rw [c.han]; simp⟩, c.sco⟩
  | opens _ _ k _ a b => exact absurd k hk.1
  | ends _ e k a b => rcases k with k | k; exact absurd k hk.2.1; exact absurd k hk.2.2
/-- The kind that a handle of this number shows; -1: it is none. -/
def kq (s : R) (x : Int) : Int := if (s.kindQ x).2 = 0 then (s.kindQ x).1 else -1
theorem kq_live {s : R} (hd : s.dead = false) (ha : RAll s) {i : Nat} {g : RHan} (hg : s.handles[i]? = some g) : kq s g.num = if g.live then (s.objOf g.obj).kind else -1 := by
  have hk := kind_live hd ha hg
  have hl := look1_eq s g.num
  rw [hd] at hl
  simp only [Bool.false_eq_true, if_false] at hl
  unfold kq
  cases hlv : g.live with
  | false =>
    rw [hlv] at hk
    simp only [Bool.false_eq_true, if_false] at hk ⊢
    rw [hk]
    simp
  | true =>
    rw [hlv] at hk
    simp only [if_true] at hk ⊢
    rw [if_pos hk]
    have ha' := at_of_live ha.num hg hlv
    have hr := RNum.live ha.num hg hlv
    have hf : s.find? g.num = some i := by rw [find_slot ha.ok.inv ha.num, if_pos ⟨(ha.ok.inv.nums g (List.mem_of_getElem? hg)).1, hr⟩, ha']
    rw [hf] at hl
    simp only at hl
    unfold R.kindQ
    rw [hl]
    simp only [if_true]
    simp [List.getD, hg]
theorem kind_pos {s : R} (ha : RAll s) {g : RHan} (hg : g ∈ s.handles) : 1 ≤ (s.objOf g.obj).kind ∧ (s.objOf g.obj).kind ≤ 3 := by
  have hlt := (ha.ok.inv.nums g hg).2.2
  have hm : s.objOf g.obj ∈ s.objs := by
    unfold R.objOf
    simp only [List.getD, List.getElem?_eq_getElem hlt, Option.getD_some]
    exact List.getElem_mem hlt
  have := ha.ok.inv.kinds _ hm
  omega
/-- What has come to pass since the scope was opened. -/
structure Inn (s0 s : R) : Prop where
  han : ∃ t, s.handles = s0.handles ++ t
  sco : s.scopes = s0.scopes + 1
  kin : Kin s0 s
theorem inn_step {s0 s : R} (h : Inn s0 s) (o : LOp) (hd : s.dead = false) (ha : RAll s) (hk : o.kind ≠ 16 ∧ o.kind ≠ 17 ∧ o.kind ≠ 20) (he : (s.askQ o).e ≠ 12) : Inn s0 (s.stepQ o) := by
  obtain ⟨⟨t, h1⟩, h2⟩ := calm_step o hd ha hk he
  obtain ⟨t0, h0⟩ := h.han
  exact ⟨⟨t0 ++ t, by rw [h1, h0, List.append_assoc]⟩, h2.trans h.sco, h.kin.trans (kin_step s o)⟩
/-- Behind Close: just its own handles have ended. -/
theorem inn_end {s0 s sf : R} (h : Inn s0 s) (hsc : Sc s0) (hd0 : s0.dead = false) (ha0 : RAll s0) (hdf : sf.dead = false) (haf : RAll sf) (hf : sf.handles = s.handles.map (endQ 17 (s0.scopes + 1))) (ho : sf.objs = s.objs) {i : Nat} {g : RHan} (hg : sf.handles[i]? = some g) :
    (decide (0 < kq sf g.num)) = g.live ∧ (∀ g0, s0.handles[i]? = some g0 → kq sf g.num = kq s0 g0.num) := by
  refine ⟨?_, fun g0 hg0 => ?_⟩
  · rw [kq_live hdf haf hg]
    have := kind_pos haf (List.mem_of_getElem? hg)
    cases g.live
    · simp
    · simp; omega
  · rw [kq_live hdf haf hg, kq_live hd0 ha0 hg0]
    obtain ⟨t, ht⟩ := h.han
    have hi := (List.getElem?_eq_some_iff.1 hg0).1
    rw [hf, ht, List.getElem?_map, List.getElem?_append_left hi, hg0] at hg
    simp only [Option.map_some, Option.some.injEq] at hg
    subst hg
    obtain ⟨q1, q2, q3⟩ := endQ_num 17 (s0.scopes + 1) g0
    have hob : (endQ 17 (s0.scopes + 1) g0).obj = g0.obj := by unfold endQ; split <;> rfl
    have hlv : (endQ 17 (s0.scopes + 1) g0).live = g0.live := by
      rw [q3]
      cases hl : g0.live with
      | false => rfl
      | true =>
        have := hsc g0 (List.mem_of_getElem? hg0) hl
        simp [endIs]
        omega
    rw [hlv, hob]
    have hk := (h.kin g0.obj (ha0.ok.inv.nums g0 (List.mem_of_getElem? hg0)).2.2).2
    have : (sf.objOf g0.obj).kind = (s0.objOf g0.obj).kind := by rw [← hk]; unfold R.objOf; rw [ho]
    rw [this]
end Go.Proofs.Ytfoncalkgmeklaa

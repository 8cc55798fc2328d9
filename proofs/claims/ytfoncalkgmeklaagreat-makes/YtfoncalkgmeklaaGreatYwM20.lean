/- Fill: the bytes of a text are laid into its words. -/
import Derived.Test.YtfoncalkgmeklaaGreatYwM19
import Derived.Deep.RegionWith
namespace Go.Proofs.YtfoncalkgmeklaaGreat
open Go.RowKit

/-- A word is changed. -/
theorem MB.set {w : World} {b : Nat} {pre : List Value} {lim : Int} {ws : List Int} {post : List Value} {T : TypeId} {g c : Nat} (h : MB w b pre lim ws post T (some ⟨g, 0, none⟩) c) {i : Nat} (hi : i < ws.length) (v : Int) :
    MB (w.setCell ⟨g, i, none⟩ (.int .i64 v)) b pre lim (ws.set i v) post T (some ⟨g, 0, none⟩) c ∧ Chg (ab (some ⟨g, 0, none⟩)) w (w.setCell ⟨g, i, none⟩ (.int .i64 v)) := by
  have hl : (ws.set i v).length = ws.length := by simp
  have hne : b ≠ g := fun e => h.nin (by simp [ab, e])
  refine ⟨⟨?_, ?_, h.ty⟩, (Chg.refl _ w).setCell (.inl (by simp [ab])) _⟩
  · rw [hl]; exact h.blk.setCell_other hne _
  · rw [hl]; exact owns_set h.own hi
theorem MB.at {w : World} {b : Nat} {pre : List Value} {lim : Int} {ws : List Int} {post : List Value} {T : TypeId} {a : Option Addr} {c : Nat} (h : MB w b pre lim ws post T a c) {i : Nat} (hi : i < ws.length) :
    ∃ g, a = some ⟨g, 0, none⟩ ∧ w.cell? ⟨g, i, none⟩ = some (.int .i64 (ws.getD i 0)) ∧ w.frozen? ⟨g, i, none⟩ = false := by
  obtain ⟨g, rfl, _, hc⟩ := owns_at h.own (by omega)
  obtain ⟨rest, hb, _⟩ := owns_blk h.own
  exact ⟨g, rfl, hc i _ (ints_at hi), hb.frozen i⟩

set_option maxRecDepth 100000 in
set_option maxHeartbeats 2000000 in
theorem memFill_any {w : World} {b : Nat} {pre : List Value} {lim : Int} {vs : List Int} {hd : Int} {post : List Value} {T : TypeId} {a : Option Addr} {c nw : Nat} (t : ByteArray) (h : MB w b pre lim (vs ++ hd :: List.replicate nw 0) post T a c) (hl : vs.length ≤ 1000) (ht : t.size ≤ 64) (hn : nw = (t.size + 7) / 8) :
    Calls Tryz.prog 78 #[.pointer (some ⟨b, pre.length, none⟩), .int .i64 (vs.length : Int), .string t] w fun e w' => e = .returned (.tuple #[]) ∧ MB w' b pre lim (vs ++ hd :: textWords t) post T a c ∧ Chg (ab a) w w' := by
  rw [← fillWords_zero t nw] at h
  have H := hide h; clear h
  have HN := hide hn; clear hn
  have hnw : nw ≤ 8 := by have := unhide HN; omega
  go_enter Tryz.func78, Tryz.ntmps78
  go_wp2_with fail
  go_loopw [6] (fun v wr => ∃ i : Nat, i ≤ t.size ∧ v = .int .i64 i ∧ MB wr b pre lim (vs ++ hd :: fillWords t i nw) post T a c ∧ Chg (ab a) w wr) (fun v _ => t.size - (intOf v).toNat)
  case atStart => exact ⟨0, Nat.zero_le _, rfl, unhide H, Chg.refl _ _⟩
  case round =>
    obtain ⟨i, hi, rfl, hmb, hch⟩ := hrel
    by_cases hlt : i < t.size
    · have zi : (i : Int) < (t.size : Int) := by omega
      have hq : i / 8 < nw := by have := unhide HN; omega
      have hlen : (vs ++ hd :: fillWords t i nw).length = vs.length + 1 + nw := by simp [fillWords_len]; omega
      have hat : vs.length + 1 + i / 8 < (vs ++ hd :: fillWords t i nw).length := by omega
      obtain ⟨g, rfl, cg, fg⟩ := hmb.at hat
      have hval : (vs ++ hd :: fillWords t i nw).getD (vs.length + 1 + i / 8) 0 = fillTo t i (i / 8) := by
        rw [← fillWords_at t hq]
        simp only [List.getD]
        rw [List.getElem?_append_right (by omega), show vs.length + 1 + i / 8 - vs.length = i / 8 + 1 by omega, List.getElem?_cons_succ]
      rw [hval] at cg
      have hset := hmb.set hat (fillTo t (i + 1) (i / 8))
      have hnew : (vs ++ hd :: fillWords t i nw).set (vs.length + 1 + i / 8) (fillTo t (i + 1) (i / 8)) = vs ++ hd :: fillWords t (i + 1) nw := by
        rw [List.set_append_right _ _ (by omega), show vs.length + 1 + i / 8 - vs.length = i / 8 + 1 by omega, List.set_cons_succ, fillWords_step t hq]
      rw [hnew] at hset
      have hset : MB (wr.setCell ⟨g, vs.length + 1 + i / 8, none⟩ (.int .i64 (fillTo t (i + 1) (i / 8)))).drew b pre lim (vs ++ hd :: fillWords t (i + 1) nw) post T (some ⟨g, 0, none⟩) c ∧ Chg (ab (some ⟨g, 0, none⟩)) wr (wr.setCell ⟨g, vs.length + 1 + i / 8, none⟩ (.int .i64 (fillTo t (i + 1) (i / 8)))).drew := ⟨hset.1.chg (S := []) ((Chg.refl [] _).drew) (by simp) (by simp), hset.2.drew⟩
      have hb8 := t[i].toNat_lt
      obtain ⟨_, c1, _⟩ := hmb.cells
      rw [hlen] at c1
      have hwb := wordOfByte_any vs.length i wr (by omega) (by omega)
      have hsh := shiftOfByte_any i wr.drew (by omega)
      have hbyte : byteAt t i = (t[i].toNat : Int) := by unfold byteAt; rw [dif_pos hlt]
      have hstep := fillTo_step t i
      rw [hbyte] at hstep
      have hmin : min (8 * (i % 8)) 64 = 8 * (i % 8) := by omega
      have z1 : ((vs.length + 1 + i / 8 : Nat) : Int) < ((vs.length + 1 + nw : Nat) : Int) := by omega
      have HS := hide hset; have HC := hide hch; have HW := hide hwb; have HSH := hide hsh; clear hmb hset hch hwb hsh hnew hval hlen hbyte H
      have hb0 : (0 : Int) ≤ (t[i].toNat : Int) := by omega
      have hb1 : (t[i].toNat : Int) < 256 := by omega
      have hbw : wrap64 (t[i].toNat : Int) = (t[i].toNat : Int) := wrap64_u8 _
      clear hb8
      generalize hbv : (t[i].toNat : Int) = bv at *
      generalize fillTo t i (i / 8) = x at *
      generalize fillTo t (i + 1) (i / 8) = y at *
      generalize 8 * (i % 8) = sh at *
      generalize vs.length + 1 + i / 8 = at' at *
      generalize vs.length + 1 + nw = n' at *
      go_wp2_with fail
      refine (unhide HW).mono ?_
      rintro e w1 ⟨rfl, rfl⟩
      go_wp2_with fail
      go_region_with ((go_at_call 120; refine (unhide HSH).mono ?_; rintro e w2 ⟨rfl, rfl⟩))
      all_goals
        go_wp2
        go_roundw
        case rel =>
          first
            | exact ⟨i + 1, by omega, by go_num, (unhide HS).1, (unhide HC).trans (unhide HS).2⟩
            | (rw [hstep]; exact ⟨i + 1, by omega, by go_num, (unhide HS).1, (unhide HC).trans (unhide HS).2⟩)
        case measure => simp [intOf]; omega
    · have hin : i = t.size := by omega
      subst hin
      rw [fillWords_full t (Nat.le_refl _) nw] at hmb
      have HM := hide hmb; have HC := hide hch; clear hmb hch
      go_wp2
      go_end0
      refine ⟨rfl, ?_, unhide HC⟩
      have := unhide HM
      rw [unhide HN] at this
      exact this
end Go.Proofs.YtfoncalkgmeklaaGreat

import Derived.Test.YtfoncalkgmeklaaGreatYwM3
import Derived.Test.YtfoncalkgmeklaaGreatYwM4
import Derived.Deep.RegionHeld3
import Derived.Deep.DeepCutAuto

/- row: an object's words, by the document. -/
namespace Go.Proofs.YtfoncalkgmeklaaGreat
open Go.RowKit

/-! The words, plainly -/
def ints (l : List Int) : List Value := l.map (Value.int .i64)
theorem ints_append (a b : List Int) : ints (a ++ b) = ints a ++ ints b := by simp [ints]
theorem ints_one (l : List Int) : ∀ u ∈ ints l, u.oneCell' = true := by
  intro u hu
  obtain ⟨b, _, rfl⟩ := List.mem_map.1 hu
  rfl
/-- A value's two words. -/
def valWords (s : R) (v : Int × Int) : List Int := [v.1, if v.1 = 2 then placeOf s.objs v.2.toNat s.row else v.2]
/-- What j bytes of a text's word make, from the last of its eight down. -/
def packTo (t : ByteArray) (i : Nat) : Nat → Int
  | 0 => 0
  | j + 1 => if h : i + 7 - j < t.size then wrap64 (wrap64 (packTo t i j * 256) + (t[i + 7 - j].toNat : Int)) else wrap64 (packTo t i j * 256)
/-- The first n words of a text. -/
def textTo (t : ByteArray) : Nat → List Int
  | 0 => []
  | n + 1 => textTo t n ++ [packTo t (8 * n) 8]
def textWords (t : ByteArray) : List Int := textTo t ((t.size + 7) / 8)
def headWords (o : RObj) : List Int := [o.kind * 65536 + o.size] ++ (if o.kind = 3 then [(o.vals.length : Int) / 2] else [])
def fullWords (s : R) (o : RObj) : List Int := headWords o ++ (o.vals.flatMap (valWords s) ++ textWords o.text)
/-- An object's words. -/
def objWords (s : R) (o : RObj) : List Int := fullWords s o ++ List.replicate ((oWords o).toNat - (fullWords s o).length) 0

/-- A list that the call itself has made, of these numbers. -/
structure Out (w wr : World) (a : Option Addr) (n c : Nat) (ys : List Int) : Prop where
  own : wr.ownsRow 0 3 1 (.slice a n c) n (ints ys)
  newer : ∀ b ∈ ab a, w.heap.size ≤ b
  chg : Chg [] w wr
theorem Out.len {w wr : World} {a : Option Addr} {n c : Nat} {ys : List Int} (h : Out w wr a n c ys) : ys.length = n := by simpa [ints] using h.own.1
theorem Out.drewN {w wr : World} {a : Option Addr} {n c : Nat} {ys : List Int} (h : Out w wr a n c ys) (q : Nat) : Out w (wr.drewN q) a n c ys :=
  ⟨owns_chg h.own ((Chg.refl [] wr).drewN q) (by simp), h.newer, h.chg.drewN q⟩
theorem Out.push {w wr w1 : World} {a va : Option Addr} {n c m cap H : Nat} {ys zs : List Int} (h : Out w wr a n c ys) (o : Obj)
    (ho : w1.ownsRow 0 3 1 (.slice va (n + m) cap) (n + m) (ints ys ++ ints zs)) (hg : (wr.alloc o).grownBy w1 (Value.slice a n c).ownBlock) (hH : wr.heap.size ≤ H)
    (hat : (Value.slice va (n + m) cap).ownBlock = (Value.slice a n c).ownBlock ∨ (Value.slice va (n + m) cap).ownBlock = some H) : Out w w1 va (n + m) cap (ys ++ zs) := by
  refine ⟨by rw [ints_append]; exact ho, fun b hb => ?_, (h.chg.alloc o).grown hg (fun k hk => .inr (h.newer k (ownBlock_ab hk)))⟩
  rcases at_ab hH hat b hb with h1 | h1
  · exact h.newer b h1
  · exact Nat.le_trans h.chg.size h1

theorem wrap64_u8 (b : UInt8) : wrap64 (b.toNat : Int) = (b.toNat : Int) := by
  have := b.toNat_lt
  have h : IntKind.i64.wrap (b.toNat : Int) = (b.toNat : Int) := by rw [IntKind.wrap_i64]; omega
  rw [← h]
  simp [wrap64, IntKind.wrap_i64]
theorem textTo_len (t : ByteArray) (m : Nat) : (textTo t m).length = m := by
  induction m with
  | zero => rfl
  | succ m ih => simp [textTo, ih]
theorem valWords_len (s : R) (l : List (Int × Int)) : (l.flatMap (valWords s)).length ≤ 2 * l.length := by
  induction l with
  | nil => simp
  | cons v r ih => simp [valWords] at ih ⊢; omega

def lenOf : Value → Nat
  | .slice _ n _ => n
  | _ => 0

set_option maxRecDepth 100000 in
set_option maxHeartbeats 4000000 in
theorem refRow_any {br : Nat} {s : R} {L : RL} {w : World} (b : Nat) (o : RObj) (va : Option Addr) (vc : Nat) (h : RRep w br s L) (hi : RInv s) (hbd : RBd s) (hmem : o ∈ s.objs) (hbo : Blk w b (objCells o (.slice va o.vals.length vc)) 72)
    (hov : w.ownsRow 0 33 2 (.slice va o.vals.length vc) o.vals.length (valCells o.vals)) (htx : o.text.size ≤ 64) :
    Calls Tryz.prog 114 #[.pointer (some ⟨br, 0, none⟩), .pointer (some ⟨b, 0, none⟩)] w fun e w' => ∃ a n c, e = .returned (.slice a n c) ∧ Out w w' a n c (objWords s o) := by
  obtain ⟨i0, hi0, hz0, hz1, hz2⟩ := info_parts info3
  have k0 := hbo.cell_of (i := 0) rfl
  have k1 := hbo.cell_of (i := 1) rfl
  obtain ⟨z1, z2, z3, z4, z5⟩ := hi.kinds o hmem
  have vl : o.vals.length ≤ 16 := hi.valLen o hmem
  have hw1 : IntKind.i64.wrap (o.kind * 65536) = o.kind * 65536 := by rw [IntKind.wrap_i64]; omega
  have hw2 : IntKind.i64.wrap (o.kind * 65536 + o.size) = o.kind * 65536 + o.size := by rw [IntKind.wrap_i64]; omega
  have hlt : b < w.heap.size := hbo.lt
  have H := hide h; have HBO := hide hbo; have HI := hide hi; have HBD := hide hbd; have HOV := hide hov; clear h hbo hi hbd hov
  go_enter Tryz.func114, Tryz.ntmps114
  go_upto_region 1 with fail
  go_cut [5] (fun v wx => ∃ a n c, v = .slice a n c ∧ Out w wx a n c [o.kind * 65536 + o.size])
  case first =>
    go_region_held3 (fun w' => w'.cell? ⟨b, 0, none⟩ = some (.int .i64 o.kind) ∧ w'.cell? ⟨b, 1, none⟩ = some (.int .i64 o.size)) (go_keep) (fail)
    go_wp2_with fail
    go_meet
    exact ⟨_, _, _, rfl, World.ownsRow.drew (World.ownsRow_lit w #[.int .i64 (o.kind * 65536 + o.size)] 1 (Nat.zero_le _) (by unfold maxLen; omega) rfl), by simp [ab], ((Chg.refl [] w).alloc _).drew⟩
  case rest =>
    obtain ⟨a1, n1, c1, rfl, ho1⟩ := hcut
    have hn1 : n1 ≤ 1000 := by have := ho1.len; simp at this; omega
    have k0' := ((unhide HBO).chg ho1.chg (by simp)).cell_of (i := 0) rfl
    have k2' := ((unhide HBO).chg ho1.chg (by simp)).cell_of (i := 2) rfl
    have HO1 := hide ho1; clear ho1 hw1 hw2 k0 k1
    go_upto_if 26 with fail
    go_cut [5] (fun v wx => ∃ a n c, v = .slice a n c ∧ Out w wx a n c (headWords o))
    case first =>
      by_cases h3 : o.kind = 3
      · have hb3 : (o.kind == 3) = true := by simp [h3]
        have hfin : headWords o = [o.kind * 65536 + o.size] ++ [(o.vals.length : Int) / 2] := by simp [headWords, h3]
        have HFIN := hide hfin; clear hfin h3
        go_wp2_with (at_builtin; go_must (refine wpList_append_gen _ rfl (.tmp 27) (.tmp 34) 26 rfl 3 i0 (.int .i64 0) 1 8 Tryz.underlying26 hi0 hz0 hz1 hz2 rfl (by decide) (.slice a1 n1 c1) n1 (ints [o.kind * 65536 + o.size]) rfl ?c0 (some ⟨wc.heap.size, 0, none⟩) 1 1 (ints [(o.vals.length : Int) / 2]) rfl rfl ?c1 (ints_one _) ?c2 ?c3 ?_))
        case c0 => exact World.ownsRow.alloc (unhide HO1).own _
        case c1 => first | exact fun _ => ⟨_, rfl, fun j u hj => by rw [addr_add, Nat.zero_add]; exact (Blk.new wc (ints [(o.vals.length : Int) / 2]) 3).cell_of hj⟩ | exact fun j u hj => hj
        case c2 => unfold maxLen; omega
        case c3 => omega
        intro va2 cap2 w2 ho hg hat
        have hp := (unhide HO1).push _ (m := 1) (zs := [(o.vals.length : Int) / 2]) (H := wc.heap.size + 1) ho hg (Nat.le_succ _) hat
        have HP := hide hp; clear hp ho hg hat
        go_wp2_with fail
        go_meet
        exact ⟨_, _, _, rfl, by rw [unhide HFIN]; exact unhide HP⟩
      · have hb3 : (o.kind == 3) = false := by simp [h3]
        have hfin : headWords o = [o.kind * 65536 + o.size] := by simp [headWords, h3]
        have HFIN := hide hfin; clear hfin h3
        go_wp2_with fail
        go_meet
        exact ⟨_, _, _, rfl, by rw [unhide HFIN]; exact unhide HO1⟩
    case rest =>
      clear HO1 k0' k2'
      obtain ⟨a2, n2, c2, rfl, ho2⟩ := hcut
      have HO2 := hide ho2; clear ho2 hn1
      go_wp2_with fail
      go_loopw [5, 6] (fun v i wr => ∃ k a n c, k ≤ o.vals.length ∧ i = .int .i64 (k : Nat) ∧ v = .slice a n c ∧ Out w wr a n c (headWords o ++ (o.vals.take k).flatMap (valWords s))) (fun _ i _ => o.vals.length - (intOf i).toNat)
      case atStart => exact ⟨0, _, _, _, Nat.zero_le _, rfl, rfl, by simpa using unhide HO2⟩
      case round =>
        obtain ⟨k, a, n, c, hk, rfl, rfl, ho⟩ := hrel
        have hnl : n ≤ 1000 := by
          have h1 := ho.len
          have h2 : (headWords o).length ≤ 2 := by unfold headWords; split <;> simp
          have h3 : ((o.vals.take k).flatMap (valWords s)).length ≤ 2 * k := Nat.le_trans (valWords_len s _) (Nat.mul_le_mul_left _ (List.length_take_le _ _))
          simp only [List.length_append] at h1
          omega
        have k2' := ((unhide HBO).chg ho.chg (by simp)).cell_of (i := 2) rfl
        by_cases hlt : k < o.vals.length
        · have hov := owns_chg (unhide HOV) ho.chg (by simp)
          obtain ⟨gv, hgv, _, hcv⟩ := owns_at hov (by omega)
          obtain ⟨v, hv⟩ : ∃ v, o.vals[k]? = some v := ⟨_, List.getElem?_eq_getElem hlt⟩
          have cc := valCells_at _ _ _ hv
          have c0 := hcv _ _ cc.1
          have c1 := hcv _ _ cc.2
          have hvi := (unhide HI).vals o hmem v (List.mem_of_getElem? hv)
          have hsum : headWords o ++ (o.vals.take (k + 1)).flatMap (valWords s) = (headWords o ++ (o.vals.take k).flatMap (valWords s)) ++ valWords s v := by
            rw [List.take_add_one, hv]; simp
          rw [hgv] at k2'
          obtain ⟨p, q⟩ := v
          have HO := hide ho; have HS := hide hsum; clear ho hsum hov hgv hcv cc hv
          by_cases hp2 : p = 2
          · have hb2 : (p == 2) = true := by simp [hp2]
            obtain ⟨hq0, hq1⟩ := hvi.2.2 hp2
            obtain ⟨j, rfl⟩ := Int.eq_ofNat_of_zero_le hq0
            have hvw : valWords s (p, (j : Int)) = [p, placeOf s.objs j s.row] := by simp [valWords, hp2]
            have HVW := hide hvw; clear hvw hp2 hvi
            go_wp2_with fail
            refine (refPlace_any j ((unhide H).chg (unhide HO).chg (by simp)) (unhide HI) (unhide HBD)).mono ?_
            rintro e w4 ⟨rfl, q4, hw4⟩
            have o4 : Out w w4 a n c (headWords o ++ (o.vals.take k).flatMap (valWords s)) := by rw [hw4]; exact (unhide HO).drewN q4
            have k2'' : w4.cell? ⟨b, 2, none⟩ = some (.slice (some ⟨gv, 0, none⟩) o.vals.length vc) := by rw [hw4]; exact k2'
            have c0' : w4.cell? ⟨gv, k * 2, none⟩ = some (.int .i64 p) := by rw [hw4]; exact c0
            have c1' : w4.cell? ⟨gv, k * 2 + 1, none⟩ = some (.int .i64 (j : Int)) := by rw [hw4]; exact c1
            generalize placeOf s.objs j s.row = PL at *
            have HO4 := hide o4; clear o4 hw4 k2' c0 c1 HO
            go_wp2_with (at_builtin; go_must (refine wpList_append_gen _ rfl (.tmp 72) (.tmp 82) 26 rfl 3 i0 (.int .i64 0) 1 8 Tryz.underlying26 hi0 hz0 hz1 hz2 rfl (by decide) (.slice a n c) n (ints (headWords o ++ (o.vals.take k).flatMap (valWords s))) rfl ?d0 (some ⟨w4.heap.size, 0, none⟩) 2 2 (ints [p, PL]) rfl rfl ?d1 (ints_one _) ?d2 ?d3 ?_))
            case d0 => exact World.ownsRow.alloc (unhide HO4).own _
            case d1 => first | exact fun _ => ⟨_, rfl, fun j u hj => by rw [addr_add, Nat.zero_add]; exact (Blk.new w4 (ints [p, PL]) 3).cell_of hj⟩ | exact fun j u hj => hj
            case d2 => unfold maxLen; omega
            case d3 => omega
            intro va5 cap5 w5 ho5 hg5 hat5
            have hp5 := (unhide HO4).push _ (m := 2) (zs := [p, PL]) (H := w4.heap.size + 1) ho5 hg5 (Nat.le_succ _) hat5
            have HP5 := hide hp5; clear hp5 ho5 hg5 hat5
            go_wp2
            go_roundw
            case rel => exact ⟨k + 1, _, _, _, by omega, by go_num, rfl, by rw [unhide HS, unhide HVW]; exact unhide HP5⟩
            case measure => simp [intOf]; omega
          · have hb2 : (p == 2) = false := by simp [hp2]
            have hvw : valWords s (p, q) = [p, q] := by simp [valWords, hp2]
            have HVW := hide hvw; clear hvw hp2 hvi
            go_wp2_with (at_builtin; go_must (refine wpList_append_gen _ rfl (.tmp 72) (.tmp 82) 26 rfl 3 i0 (.int .i64 0) 1 8 Tryz.underlying26 hi0 hz0 hz1 hz2 rfl (by decide) (.slice a n c) n (ints (headWords o ++ (o.vals.take k).flatMap (valWords s))) rfl ?e0 (some ⟨wr.heap.size, 0, none⟩) 2 2 (ints [p, q]) rfl rfl ?e1 (ints_one _) ?e2 ?e3 ?_))
            case e0 => exact World.ownsRow.alloc (unhide HO).own _
            case e1 => first | exact fun _ => ⟨_, rfl, fun j u hj => by rw [addr_add, Nat.zero_add]; exact (Blk.new wr (ints [p, q]) 3).cell_of hj⟩ | exact fun j u hj => hj
            case e2 => unfold maxLen; omega
            case e3 => omega
            intro va5 cap5 w5 ho5 hg5 hat5
            have hp5 := (unhide HO).push _ (m := 2) (zs := [p, q]) (H := wr.heap.size + 1) ho5 hg5 (Nat.le_succ _) hat5
            have HP5 := hide hp5; clear hp5 ho5 hg5 hat5 k2' c0 c1
            go_wp2
            go_roundw
            case rel => exact ⟨k + 1, _, _, _, by omega, by go_num, rfl, by rw [unhide HS, unhide HVW]; exact unhide HP5⟩
            case measure => simp [intOf]; omega
        · have hkn : o.vals.take k = o.vals := List.take_of_length_le (by omega)
          rw [hkn] at ho
          have k3' := ((unhide HBO).chg ho.chg (by simp)).cell_of (i := 3) rfl
          have HO := hide ho; clear ho hkn HO2
          go_wp2_with fail
          clear k2' k3'
          go_loopw [5, 8] (fun v i wr => ∃ m a n c, m ≤ (o.text.size + 7) / 8 ∧ i = .int .i64 ((8 * m : Nat) : Int) ∧ v = .slice a n c ∧ Out w wr a n c (headWords o ++ (o.vals.flatMap (valWords s) ++ textTo o.text m))) (fun _ i _ => o.text.size + 8 - (intOf i).toNat)
          case atStart => exact ⟨0, _, _, _, Nat.zero_le _, rfl, rfl, by simpa [textTo] using unhide HO⟩
          case round =>
            obtain ⟨m, a', n', c', hm, rfl, rfl, ho'⟩ := hrel
            have hnl' : n' ≤ 1000 := by
              have h1 := ho'.len
              have h2 : (headWords o).length ≤ 2 := by unfold headWords; split <;> simp
              have h3 := valWords_len s o.vals
              have h4 : (textTo o.text m).length = m := textTo_len _ _
              simp only [List.length_append] at h1
              omega
            have k3' := ((unhide HBO).chg ho'.chg (by simp)).cell_of (i := 3) rfl
            have HO' := hide ho'; clear ho' HO
            by_cases hlt' : 8 * m < o.text.size
            · go_wp2_with fail
              go_loop [9, 10] (fun u i => ∃ j : Nat, j ≤ 8 ∧ i = .int .i64 (((8 * m : Nat) : Int) + 7 - j) ∧ u = .int .i64 (packTo o.text (8 * m) j)) (fun _ i => (intOf i - ((8 * m : Nat) : Int) + 1).toNat)
              case atStart => exact ⟨0, by omega, by go_num, rfl⟩
              case round =>
                obtain ⟨j, hj, rfl, rfl⟩ := hrel
                by_cases hj8 : j < 8
                · obtain ⟨kk, hkk⟩ : ∃ kk : Nat, kk = 8 * m + 7 - j := ⟨_, rfl⟩
                  have ek : ((8 * m : Nat) : Int) + 7 - j = (kk : Int) := by omega
                  rw [ek]
                  have hge : 8 * m ≤ kk := by omega
                  have hgi : ((8 * m : Nat) : Int) ≤ (kk : Int) := by omega
                  have hub : (kk : Int) ≤ 1000 := by omega
                  by_cases hin : kk < o.text.size
                  · have hpk : packTo o.text (8 * m) (j + 1) = wrap64 (wrap64 (packTo o.text (8 * m) j * 256) + ((o.text[kk]'hin).toNat : Int)) := by
                      simp only [packTo]
                      rw [dif_pos (by omega)]
                      simp only [← hkk]
                    generalize packTo o.text (8 * m) j = PK at *
                    have HPK := hide hpk; have HKK := hide hkk; clear hpk hkk ek
                    go_wp2
                    go_round
                    case rel => exact ⟨j + 1, by omega, by have := unhide HKK; go_num, by rw [unhide HPK] <;> try rw [wrap64_u8]⟩
                    case measure => have := unhide HKK; simp [intOf]; omega
                  · have hpk : packTo o.text (8 * m) (j + 1) = wrap64 (packTo o.text (8 * m) j * 256) := by
                      simp only [packTo]
                      rw [dif_neg (by omega)]
                    generalize packTo o.text (8 * m) j = PK at *
                    have HPK := hide hpk; have HKK := hide hkk; clear hpk hkk ek
                    go_wp2
                    go_round
                    case rel => exact ⟨j + 1, by omega, by have := unhide HKK; go_num, by rw [unhide HPK] <;> try rw [wrap64_u8]⟩
                    case measure => have := unhide HKK; simp [intOf]; omega
                · have hj8' : j = 8 := by omega
                  subst hj8'
                  have hpt : headWords o ++ (o.vals.flatMap (valWords s) ++ textTo o.text (m + 1)) = (headWords o ++ (o.vals.flatMap (valWords s) ++ textTo o.text m)) ++ [packTo o.text (8 * m) 8] := by
                    simp [textTo]
                  generalize packTo o.text (8 * m) 8 = PK at *
                  have HPT := hide hpt; clear hpt
                  go_wp2_with (at_builtin; go_must (refine wpList_append_gen _ rfl (.tmp 118) (.tmp 120) 26 rfl 3 i0 (.int .i64 0) 1 8 Tryz.underlying26 hi0 hz0 hz1 hz2 rfl (by decide) (.slice a' n' c') n' (ints (headWords o ++ (o.vals.flatMap (valWords s) ++ textTo o.text m))) rfl ?f0 (some ⟨wr.heap.size, 0, none⟩) 1 1 (ints [PK]) rfl rfl ?f1 (ints_one _) ?f2 ?f3 ?_))
                  case f0 => exact World.ownsRow.alloc (unhide HO').own _
                  case f1 => first | exact fun _ => ⟨_, rfl, fun j u hj => by rw [addr_add, Nat.zero_add]; exact (Blk.new wr (ints [PK]) 3).cell_of hj⟩ | exact fun j u hj => hj
                  case f2 => unfold maxLen; omega
                  case f3 => omega
                  intro va5 cap5 w5 ho5 hg5 hat5
                  have hp5 := (unhide HO').push _ (m := 1) (zs := [PK]) (H := wr.heap.size + 1) ho5 hg5 (Nat.le_succ _) hat5
                  have HP5 := hide hp5; clear hp5 ho5 hg5 hat5 k3'
                  go_wp2
                  go_roundw
                  case rel => exact ⟨m + 1, _, _, _, by omega, by go_num, rfl, by rw [unhide HPT]; exact unhide HP5⟩
                  case measure => simp [intOf]; omega
            · have hme : m = (o.text.size + 7) / 8 := by omega
              have hfull : headWords o ++ (o.vals.flatMap (valWords s) ++ textTo o.text m) = fullWords s o := by rw [hme]; rfl
              have hO := unhide HO'
              rw [hfull] at hO
              have HO2 := hide hO; clear hO hfull HO' hme
              have hwb := words_bd ((unhide HI).kinds o hmem)
              go_wp2_with fail
              clear k3'
              go_loopw [5] (fun v wr => ∃ p a n c, p ≤ (oWords o).toNat - (fullWords s o).length ∧ v = .slice a n c ∧ Out w wr a n c (fullWords s o ++ List.replicate p 0)) (fun v _ => (oWords o).toNat - lenOf v)
              case atStart => exact ⟨0, _, _, _, Nat.zero_le _, rfl, by simpa using unhide HO2⟩
              case round =>
                obtain ⟨p, a6, n6, c6, hp, rfl, ho6⟩ := hrel
                have hl6 : (fullWords s o).length + p = n6 := by have := ho6.len; simpa using this
                have hn6 : n6 ≤ 1100 := by
                  have h5 : (fullWords s o).length ≤ 1000 := by have := (unhide HO2).len; omega
                  omega
                have k0' := ((unhide HBO).chg ho6.chg (by simp)).cell_of (i := 0) rfl
                have k1' := ((unhide HBO).chg ho6.chg (by simp)).cell_of (i := 1) rfl
                have HO6 := hide ho6; have HL6 := hide hl6; clear ho6 hl6
                unfold oWords at hp hwb ⊢
                by_cases hmore : (n6 : Int) < wordsOf o.kind o.size
                · go_wp2_with fail
                  go_quiet ((go_at_call 26; refine (refWordsOf_any _ _ _ z3 z4).mono ?_; rintro e w' ⟨rfl, rfl⟩; exact ⟨rfl, _, rfl⟩))
                  have o7 := (unhide HO6).drewN nq
                  generalize wr.drewN nq = w7 at *
                  have HO7 := hide o7; clear o7 HO6 k0' k1'
                  go_wp2_with (at_builtin; go_must (refine wpList_append_gen _ rfl (.tmp 134) (.tmp 135) 26 rfl 3 i0 (.int .i64 0) 1 8 Tryz.underlying26 hi0 hz0 hz1 hz2 rfl (by decide) (.slice a6 n6 c6) n6 (ints (fullWords s o ++ List.replicate p 0)) rfl ?g0 (some ⟨w7.heap.size, 0, none⟩) 1 1 (ints [0]) rfl rfl ?g1 (ints_one _) ?g2 ?g3 ?_))
                  case g0 => exact World.ownsRow.alloc (unhide HO7).own _
                  case g1 => first | exact fun _ => ⟨_, rfl, fun j u hj => by rw [addr_add, Nat.zero_add]; exact (Blk.new w7 (ints [0]) 3).cell_of hj⟩ | exact fun j u hj => hj
                  case g2 => unfold maxLen; omega
                  case g3 => omega
                  intro va5 cap5 w5 ho5 hg5 hat5
                  have hp5 := (unhide HO7).push _ (m := 1) (zs := [0]) (H := w7.heap.size + 1) ho5 hg5 (Nat.le_succ _) hat5
                  have HP5 := hide hp5; clear hp5 ho5 hg5 hat5
                  go_wp2
                  go_roundw
                  case rel =>
                    have hr : ∃ p' a n c, p' ≤ (oWords o).toNat - (fullWords s o).length ∧ Value.slice va5 (n6 + 1) cap5 = .slice a n c ∧ Out w w5 a n c (fullWords s o ++ List.replicate p' 0) :=
                      ⟨p + 1, _, _, _, by have := unhide HL6; unfold oWords; omega, rfl, by rw [List.replicate_succ', ← List.append_assoc]; exact unhide HP5⟩
                    first | exact hr | ((repeat apply Exists.intro); exact ⟨hr, rfl⟩)
                  case measure => simp [lenOf]; omega
                · go_wp2_with fail
                  go_quiet ((go_at_call 26; refine (refWordsOf_any _ _ _ z3 z4).mono ?_; rintro e w' ⟨rfl, rfl⟩; exact ⟨rfl, _, rfl⟩))
                  have o7 := (unhide HO6).drewN nq
                  generalize wr.drewN nq = w7 at *
                  have HO7 := hide o7; clear o7 HO6 k0' k1'
                  go_wp2
                  go_ret
                  refine ⟨a6, n6, c6, rfl, ?_⟩
                  have e : objWords s o = fullWords s o ++ List.replicate p 0 := by
                    have := unhide HL6
                    have hpe : p = (oWords o).toNat - (fullWords s o).length := by unfold oWords; omega
                    rw [hpe]; rfl
                  rw [e]
                  exact unhide HO7
end Go.Proofs.YtfoncalkgmeklaaGreat

/- Words of the document's heap: all words in use, in their order. -/
namespace Go.Proofs.YtfoncalkgmeklaaGreat
open Go.RowKit

def R.words (s : R) : List Int := s.row.flatMap fun i => objWords s (s.objOf i)

theorem fullWords_len (s : R) (o : RObj) (hv : o.vals.length ≤ 16) (ht : o.text.size ≤ 64) : (fullWords s o).length ≤ 42 := by
  unfold fullWords headWords textWords
  have h3 := valWords_len s o.vals
  have h4 := textTo_len o.text ((o.text.size + 7) / 8)
  simp only [List.length_append]
  have h5 : ([o.kind * 65536 + o.size] ++ if o.kind = 3 then [(o.vals.length : Int) / 2] else []).length ≤ 2 := by split <;> simp
  rw [List.length_append] at h5
  omega
theorem objWords_len (s : R) (o : RObj) (hv : o.vals.length ≤ 16) (ht : o.text.size ≤ 64) (hw : oWords o ≤ 66) : (objWords s o).length ≤ 200 := by
  unfold objWords
  have := fullWords_len s o hv ht
  simp only [List.length_append, List.length_replicate]
  omega

theorem flat_len {α : Type} (f : α → List Int) : ∀ (l : List α), (∀ x ∈ l, (f x).length ≤ 200) → (l.flatMap f).length ≤ 200 * l.length
  | [], _ => by simp
  | x :: r, h => by
    have ih := flat_len f r (fun y hy => h y (List.mem_cons_of_mem _ hy))
    have := h x List.mem_cons_self
    simp only [List.flatMap_cons, List.length_append, List.length_cons]
    omega
/-- A list that the call has made, grown by another list's numbers. -/
theorem Out.app {w wr w1 : World} {a va : Option Addr} {n c m cap H : Nat} {ys zs : List Int} (h : Out w wr a n c ys)
    (ho : w1.ownsRow 0 3 1 (.slice va (n + m) cap) (n + m) (ints ys ++ ints zs)) (hg : wr.grownBy w1 (Value.slice a n c).ownBlock) (hH : wr.heap.size ≤ H)
    (hat : (Value.slice va (n + m) cap).ownBlock = (Value.slice a n c).ownBlock ∨ (Value.slice va (n + m) cap).ownBlock = some H) : Out w w1 va (n + m) cap (ys ++ zs) := by
  refine ⟨by rw [ints_append]; exact ho, fun b hb => ?_, h.chg.grown hg (fun k hk => .inr (h.newer k (ownBlock_ab hk)))⟩
  rcases at_ab hH hat b hb with h1 | h1
  · exact h.newer b h1
  · exact Nat.le_trans h.chg.size h1

set_option maxRecDepth 100000 in
set_option maxHeartbeats 2000000 in
theorem refWords_any {br : Nat} {s : R} {L : RL} {w : World} (h : RRep w br s L) (hi : RInv s) (hbd : RBd s) (htx0 : (∀ o ∈ s.objs, o.text.size ≤ 64) ∧ s.row.length ≤ 512) (hd : s.dead = false) :
    Calls Tryz.prog 73 #[.pointer (some ⟨br, 0, none⟩)] w fun e w' => ∃ a n c, e = .returned (.tuple #[.slice a n c, .int .i64 0]) ∧ Out w w' a n c s.words := by
  obtain ⟨i0, hi0, hz0, hz1, hz2⟩ := info_parts info3
  have c3 := h.ref.cell_of (i := 3) rfl
  rw [hd] at c3
  have htx := htx0.1
  have hrl : s.row.length ≤ 16777216 := Nat.le_trans htx0.2 (by decide)
  clear htx0
  have H := hide h; have HI := hide hi; have HBD := hide hbd; have HTX := hide htx; clear h hi hbd htx hd
  go_enter Tryz.func73, Tryz.ntmps73
  go_wp2_with fail
  clear c3
  go_loopw [4, 5] (fun v i wr => ∃ k a n c, k ≤ s.row.length ∧ i = .int .i64 (k : Nat) ∧ v = .slice a n c ∧ Out w wr a n c ((s.row.take k).flatMap fun i => objWords s (s.objOf i))) (fun _ i _ => s.row.length - (intOf i).toNat)
  case atStart => exact ⟨0, _, _, _, Nat.zero_le _, rfl, rfl, World.ownsRow_nil _ _ _ _, by simp [ab], Chg.refl _ _⟩
  case round =>
    obtain ⟨k, a, n, c, hk, rfl, rfl, ho⟩ := hrel
    have hr := (unhide H).chg ho.chg (by simp)
    have c5 := hr.ref.cell_of (i := 5) rfl
    have c4 := hr.ref.cell_of (i := 4) rfl
    have HO := hide ho; have HR := hide hr; clear ho hr
    by_cases hlt : k < s.row.length
    · obtain ⟨gr, hgr, _, hcr⟩ := owns_at (unhide HR).row (by omega)
      obtain ⟨i, hik⟩ : ∃ i, s.row[k]? = some i := ⟨_, List.getElem?_eq_getElem hlt⟩
      have hil : i < s.objs.length := (unhide HI).rows i (List.mem_of_getElem? hik)
      have cr := hcr _ _ (rowCells_at hik)
      obtain ⟨o, b, va, vc, go, e1, e2, e3, e4, e5, co, hb, hv⟩ := (unhide HR).objAt hil
      have hmem : o ∈ s.objs := List.mem_of_getElem? e1
      rw [e5] at c4
      rw [hgr] at c5
      have hsum : ((s.row.take (k + 1)).flatMap fun i => objWords s (s.objOf i)) = ((s.row.take k).flatMap fun i => objWords s (s.objOf i)) ++ objWords s o := by
        rw [List.take_add_one, hik]; simp only [Option.toList, List.flatMap_append, List.flatMap_cons, List.flatMap_nil, List.append_nil]
        unfold R.objOf; rw [e2]
      have hall : Hid (∀ w', Chg [] wr w' → w'.cell? ⟨br, 4, none⟩ = some (.slice (some ⟨go, 0, none⟩) s.objs.length L.oc) ∧ w'.cell? ⟨br, 5, none⟩ = some (.slice (some ⟨gr, 0, none⟩) s.row.length L.rc) ∧ w'.cell? ⟨gr, k, none⟩ = some (.int .i64 (i : Int)) ∧ w'.cell? ⟨go, i, none⟩ = some (.pointer (some ⟨b, 0, none⟩))) := by
        intro w' hc
        refine ⟨?_, ?_, ?_, ?_⟩
        · rw [hc.cell (World.block_lt_of_cell? wr _ c4) (by simp)]; exact c4
        · rw [hc.cell (World.block_lt_of_cell? wr _ c5) (by simp)]; exact c5
        · rw [hc.cell (World.block_lt_of_cell? wr _ cr) (by simp)]; exact cr
        · rw [hc.cell (World.block_lt_of_cell? wr _ co) (by simp)]; exact co
      have hdr : Chg [] wr wr.drew := (Chg.refl [] wr).drew
      have hrow : Hid (Calls Tryz.prog 114 #[.pointer (some ⟨br, 0, none⟩), .pointer (some ⟨b, 0, none⟩)] wr.drew fun e w' => ∃ a n c, e = .returned (.slice a n c) ∧ Out wr.drew w' a n c (objWords s o)) :=
        refRow_any b o va vc ((unhide HR).chg hdr (by simp)) (unhide HI) (unhide HBD) hmem (hb.chg hdr (by simp)) (owns_chg hv hdr (by simp)) (unhide HTX o hmem)
      have hlen : (objWords s o).length ≤ 200 := objWords_len s o ((unhide HI).valLen o hmem) (unhide HTX o hmem) (words_bd ((unhide HI).kinds o hmem)).2
      have HLEN := hide hlen
      have HS := hide hsum; clear hb hv hsum hdr hlen hik e1 e2 e3 e4 e5 hgr hcr
      have zi : (i : Int) < (s.objs.length : Int) := by omega
      have zk : (k : Int) < (s.row.length : Int) := by omega
      go_wp2_with fail
      go_region_held3 (fun w' => w'.cell? ⟨br, 4, none⟩ = some (.slice (some ⟨go, 0, none⟩) s.objs.length L.oc) ∧ w'.cell? ⟨br, 5, none⟩ = some (.slice (some ⟨gr, 0, none⟩) s.row.length L.rc) ∧ w'.cell? ⟨gr, k, none⟩ = some (.int .i64 (i : Int)) ∧ w'.cell? ⟨go, i, none⟩ = some (.pointer (some ⟨b, 0, none⟩))) (first | go_keep | (apply unhide hall; assumption)) ((go_at_call 114; refine (unhide hrow).mono ?_; rintro e w9 ⟨a9, n9, c9, rfl, ho9⟩; have hc9 : Chg [] wr w9 := ((Chg.refl [] wr).drew).trans ho9.chg; have HO9 := hide ho9; clear ho9))
      have hl9 : n9 ≤ 200 := by have := (unhide HO9).len; have := unhide HLEN; omega
      have ho' : Out w w9 a n c ((s.row.take k).flatMap fun i => objWords s (s.objOf i)) := ⟨owns_chg (unhide HO).own hc9 (by simp), (unhide HO).newer, (unhide HO).chg.trans hc9⟩
      have hnl : n ≤ 200 * 16777216 := by
        have h1 := (unhide HO).len
        have h2 := flat_len (fun i => objWords s (s.objOf i)) (s.row.take k) (fun x hx => by
          have hx' := (unhide HI).rows x (List.mem_of_mem_take hx)
          have hm' : s.objOf x ∈ s.objs := by unfold R.objOf; simp [List.getD, hx']
          exact objWords_len s _ ((unhide HI).valLen _ hm') (unhide HTX _ hm') (words_bd ((unhide HI).kinds _ hm')).2)
        have h3 : (s.row.take k).length ≤ k := List.length_take_le _ _
        omega
      have HO' := hide ho'; have HC9 := hide hc9; clear ho' hc9
      go_wp2_with (at_builtin; go_must (refine wpList_append_gen _ rfl (.tmp 35) (.tmp 36) 26 rfl 3 i0 (.int .i64 0) 1 8 Tryz.underlying26 hi0 hz0 hz1 hz2 rfl (by decide) (.slice a n c) n (ints ((s.row.take k).flatMap fun i => objWords s (s.objOf i))) rfl (unhide HO').own a9 n9 c9 (ints (objWords s o)) rfl ?f4 ?f1 (ints_one _) ?f2 ?f3 ?_))
      case f4 => exact (unhide HO9).own.1
      case f1 => exact fun h0 => by obtain ⟨ad, e, _, hc⟩ := owns_src (unhide HO9).own h0; exact ⟨ad, e, hc⟩
      case f2 => unfold maxLen; omega
      case f3 => omega
      intro va5 cap5 w5 ho5 hg5 hnil5 hat5
      have hp5 := (unhide HO').app (zs := objWords s o) ho5 hg5 (Nat.le_refl _) hat5
      have HP5 := hide hp5; clear hp5 ho5 hg5 hat5 hnil5
      go_wp2
      go_roundw
      case rel => exact ⟨k + 1, _, _, _, by omega, by go_num, rfl, by rw [unhide HS]; exact unhide HP5⟩
      case measure => simp [intOf]; omega
    · have hkn : s.row.take k = s.row := List.take_of_length_le (by omega)
      have hO := unhide HO
      rw [hkn] at hO
      have HO2 := hide hO; clear hO HO hkn
      go_wp2
      go_ret2
      exact ⟨_, _, _, rfl, unhide HO2⟩
end Go.Proofs.YtfoncalkgmeklaaGreat

/- met, Reach: what can be reached, in P12's order. -/
namespace Go.Proofs.YtfoncalkgmeklaaGreat
open Go.RowKit

def natInts (l : List Nat) : List Int := l.map fun (n : Nat) => (n : Int)
theorem rowCells_eq (l : List Nat) : rowCells l = ints (natInts l) := by simp [rowCells, ints, natInts]
def metOf (row : List Nat) (x : Nat) : List Nat := if x ∈ row then row else row ++ [x]
/-- The objects of the live handles of the first k slots. -/
def R.roots (s : R) : Nat → List Nat
  | 0 => []
  | k + 1 => match s.at? (k : Int) with
    | none => s.roots k
    | some h => metOf (s.roots k) (s.handles.getD h rhan0).obj
/-- The objects among the first k values, met. -/
def scanVals (row : List Nat) (vals : List (Int × Int)) : Nat → List Nat
  | 0 => row
  | k + 1 => match vals[k]? with
    | none => scanVals row vals k
    | some v => if v.1 = 2 then metOf (scanVals row vals k) v.2.toNat else scanVals row vals k
/-- The row when its first i objects have been looked into. -/
def R.scanTo (s : R) : Nat → List Nat
  | 0 => s.roots 32
  | i + 1 => match (s.scanTo i)[i]? with
    | none => s.scanTo i
    | some x => scanVals (s.scanTo i) (s.objOf x).vals (s.objOf x).vals.length
def R.reach (s : R) : List Nat := s.scanTo s.objs.length

theorem scanTo_succ (s : R) (i : Nat) : s.scanTo (i + 1) = match (s.scanTo i)[i]? with
    | none => s.scanTo i
    | some x => scanVals (s.scanTo i) (s.objOf x).vals (s.objOf x).vals.length := rfl
theorem roots_succ (s : R) (k : Nat) : s.roots (k + 1) = match s.at? (k : Int) with
    | none => s.roots k
    | some h => metOf (s.roots k) (s.handles.getD h rhan0).obj := rfl
theorem scanVals_succ (row : List Nat) (vals : List (Int × Int)) (k : Nat) : scanVals row vals (k + 1) = match vals[k]? with
    | none => scanVals row vals k
    | some v => if v.1 = 2 then metOf (scanVals row vals k) v.2.toNat else scanVals row vals k := rfl
theorem metOf_mono (row : List Nat) (x : Nat) : row.length ≤ (metOf row x).length := by unfold metOf; split <;> simp
theorem scanVals_mono (row : List Nat) (vals : List (Int × Int)) : ∀ k, row.length ≤ (scanVals row vals k).length
  | 0 => Nat.le_refl _
  | k + 1 => by
    have ih := scanVals_mono row vals k
    rw [scanVals_succ]
    split
    · exact ih
    · split
      · exact Nat.le_trans ih (metOf_mono _ _)
      · exact ih
/-- A row of objects, each once. -/
structure Good (s : R) (row : List Nat) : Prop where
  nodup : row.Nodup
  lt : ∀ i ∈ row, i < s.objs.length
theorem Good.met {s : R} {row : List Nat} {x : Nat} (h : Good s row) (hx : x < s.objs.length) : Good s (metOf row x) := by
  unfold metOf
  split
  · exact h
  · rename_i hn
    refine ⟨?_, ?_⟩
    · rw [List.nodup_append]
      refine ⟨h.nodup, by simp, ?_⟩
      intro a ha b hb
      simp at hb
      subst hb
      intro e
      exact hn (e ▸ ha)
    · intro i hi
      rcases List.mem_append.1 hi with h1 | h1
      · exact h.lt i h1
      · simp at h1; omega
theorem nodup_len : ∀ (n : Nat) (l : List Nat), l.Nodup → (∀ i ∈ l, i < n) → l.length ≤ n
  | 0, l, _, h => by
    cases l with
    | nil => simp
    | cons x r => have := h x List.mem_cons_self; omega
  | n + 1, l, hd, h => by
    have h1 := nodup_len n (l.erase n) (hd.erase n) (fun i hi => by
      have h2 := h i (List.mem_of_mem_erase hi)
      have h3 : i ≠ n := fun e => by
        subst e
        exact (List.Nodup.not_mem_erase hd) hi
      omega)
    have h4 : l.length ≤ (l.erase n).length + 1 := by
      rw [List.length_erase]; split <;> omega
    omega
theorem Good.len {s : R} {row : List Nat} (h : Good s row) : row.length ≤ s.objs.length := nodup_len _ _ h.nodup h.lt
theorem Good.roots {s : R} (hi : RInv s) : ∀ k, Good s (s.roots k)
  | 0 => ⟨by simp [R.roots], by simp [R.roots]⟩
  | k + 1 => by
    have ih := Good.roots hi k
    unfold R.roots
    split
    · exact ih
    · rename_i h hh
      have hl : h < s.handles.length := by
        unfold R.at? at hh
        exact (List.findIdx?_eq_some_iff_getElem.1 hh).1
      refine ih.met ?_
      have := (hi.nums s.handles[h] (List.getElem_mem hl)).2.2
      simpa [List.getD, hl] using this
theorem Good.vals {s : R} {row : List Nat} (hi : RInv s) (h : Good s row) {o : RObj} (ho : o ∈ s.objs) : ∀ k, Good s (scanVals row o.vals k)
  | 0 => h
  | k + 1 => by
    have ih := Good.vals hi h ho k
    unfold scanVals
    split
    · exact ih
    · rename_i v hv
      split
      · rename_i h2
        have := (hi.vals o ho v (List.mem_of_getElem? hv)).2.2 h2
        exact ih.met (by omega)
      · exact ih
theorem objOf_mem {s : R} {x : Nat} (h : x < s.objs.length) : s.objOf x ∈ s.objs := by
  unfold R.objOf; simp [List.getD, h]
theorem Good.scan {s : R} (hi : RInv s) : ∀ i, Good s (s.scanTo i)
  | 0 => Good.roots hi 32
  | i + 1 => by
    have ih := Good.scan hi i
    unfold R.scanTo
    split
    · exact ih
    · rename_i x hx
      exact ih.vals hi (objOf_mem (ih.lt x (List.mem_of_getElem? hx))) _
theorem scan_stop {s : R} {i : Nat} (h : (s.scanTo i).length ≤ i) : ∀ j, s.scanTo (i + j) = s.scanTo i
  | 0 => rfl
  | j + 1 => by
    have ih := scan_stop h j
    rw [← Nat.add_assoc, scanTo_succ, ih, List.getElem?_eq_none (by omega)]
theorem reach_eq {s : R} {i : Nat} (h : (s.scanTo i).length ≤ i) (hi : i ≤ s.objs.length) : s.reach = s.scanTo i := by
  unfold R.reach
  have := scan_stop h (s.objs.length - i)
  rwa [show i + (s.objs.length - i) = s.objs.length by omega] at this
theorem Good.reach {s : R} (hi : RInv s) : Good s s.reach := Good.scan hi _

set_option maxRecDepth 100000 in
set_option maxHeartbeats 1000000 in
theorem refMet_any {w wr : World} {a : Option Addr} {n c : Nat} {row : List Nat} (x : Nat) (ho : Out w wr a n c (natInts row)) (hn : n ≤ 3298534883328) :
    Calls Tryz.prog 138 #[.slice a n c, .int .i64 (x : Int)] wr fun e w' => ∃ a' n' c', e = .returned (.slice a' n' c') ∧ Out w w' a' n' c' (natInts (metOf row x)) := by
  obtain ⟨i0, hi0, hz0, hz1, hz2⟩ := info_parts info3
  have hl : row.length = n := by have := ho.len; simpa [natInts] using this
  have HO := hide ho; have HL := hide hl; clear ho hl
  go_enter Tryz.func138, Tryz.ntmps138
  go_wp2_with fail
  go_loop [5] (fun i => ∃ k : Nat, k ≤ n ∧ i = .int .i64 k ∧ ∀ (j y : Nat), j < k → row[j]? = some y → y ≠ x) (fun i => n - (intOf i).toNat)
  case atStart => exact ⟨0, Nat.zero_le _, rfl, fun j y hj => absurd hj (by omega)⟩
  case round =>
    obtain ⟨k, hk, rfl, hno⟩ := hrel
    have HNO := hide hno; clear hno
    by_cases hlt : k < n
    · obtain ⟨g, hg, _, hc⟩ := owns_at (unhide HO).own (by omega)
      obtain ⟨y, hy⟩ : ∃ y, row[k]? = some y := ⟨_, List.getElem?_eq_getElem (by have := unhide HL; omega)⟩
      have cy := hc k (.int .i64 (y : Int)) (by simp [ints, natInts, hy])
      subst hg
      have HY := hide hy; clear hy hc
      by_cases hxy : y = x
      · have hb : ((y : Int) == (x : Int)) = true := by simp [hxy]
        have hfin : metOf row x = row := by unfold metOf; rw [if_pos (by rw [← hxy]; exact List.mem_of_getElem? (unhide HY))]
        have HF := hide hfin; clear hfin hxy
        go_wp2
        go_ret
        exact ⟨_, _, _, rfl, by rw [unhide HF]; exact unhide HO⟩
      · have hb : ((y : Int) == (x : Int)) = false := by simp; omega
        have HXY := hide hxy; clear hxy
        go_wp2
        go_round
        case rel =>
          refine ⟨k + 1, by omega, by go_num, fun j z hj hz => ?_⟩
          by_cases e : j = k
          · subst e; rw [unhide HY] at hz; cases hz; exact unhide HXY
          · exact unhide HNO j z (by omega) hz
        case measure => simp [intOf]; omega
    · have hfin : metOf row x = row ++ [x] := by
        unfold metOf
        rw [if_neg]
        intro hm
        obtain ⟨j, hj, e⟩ := List.getElem_of_mem hm
        exact unhide HNO j x (by have := unhide HL; omega) (by rw [List.getElem?_eq_getElem hj, e]) rfl
      have HF := hide hfin; clear hfin
      go_wp2_with (at_builtin; go_must (refine wpList_append_gen _ rfl (.tmp 19) (.tmp 21) 26 rfl 3 i0 (.int .i64 0) 1 8 Tryz.underlying26 hi0 hz0 hz1 hz2 rfl (by decide) (.slice a n c) n (ints (natInts row)) rfl ?c0 (some ⟨wr.heap.size, 0, none⟩) 1 1 (ints [(x : Int)]) rfl rfl ?c1 (ints_one _) ?c2 ?c3 ?_))
      case c0 => exact World.ownsRow.alloc (unhide HO).own _
      case c1 => first | exact fun _ => ⟨_, rfl, fun j u hj => by rw [addr_add, Nat.zero_add]; exact (Blk.new wr (ints [(x : Int)]) 3).cell_of hj⟩ | exact fun j u hj => hj
      case c2 => unfold maxLen; omega
      case c3 => omega
      intro va2 cap2 w2 ho hg hat
      have hp := (unhide HO).push _ (m := 1) (zs := [(x : Int)]) (H := wr.heap.size + 1) ho hg (Nat.le_succ _) hat
      have HP := hide hp; clear hp ho hg hat
      go_wp2
      go_ret
      exact ⟨_, _, _, rfl, by rw [unhide HF]; simpa [natInts] using unhide HP⟩

set_option maxRecDepth 100000 in
set_option maxHeartbeats 2000000 in
theorem refReach_any {br : Nat} {s : R} {L : RL} {w : World} (h : RRep w br s L) (hi : RInv s) (hbd : RBd s) :
    Calls Tryz.prog 112 #[.pointer (some ⟨br, 0, none⟩)] w fun e w' => ∃ a n c, e = .returned (.slice a n c) ∧ Out w w' a n c (natInts s.reach) := by
  have hol : s.objs.length ≤ 3298534883328 := hbd.objs
  have hhl : s.handles.length ≤ 3298534883328 := hbd.handles
  have H := hide h; have HI := hide hi; have HBD := hide hbd; clear h hi hbd
  go_enter Tryz.func112, Tryz.ntmps112
  go_wp2_with fail
  go_loopw [3, 4] (fun v i wr => ∃ k a n c, k ≤ 32 ∧ i = .int .i64 (k : Nat) ∧ v = .slice a n c ∧ Out w wr a n c (natInts (s.roots k))) (fun _ i _ => 32 - (intOf i).toNat)
  case atStart => exact ⟨0, _, _, _, Nat.zero_le _, rfl, rfl, World.ownsRow_nil _ _ _ _, by simp [ab], Chg.refl _ _⟩
  case round =>
    obtain ⟨k, a, n, c, hk, rfl, rfl, ho⟩ := hrel
    have hnl : n ≤ 3298534883328 := by
      have h1 := ho.len
      have h2 := (Good.roots (unhide HI) k).len
      simp [natInts] at h1
      omega
    have HO := hide ho; clear ho
    by_cases hlt : k < 32
    · cases hat : s.at? (k : Int) with
      | none =>
        have hfin : s.roots (k + 1) = s.roots k := by rw [roots_succ, hat]
        have HF := hide hfin; have HAT := hide hat; clear hfin hat
        go_wp2_with fail
        refine (refAt_any (k : Int) ((unhide H).chg (unhide HO).chg (by simp)) (unhide HI) (unhide HBD)).mono ?_
        rintro e w' ⟨rfl, rfl⟩
        rw [unhide HAT]
        simp only [posOf]
        go_wp2
        go_roundw
        case rel => exact ⟨k + 1, _, _, _, by omega, by go_num, rfl, by rw [unhide HF]; exact unhide HO⟩
        case measure => simp [intOf]; omega
      | some q =>
        have hql : q < s.handles.length := by
          have := hat
          unfold R.at? at this
          exact (List.findIdx?_eq_some_iff_getElem.1 this).1
        obtain ⟨y, hy⟩ : ∃ y, s.handles[q]? = some y := ⟨_, List.getElem?_eq_getElem hql⟩
        have hfin : s.roots (k + 1) = metOf (s.roots k) y.obj := by rw [roots_succ, hat]; simp [List.getD, hy]
        have hr := (unhide H).chg (unhide HO).chg (by simp)
        obtain ⟨g, hg, _, hc⟩ := owns_at hr.handles (by omega)
        have cy := hc _ _ (hanCells_at _ _ _ hy).2.2.1
        have c6 := hr.ref.cell_of (i := 6) rfl
        rw [hg] at c6
        have HR := hide hr; have HF := hide hfin; have HAT := hide hat; clear hfin hat hr hg hc hy
        go_wp2_with fail
        refine (refAt_any (k : Int) (unhide HR) (unhide HI) (unhide HBD)).mono ?_
        rintro e w' ⟨rfl, rfl⟩
        rw [unhide HAT]
        simp only [posOf]
        go_wp2_with fail
        refine (refMet_any y.obj (unhide HO) hnl).mono ?_
        rintro e w2 ⟨a2, n2, c2, rfl, ho2⟩
        have HO2 := hide ho2; clear ho2 cy c6
        go_wp2
        go_roundw
        case rel => exact ⟨k + 1, _, _, _, by omega, by go_num, rfl, by rw [unhide HF]; exact unhide HO2⟩
        case measure => simp [intOf]; omega
    · have hk32 : k = 32 := by omega
      subst hk32
      go_wp2_with fail
      go_loopw [3, 6] (fun v i wr => ∃ k a n c, k ≤ (s.scanTo k).length ∧ i = .int .i64 (k : Nat) ∧ v = .slice a n c ∧ Out w wr a n c (natInts (s.scanTo k))) (fun _ i _ => s.objs.length - (intOf i).toNat)
      case atStart => exact ⟨0, _, _, _, Nat.zero_le _, rfl, rfl, unhide HO⟩
      case round =>
        obtain ⟨k, a', n', c', hk', rfl, rfl, ho'⟩ := hrel
        have hl' : (s.scanTo k).length = n' := by have := ho'.len; simpa [natInts] using this
        have hgd := Good.scan (unhide HI) k
        have hnl' : n' ≤ 3298534883328 := by have := hgd.len; omega
        have hko : k ≤ s.objs.length := by have := hgd.len; omega
        have hr := (unhide H).chg ho'.chg (by simp)
        have c4 := hr.ref.cell_of (i := 4) rfl
        have HO' := hide ho'; have HR := hide hr; clear ho' hr HO
        by_cases hlt' : k < n'
        · obtain ⟨x, hx⟩ : ∃ x, (s.scanTo k)[k]? = some x := ⟨_, List.getElem?_eq_getElem (by omega)⟩
          have hxl : x < s.objs.length := hgd.lt x (List.mem_of_getElem? hx)
          have hklt : k < s.objs.length := by have := hgd.len; omega
          obtain ⟨g, hg, _, hc⟩ := owns_at (unhide HO').own (by omega)
          have cx := hc k (.int .i64 (x : Int)) (by simp [ints, natInts, hx])
          obtain ⟨o, b, va, vc, go, e1, e2, e3, e4, e5, co0, hb, hv⟩ := (unhide H).objAt hxl
          have co : wr.cell? ⟨go, x, none⟩ = some (.pointer (some ⟨b, 0, none⟩)) := by rw [(unhide HO').chg.cell (World.block_lt_of_cell? w _ co0) (by simp)]; exact co0
          have hmem : o ∈ s.objs := List.mem_of_getElem? e1
          have hoo : s.objOf x = o := e2
          have hsc : s.scanTo (k + 1) = scanVals (s.scanTo k) o.vals o.vals.length := by rw [scanTo_succ, hx]; simp only [hoo]
          rw [e5] at c4
          subst hg
          have HSC := hide hsc; have HB := hide hb; have HV := hide hv; have HGD := hide hgd; have HL' := hide hl'
          clear hsc hb hv hx hc e1 e2 e3 e4 e5 hgd hl' hoo
          have zk : (k : Int) < (n' : Int) := by omega
          go_wp2_with fail
          go_quiet (fail)
          go_wp2_with fail
          have ho9 := (unhide HO').drewN nq
          generalize wr.drewN nq = w9 at *
          have HO9 := hide ho9; clear ho9 HO' HR c4 cx co co0
          have vl : o.vals.length ≤ 16 := (unhide HI).valLen o hmem
          go_loopw [3, 8] (fun v i wr => ∃ j a n c, j ≤ o.vals.length ∧ i = .int .i64 (j : Nat) ∧ v = .slice a n c ∧ Out w wr a n c (natInts (scanVals (s.scanTo k) o.vals j))) (fun _ i _ => o.vals.length - (intOf i).toNat)
          case atStart => exact ⟨0, _, _, _, Nat.zero_le _, rfl, rfl, unhide HO9⟩
          case round =>
            obtain ⟨j, a7, n7, c7, hj, rfl, rfl, ho7⟩ := hrel
            have hn7 : n7 ≤ 3298534883328 := by
              have h1 := ho7.len
              have h2 := ((unhide HGD).vals (unhide HI) hmem j).len
              simp [natInts] at h1
              omega
            have k2 := ((unhide HB).chg ho7.chg (by simp)).cell_of (i := 2) rfl
            have HO7 := hide ho7; clear ho7 HO9
            by_cases hjl : j < o.vals.length
            · obtain ⟨gv, hgv, _, hcv⟩ := owns_at (owns_chg (unhide HV) (unhide HO7).chg (by simp)) (by omega)
              obtain ⟨v, hvj⟩ : ∃ v, o.vals[j]? = some v := ⟨_, List.getElem?_eq_getElem hjl⟩
              have cc := valCells_at _ _ _ hvj
              have d0 := hcv _ _ cc.1
              have d1 := hcv _ _ cc.2
              have hvi := (unhide HI).vals o hmem v (List.mem_of_getElem? hvj)
              rw [hgv] at k2
              have hss := scanVals_succ (s.scanTo k) o.vals j
              rw [hvj] at hss
              simp only at hss
              obtain ⟨p, q⟩ := v
              by_cases hp2 : p = 2
              · have hb2 : (p == 2) = true := by simp [hp2]
                obtain ⟨hq0, hq1⟩ := hvi.2.2 hp2
                obtain ⟨y, rfl⟩ := Int.eq_ofNat_of_zero_le hq0
                simp only at hss
                rw [if_pos hp2, Int.toNat_natCast] at hss
                have HSS := hide hss; clear hss hp2 hvi hgv hcv cc hvj
                go_wp2_with fail
                refine (refMet_any y (unhide HO7) hn7).mono ?_
                rintro e w2 ⟨a2, n2, c2, rfl, ho2⟩
                have HO2 := hide ho2; clear ho2 d0 d1 k2
                go_wp2
                go_roundw
                case rel =>
                  have hr : ∃ j' a n c, j' ≤ o.vals.length ∧ Value.int .i64 ((j : Int) + 1) = .int .i64 (j' : Nat) ∧ Value.slice a2 n2 c2 = .slice a n c ∧ Out w w2 a n c (natInts (scanVals (s.scanTo k) o.vals j')) :=
                    ⟨j + 1, _, _, _, by omega, by go_num, rfl, by rw [unhide HSS]; exact unhide HO2⟩
                  first | exact hr | ((repeat apply Exists.intro); exact ⟨hr, rfl⟩)
                case measure => simp [intOf]; omega
              · have hb2 : (p == 2) = false := by simp [hp2]
                simp only at hss
                rw [if_neg hp2] at hss
                have HSS := hide hss; clear hss hp2 hvi hgv hcv cc hvj
                go_wp2
                go_roundw
                case rel => exact ⟨j + 1, _, _, _, by omega, by go_num, rfl, by rw [unhide HSS]; exact unhide HO7⟩
                case measure => simp [intOf]; omega
            · have hje : j = o.vals.length := by omega
              have hO := unhide HO7
              rw [hje, ← unhide HSC] at hO
              have hmono : k + 1 ≤ (s.scanTo (k + 1)).length := by
                have h1 := scanVals_mono (s.scanTo k) o.vals o.vals.length
                rw [← unhide HSC] at h1
                have := unhide HL'
                omega
              have HO8 := hide hO; clear hO HO7 hje
              go_wp2
              go_roundw
              case rel =>
                first
                  | exact ⟨k + 1, _, _, _, hmono, by go_num, rfl, unhide HO8⟩
                  | ((repeat apply Exists.intro); exact ⟨⟨k + 1, _, _, _, hmono, by go_num, rfl, unhide HO8⟩, rfl⟩)
              case measure => simp [intOf]; omega
        · have hstop : s.reach = s.scanTo k := reach_eq (by omega) hko
          have HST := hide hstop; clear hstop c4
          go_wp2
          go_ret
          exact ⟨_, _, _, rfl, by rw [unhide HST]; exact unhide HO'⟩
end Go.Proofs.YtfoncalkgmeklaaGreat

/- The document's heap behind a change of one of its parts. -/
namespace Go.Proofs.YtfoncalkgmeklaaGreat
open Go.RowKit

theorem foot_br (br : Nat) (L : RL) : br ∈ L.foot br := by simp [RL.foot]
theorem foot_ra {br : Nat} {L : RL} {b : Nat} (h : b ∈ ab L.ra) : b ∈ L.foot br := by simp [RL.foot, h]
theorem foot_oa {br : Nat} {L : RL} {b : Nat} (h : b ∈ ab L.oa) : b ∈ L.foot br := by simp [RL.foot, h]
theorem foot_ha {br : Nat} {L : RL} {b : Nat} (h : b ∈ ab L.ha) : b ∈ L.foot br := by simp [RL.foot, h]
theorem foot_obs {br : Nat} {L : RL} {b : Nat} (h : b ∈ L.obs) : b ∈ L.foot br := by simp [RL.foot, h]
theorem foot_vas {br : Nat} {L : RL} {b : Nat} {v : Option Addr × Nat} (hv : v ∈ L.vas) (h : b ∈ ab v.1) : b ∈ L.foot br := by
  simp only [RL.foot, List.mem_cons, List.mem_append, List.mem_flatMap]
  exact .inr (.inr ⟨v, hv, h⟩)
theorem foot_cases {br : Nat} {L : RL} {b : Nat} (h : b ∈ L.foot br) : b = br ∨ b ∈ ab L.fa ∨ b ∈ ab L.oa ∨ b ∈ ab L.ra ∨ b ∈ ab L.ha ∨ b ∈ L.obs ∨ ∃ v ∈ L.vas, b ∈ ab v.1 := by
  simp only [RL.foot, List.mem_cons, List.mem_append, List.mem_flatMap] at h
  rcases h with h | ((((h | h) | h) | h) | h) | h
  · exact .inl h
  · exact .inr (.inl h)
  · exact .inr (.inr (.inl h))
  · exact .inr (.inr (.inr (.inl h)))
  · exact .inr (.inr (.inr (.inr (.inl h))))
  · exact .inr (.inr (.inr (.inr (.inr (.inl h)))))
  · exact .inr (.inr (.inr (.inr (.inr (.inr h)))))
theorem foot_fa {br : Nat} {L : RL} {b : Nat} (h : b ∈ ab L.fa) : b ∈ L.foot br := by simp [RL.foot, h]
/-- A footprint that differs in one part. -/
theorem foot_sub {br : Nat} {L L' : RL} {N : Nat} (h1 : ∀ b ∈ ab L'.fa, b ∈ L.foot br ∨ N ≤ b) (h2 : ∀ b ∈ ab L'.oa, b ∈ L.foot br ∨ N ≤ b) (h3 : ∀ b ∈ ab L'.ra, b ∈ L.foot br ∨ N ≤ b) (h4 : ∀ b ∈ ab L'.ha, b ∈ L.foot br ∨ N ≤ b)
    (h5 : ∀ b ∈ L'.obs, b ∈ L.foot br ∨ N ≤ b) (h6 : ∀ v ∈ L'.vas, ∀ b ∈ ab v.1, b ∈ L.foot br ∨ N ≤ b) : ∀ b ∈ L'.foot br, b ∈ L.foot br ∨ N ≤ b := by
  intro b hb
  rcases foot_cases hb with rfl | hb | hb | hb | hb | hb | ⟨v, hv, hb⟩
  · exact .inl (foot_br _ _)
  · exact h1 b hb
  · exact h2 b hb
  · exact h3 b hb
  · exact h4 b hb
  · exact h5 b hb
  · exact h6 v hv b hb

/-- A number of the heap's own block is stored. -/
theorem RRep.store {w : World} {br : Nat} {s s' : R} {L : RL} (h : RRep w br s L) (i : Nat) (v : Value) (e1 : s'.flags = s.flags) (e2 : s'.objs = s.objs) (e3 : s'.row = s.row) (e4 : s'.handles = s.handles)
    (hc : (refCells s.limit (.slice L.fa s.flags.length L.fc) s.made s.dead (.slice L.oa s.objs.length L.oc) (.slice L.ra s.row.length L.rc) (.slice L.ha s.handles.length L.hc) s.scopes).set i v =
      refCells s'.limit (.slice L.fa s.flags.length L.fc) s'.made s'.dead (.slice L.oa s.objs.length L.oc) (.slice L.ra s.row.length L.rc) (.slice L.ha s.handles.length L.hc) s'.scopes) :
    RRep (w.setCell ⟨br, i, none⟩ v) br s' L ∧ Stp (L.foot br) w (L.foot br) (w.setCell ⟨br, i, none⟩ v) := by
  have k : Chg [br] w (w.setCell ⟨br, i, none⟩ v) := (Chg.refl _ _).setCell (.inl (by simp)) _
  have hS : ∀ b ∈ [br], Ty w b 53 ∨ Ty w b 53 := by intro b hb; simp at hb; subst hb; exact .inl h.ref.ty
  refine ⟨h.upd k hS e1 e2 ⟨rfl, rfl, rfl, rfl, rfl, rfl⟩ (by decide) (by decide) (by decide) (by decide) ?_ ?_ ?_, ⟨k.mono (fun x hx => by simp at hx; subst hx; exact foot_br _ _), fun b hb => .inl hb⟩⟩
  · have := h.ref.setCell i v
    rw [hc] at this
    rw [e1, e2, e3, e4]; exact this
  · rw [e3]; exact owns_chg_ty h.row k (not_ty hS (by decide) (by decide))
  · rw [e4]; exact owns_chg_ty h.handles k (not_ty hS (by decide) (by decide))

/-- The heap's row becomes another one, which has just been made. -/
theorem RRep.setRow {w w1 : World} {br : Nat} {s : R} {L : RL} (h : RRep w br s L) {a : Option Addr} {n c : Nat} {row : List Nat} (ho : Out w w1 a n c (natInts row)) :
    RRep (w1.setCell ⟨br, 5, none⟩ (.slice a n c)) br { s with row := row } { L with ra := a, rc := c } ∧ Stp (L.foot br) w (({ L with ra := a, rc := c } : RL).foot br) (w1.setCell ⟨br, 5, none⟩ (.slice a n c)) := by
  have hl : row.length = n := by have := ho.len; simpa [natInts] using this
  have k : Chg [br] w (w1.setCell ⟨br, 5, none⟩ (.slice a n c)) := (ho.chg.mono (by simp)).setCell (.inl (by simp)) _
  have hS : ∀ b ∈ [br], Ty w b 53 ∨ Ty w b 53 := by intro b hb; simp at hb; subst hb; exact .inl h.ref.ty
  refine ⟨h.upd k hS rfl rfl ⟨rfl, rfl, rfl, rfl, rfl, rfl⟩ (by decide) (by decide) (by decide) (by decide) ?_ ?_ (owns_chg_ty h.handles k (not_ty hS (by decide) (by decide))), ⟨k.mono (fun x hx => by simp at hx; subst hx; exact foot_br _ _), ?_⟩⟩
  · have := (h.ref.chg ho.chg (by simp)).setCell 5 (.slice a n c)
    simpa [refCells, hl] using this
  · rw [rowCells_eq]
    simp only [hl]
    exact ownsRow_setCell_other' ho.own (fun g hg e => by
      have h1 := ho.newer g (ownBlock_ab hg)
      have h2 := h.ref.lt
      simp at e
      omega) _
  · exact foot_sub (fun b hb => .inl (foot_fa hb)) (fun b hb => .inl (foot_oa hb)) (fun b hb => .inr (ho.newer b hb)) (fun b hb => .inl (foot_ha hb)) (fun b hb => .inl (foot_obs hb)) (fun v hv b hb => .inl (foot_vas hv hb))

/-- One object more behind the heap's row. -/
theorem RRep.pushRow {w w0 w1 : World} {br : Nat} {s : R} {L : RL} (h : RRep w br s L) (x : Nat) (hw0 : Chg [] w w0) {va : Option Addr} {cap H : Nat}
    (ho : w1.ownsRow 0 3 1 (.slice va (s.row.length + 1) cap) (s.row.length + 1) (rowCells s.row ++ rowCells [x]))
    (hg : w0.grownBy w1 (Value.slice L.ra s.row.length L.rc).ownBlock) (hH : w.heap.size ≤ H)
    (hat : (Value.slice va (s.row.length + 1) cap).ownBlock = (Value.slice L.ra s.row.length L.rc).ownBlock ∨ (Value.slice va (s.row.length + 1) cap).ownBlock = some H) :
    RRep (w1.setCell ⟨br, 5, none⟩ (.slice va (s.row.length + 1) cap)) br { s with row := s.row ++ [x] } { L with ra := va, rc := cap } ∧
      Stp (L.foot br) w (({ L with ra := va, rc := cap } : RL).foot br) (w1.setCell ⟨br, 5, none⟩ (.slice va (s.row.length + 1) cap)) := by
  have k1 : Chg (ab L.ra) w w1 := grown_ab (S := []) hw0 hg
  have k2 : Chg (br :: ab L.ra) w (w1.setCell ⟨br, 5, none⟩ (.slice va (s.row.length + 1) cap)) := (k1.mono (fun x hx => by simp [hx])).setCell (.inl (by simp)) _
  have hS : ∀ b ∈ br :: ab L.ra, Ty w b 53 ∨ Ty w b 3 := by
    intro b hb
    rcases List.mem_cons.1 hb with rfl | hb
    · exact .inl h.ref.ty
    · exact .inr (owns_ty h.row b hb)
  have hbr : Blk w1 br _ 53 := h.ref.chg_ty k1 (fun b hb => (owns_ty h.row b hb).ne (by decide))
  refine ⟨h.upd k2 hS rfl rfl ⟨rfl, rfl, rfl, rfl, rfl, rfl⟩ (by decide) (by decide) (by decide) (by decide) ?_ ?_ (owns_chg_ty h.handles k2 (not_ty hS (by decide) (by decide))), ⟨k2.mono (fun x hx => by
    rcases List.mem_cons.1 hx with rfl | hx
    · exact foot_br _ _
    · exact foot_ra hx), ?_⟩⟩
  · have := hbr.setCell 5 (.slice va (s.row.length + 1) cap)
    simpa [refCells] using this
  · have := ownsRow_setCell_other' ho (p := ⟨br, 5, none⟩) (fun g hgv e => by
      simp at e
      subst e
      exact (owns_ty ho g (ownBlock_ab hgv)).ne (by decide) hbr.ty) (.slice va (s.row.length + 1) cap)
    simpa [rowCells] using this
  · refine foot_sub (fun b hb => .inl (foot_fa hb)) (fun b hb => .inl (foot_oa hb)) (fun b hb => ?_) (fun b hb => .inl (foot_ha hb)) (fun b hb => .inl (foot_obs hb)) (fun v hv b hb => .inl (foot_vas hv hb))
    rcases at_ab hH hat b hb with h1 | h1
    · exact .inl (foot_ra h1)
    · exact .inr h1

/-- One object more. -/
theorem RRep.pushObj {w w0 w1 : World} {br : Nat} {s : R} {L : RL} (h : RRep w br s L) (o : RObj) (b : Nat) (oa' : Option Addr) (oc' : Nat) (hw0 : Chg [] w w0) {va : Option Addr} {cap H : Nat}
    (hb : Blk w b (objCells o (.slice oa' o.vals.length oc')) 72) (hv : w.ownsRow 0 33 2 (.slice oa' o.vals.length oc') o.vals.length (valCells o.vals))
    (hbn : b ∉ L.obs) (hvn : ∀ v ∈ L.vas, ∀ x ∈ ab v.1, x ∉ ab oa')
    (ho : w1.ownsRow 0 68 1 (.slice va (s.objs.length + 1) cap) (s.objs.length + 1) (L.obs.map ptr ++ [ptr b]))
    (hg : w0.grownBy w1 (Value.slice L.oa s.objs.length L.oc).ownBlock) (hH : w.heap.size ≤ H)
    (hat : (Value.slice va (s.objs.length + 1) cap).ownBlock = (Value.slice L.oa s.objs.length L.oc).ownBlock ∨ (Value.slice va (s.objs.length + 1) cap).ownBlock = some H) :
    RRep (w1.setCell ⟨br, 4, none⟩ (.slice va (s.objs.length + 1) cap)) br { s with objs := s.objs ++ [o] } { L with oa := va, oc := cap, obs := L.obs ++ [b], vas := L.vas ++ [(oa', oc')] } ∧
      Chg (br :: ab L.oa) w (w1.setCell ⟨br, 4, none⟩ (.slice va (s.objs.length + 1) cap)) ∧ (∀ x ∈ ab va, x ∈ ab L.oa ∨ w.heap.size ≤ x) := by
  have k1 : Chg (ab L.oa) w w1 := grown_ab (S := []) hw0 hg
  have k2 : Chg (br :: ab L.oa) w (w1.setCell ⟨br, 4, none⟩ (.slice va (s.objs.length + 1) cap)) := (k1.mono (fun x hx => by simp [hx])).setCell (.inl (by simp)) _
  have hS : ∀ b ∈ br :: ab L.oa, Ty w b 53 ∨ Ty w b 68 := by
    intro b hb
    rcases List.mem_cons.1 hb with rfl | hb
    · exact .inl h.ref.ty
    · exact .inr (owns_ty h.objs b hb)
  have hbr : Blk w1 br _ 53 := h.ref.chg_ty k1 (fun b hb => (owns_ty h.objs b hb).ne (by decide))
  have hol := h.olen
  have hvl := h.vlen
  refine ⟨⟨?_, owns_chg_ty h.flags k2 (not_ty hS (by decide) (by decide)), ?_, owns_chg_ty h.row k2 (not_ty hS (by decide) (by decide)), owns_chg_ty h.handles k2 (not_ty hS (by decide) (by decide)), by simp [hvl], ?_, ?_, ?_⟩, k2, at_ab hH hat⟩
  · have := hbr.setCell 4 (.slice va (s.objs.length + 1) cap)
    simpa [refCells] using this
  · have := ownsRow_setCell_other' ho (p := ⟨br, 4, none⟩) (fun g hgv e => by
      simp at e
      subst e
      exact (owns_ty ho g (ownBlock_ab hgv)).ne (by decide) hbr.ty) (.slice va (s.objs.length + 1) cap)
    simpa using this
  · intro i oi bi vi h1 h2 h3
    by_cases hi : i < s.objs.length
    · rw [List.getElem?_append_left hi] at h1
      rw [List.getElem?_append_left (by omega)] at h2
      rw [List.getElem?_append_left (by omega)] at h3
      obtain ⟨x, y⟩ := h.obj i oi bi vi h1 h2 h3
      exact ⟨x.chg_ty k2 (not_ty hS (by decide) (by decide)), owns_chg_ty y k2 (not_ty hS (by decide) (by decide))⟩
    · rw [List.getElem?_append_right (by omega)] at h1 h2 h3
      rw [hol] at h2
      rw [hvl] at h3
      have hi0 : i - s.objs.length = 0 := by
        rcases Nat.eq_zero_or_pos (i - s.objs.length) with h0 | h0
        · exact h0
        · rw [List.getElem?_eq_none (by simp; omega)] at h1; cases h1
      rw [hi0] at h1 h2 h3
      simp at h1 h2 h3
      subst h1 h2 h3
      exact ⟨hb.chg_ty k2 (not_ty hS (by decide) (by decide)), owns_chg_ty hv k2 (not_ty hS (by decide) (by decide))⟩
  · rw [List.nodup_append]
    refine ⟨h.onodup, by simp, ?_⟩
    intro x hx y hy e
    simp at hy
    subst hy
    exact hbn (e ▸ hx)
  · intro i j u v a' b' h1 h2 ha hb' hab
    have bound : ∀ {i : Nat} {u : Option Addr × Nat}, (L.vas ++ [(oa', oc')])[i]? = some u → (i < L.vas.length ∧ L.vas[i]? = some u) ∨ (i = L.vas.length ∧ u = (oa', oc')) := by
      intro i u hu
      by_cases hi : i < L.vas.length
      · rw [List.getElem?_append_left hi] at hu; exact .inl ⟨hi, hu⟩
      · rw [List.getElem?_append_right (by omega)] at hu
        rcases Nat.eq_zero_or_pos (i - L.vas.length) with h0 | h0
        · rw [h0] at hu; simp at hu; exact .inr ⟨by omega, hu.symm⟩
        · rw [List.getElem?_eq_none (by simp; omega)] at hu; cases hu
    rcases bound h1 with ⟨_, g1⟩ | ⟨g1, rfl⟩
    · rcases bound h2 with ⟨_, g2⟩ | ⟨g2, rfl⟩
      · exact h.vnodup i j u v a' b' g1 g2 ha hb' hab
      · exact absurd (by rw [hab]; exact mem_ab hb') (hvn u (List.mem_of_getElem? g1) a'.block (mem_ab ha))
    · rcases bound h2 with ⟨_, g2⟩ | ⟨g2, rfl⟩
      · exact absurd (by rw [← hab]; exact mem_ab ha) (hvn v (List.mem_of_getElem? g2) b'.block (mem_ab hb'))
      · omega
end Go.Proofs.YtfoncalkgmeklaaGreat

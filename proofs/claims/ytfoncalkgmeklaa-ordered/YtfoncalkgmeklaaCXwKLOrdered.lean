/- gripkeep.Ordered, of a program that keeps the document. -/
import Derived.Test.YtfoncalkgmeklaaXwM53
import Derived.Test.YtfoncalkgmeklaaXwM46
import Derived.Deep.RegionLaw
namespace Go.Proofs.Ytfoncalkgmeklaa
open Go.RowKit

theorem OS.le {room : Int} {ks vs : List Int} {s : R} (h : OS room ks vs s) : (ks.length : Int) ≤ room := by
  have hm : s.objOf 0 ∈ s.objs := by
    unfold R.objOf
    simp only [List.getD, List.getElem?_eq_getElem h.len, Option.getD_some]
    exact List.getElem_mem h.len
  have := (h.hb.all.ok.sh.tab _ hm h.kind).2
  rw [h.vals, ord_len ks vs h.eq, h.size] at this
  omega
theorem Lst.frozen {w0 w : World} {g n c : Nat} {l : List Int} {F : List Nat} (h : Lst w0 w (some ⟨g, 0, none⟩) n c l F) (i : Nat) : w.frozen? ⟨g, i, none⟩ = false := by
  obtain ⟨rest, hb, _⟩ := owns_blk h.own
  exact hb.frozen _
theorem Lst.setAt {w0 w : World} {g n c : Nat} {l : List Int} {F : List Nat} (h : Lst w0 w (some ⟨g, 0, none⟩) n c l F) {i : Nat} (hi : i < n) (v : Int) : Lst w0 (w.setCell ⟨g, i, none⟩ (.int .i64 v)) (some ⟨g, 0, none⟩) n c (l.set i v) F ∧ Chg [g] w (w.setCell ⟨g, i, none⟩ (.int .i64 v)) := by
  have hl := h.len
  obtain ⟨rest, hb, h1, h2, h3, _⟩ := owns_blk h.own
  have hb' := hb.setCell i (.int .i64 v)
  rw [List.set_append_left _ _ (by simp [ints]; omega)] at hb'
  have hown := hb'.owns (size := 1) (base := 0) (n := n) (cap := c) (Nat.zero_le _) h1 h2 (by simpa using h3)
  rw [List.take_append_of_le_length (by simp [ints]; omega), List.take_of_length_le (by simp [ints]; omega)] at hown
  exact ⟨⟨by simpa [ints, List.map_set] using hown, by simpa using hl, h.out⟩, (Chg.refl _ w).setCell (.inl (by simp)) _⟩
set_option maxRecDepth 100000 in
set_option maxHeartbeats 16000000 in
theorem walk_ordered {w : World} {G : World → Nat → R → List Nat → Prop} {J : R → Prop} (hP : KP G J) (a : Option Addr) (n c : Nat) (fs : List Bool) (hnc : n ≤ c) (hl : fs.length = n) (hf : FlagsAt w a fs) (_ : n ≤ 140737488351232)
    (rm : Int) (hrm : I64 rm) (pa : Option Addr) (pn pc : Nat) (ps : List Int) (hpn : ps.length = pn) (hpi : ∀ x ∈ ps, I64 x) (hpa : IntsAt w pa ps) (hpb : pn ≤ 17592186044416) :
    Calls Try.prog 7 #[.slice a n c, .int .i64 rm, .slice pa pn pc] w fun e w' => e = .returned (.bool true) ∧ Chg [] w w' := by
  obtain ⟨i0, hi0, hz0, hz1, hz2⟩ := info_parts info3
  have hrq := pickQ_lt rm (n := 9) (by omega)
  obtain ⟨hr0, hr9⟩ := hrq
  obtain ⟨s1, e1, o1⟩ := OS.start (room := pickQ rm 9) ⟨hr0, by omega⟩ (fs.take 64) (by simp; omega)
  have HPN := hide hpn; have HPI := hide hpi; have HPA := hide hpa; have E1 := hide e1; have O1 := hide o1; have HF := hide hf; have HL := hide hl; have HRM := hide hrm
  clear hpn hpi hpa e1 o1 hf hl hrm
  go_enter Try.func7, Try.ntmps7
  go_wp2_with fail
  refine (whole_any hP a n c fs w (unhide HL) hnc (unhide HF)).mono ?_
  rintro e w1 ⟨bh, F1, rfl, k1, n1⟩
  have K1 := hide k1; have N1 := hide n1; clear k1 n1
  go_wp2_with fail
  refine (pick_any rm 9 _ (unhide HRM) (by omega) (by omega)).mono ?_
  rintro e w1' ⟨rfl, hw1⟩
  subst hw1
  go_wp2_with fail
  refine ((unhide K1).table hP (by omega) (pickQ rm 9) ⟨by omega, by omega⟩ (unhide E1)).mono ?_
  rintro e w2 ⟨F2, rfl, k2, st2⟩
  have n2 := (unhide N1).stp st2
  have K2 := hide k2; have N2 := hide n2; clear k2 n2 st2 K1 N1 E1
  generalize pickQ rm 9 = room at *
  go_wp2_with fail
  go_loopw [10, 11, 12, 13, 14, 15, 16, 17, 18] (fun _ v11 v12 i _ _ _ _ _ wr => ∃ (k : Nat) (s : R) (F : List Nat) (ka va : Option Addr) (m kc vc : Nat) (ks vs : List Int), v11 = .slice ka m kc ∧ v12 = .slice va m vc ∧ i = .int .i64 k ∧ k ≤ pn ∧ KS G J wr bh s F (1 + 3 * k) ∧ Newer w wr F ∧ OS room ks vs s ∧ Lst w wr ka m kc ks F ∧ Lst w wr va m vc vs F ∧ (∀ x ∈ ab ka, x ∉ ab va) ∧ (∀ x ∈ ks, 0 ≤ x ∧ x < 12)) (fun _ _ _ i _ _ _ _ _ _ => pn - (intOf i).toNat)
  case atStart => exact ⟨0, s1, F2, none, none, 0, 0, 0, [], [], rfl, rfl, rfl, Nat.zero_le _, unhide K2, unhide N2, unhide O1, Lst.nil _ _ _, Lst.nil _ _ _, by simp [ab], by simp⟩
  case round =>
    obtain ⟨k, s, F, ka, va, m, kc, vc, ks, vs, rfl, rfl, rfl, hk, hks, hnw, hos, hkl, hvl, hap, hkb⟩ := hrel
    clear K2 N2 O1
    have hm8 : m ≤ 8 := by have := hos.le; have := hkl.len; omega
    by_cases hlt : k < pn
    · obtain ⟨p, hp⟩ : ∃ p, ps[k]? = some p := ⟨_, List.getElem?_eq_getElem (by rw [unhide HPN]; exact hlt)⟩
      have hpp := unhide HPI p (List.mem_of_getElem? hp)
      obtain ⟨pb, poff, hpae, hpbw, hpc⟩ := unhide HPA (by rw [unhide HPN]; omega)
      subst hpae
      have hcp : ∀ w', Chg [] w w' → w'.cell? ⟨pb, poff + k, none⟩ = some (.int .i64 p) := fun w' kw => by rw [kw.cell hpbw (by simp)]; exact hpc k p hp
      have q0 := hcp _ hnw.1
      have zk : (k : Int) < (pn : Int) := by omega
      have hcq := pickQ_lt p (n := 1099511627776) (by omega)
      have hwh := where_any (c := kc) (k := pickQ p 1099511627776 / 8 % 12) hkl.len (by omega) hkl.at
      have HKS := hide hks; have HNW := hide hnw; have HOS := hide hos; have HKL := hide hkl; have HVL := hide hvl; have HAP := hide hap; have HKB := hide hkb; have HCP := hide hcp; have HPP := hide hpp; have HWH := hide hwh
      clear hks hnw hos hkl hvl hap hkb hcp hpc hp hwh hpbw
      go_wp2_with fail
      refine (pick_any p 1099511627776 _ (unhide HPP) (by omega) (by omega)).mono ?_
      rintro e w3 ⟨rfl, hw3⟩
      subst hw3
      go_wp2_with fail
      refine (unhide HWH).mono ?_
      rintro e w4 ⟨rfl, hw4⟩
      subst hw4
      have hk12 : 0 ≤ pickQ p 1099511627776 / 8 % 12 ∧ pickQ p 1099511627776 / 8 % 12 < 12 := by omega
      have hsw : ((pickQ p 1099511627776).tmod 8 == 0) = true ∨ (((pickQ p 1099511627776).tmod 8 == 0) = false ∧ ((pickQ p 1099511627776).tmod 8 == 1) = true) ∨ (((pickQ p 1099511627776).tmod 8 == 0) = false ∧ ((pickQ p 1099511627776).tmod 8 == 1) = false ∧ ((pickQ p 1099511627776).tmod 8 == 2) = true) ∨
          (((pickQ p 1099511627776).tmod 8 == 0) = false ∧ ((pickQ p 1099511627776).tmod 8 == 1) = false ∧ ((pickQ p 1099511627776).tmod 8 == 2) = false ∧ (((pickQ p 1099511627776).tmod 8 == 3) = true ∨ (((pickQ p 1099511627776).tmod 8 == 3) = false ∧ ((pickQ p 1099511627776).tmod 8 == 4) = true) ∨ (((pickQ p 1099511627776).tmod 8 == 3) = false ∧ ((pickQ p 1099511627776).tmod 8 == 4) = false ∧ ((pickQ p 1099511627776).tmod 8 == 5) = true) ∨ (((pickQ p 1099511627776).tmod 8 == 3) = false ∧ ((pickQ p 1099511627776).tmod 8 == 4) = false ∧ ((pickQ p 1099511627776).tmod 8 == 5) = false))) := by
        rw [Int.tmod_eq_emod_of_nonneg hcq.1]
        have h8 : pickQ p 1099511627776 % 8 = 0 ∨ pickQ p 1099511627776 % 8 = 1 ∨ pickQ p 1099511627776 % 8 = 2 ∨ pickQ p 1099511627776 % 8 = 3 ∨ pickQ p 1099511627776 % 8 = 4 ∨ pickQ p 1099511627776 % 8 = 5 ∨ pickQ p 1099511627776 % 8 = 6 ∨ pickQ p 1099511627776 % 8 = 7 := by omega
        rcases h8 with h | h | h | h | h | h | h | h <;> simp [h]
      clear HWH hcq
      generalize pickQ p 1099511627776 / 8 % 12 = kk at *
      generalize pickQ p 1099511627776 = cq at *
      obtain ⟨hk0, hk11⟩ := id hk12
      rcases hsw with h0 | ⟨h0, h1⟩ | ⟨h0, h1, h2⟩ | ⟨h0, h1, h2, hsw⟩
      · by_cases hin : kk ∈ ks
        · have hlt2 : ks.idxOf kk < ks.length := List.idxOf_lt_length_iff.2 hin
          have hw : whereQ ks kk = (ks.idxOf kk : Int) := by unfold whereQ; rw [if_pos hlt2]
          obtain ⟨s', ep, op⟩ := (unhide HOS).putOld (i := (k : Int)) hin
          rw [(unhide HKL).len] at hlt2
          generalize whereQ ks kk = at0 at *
          generalize ks.idxOf kk = p0 at *
          subst hw
          have hvl := unhide HVL
          obtain ⟨gv, ev, q2⟩ := hvl.cellAt2 hlt2
          subst ev
          have fz := hvl.frozen p0
          obtain ⟨vl5, kc5⟩ := hvl.setAt hlt2 (k : Int)
          have k5 := (unhide HKS).chg hP kc5 (fun b hb hm => (hvl.out b (by simp at hm; subst hm; simp [ab])).1 hb)
          have n5 := (unhide HNW).chgS kc5 (fun b hb => (hvl.out b (by simp at hb; subst hb; simp [ab])).2)
          have kl5 := (unhide HKL).chg kc5 (fun x hx hm => unhide HAP x hx (by simp at hm; subst hm; simp [ab]))
          have zp : (p0 : Int) < (m : Int) := by omega
          have zp0 : (0 : Int) ≤ (p0 : Int) := by omega
          have EP := hide ep; have OP := hide op; have K20 := hide k5; have N20 := hide n5; have KL20 := hide kl5; have VL20 := hide vl5
          clear ep op k5 n5 kl5 vl5 kc5 hvl hin HKS HNW HKL HVL HOS
          go_wp2_with fail
          generalize w4.setCell ⟨gv, p0, none⟩ (.int .i64 (k : Int)) = w5 at *
          clear q2 fz
          refine (number_any kk _).mono ?_
          rintro e w21 ⟨rfl, hc21⟩
          have K21 := hide ((unhide K20).chg hP hc21 (by simp)); have N21 := hide ((unhide N20).chg hc21); have KL21 := hide ((unhide KL20).chg hc21 (by simp)); have VL21 := hide ((unhide VL20).chg hc21 (by simp)); clear hc21 K20 N20 KL20 VL20
          go_wp2_with fail
          refine (number_any (k : Int) _).mono ?_
          rintro e w22 ⟨rfl, hc22⟩
          have K22 := hide ((unhide K21).chg hP hc22 (by simp)); have N22 := hide ((unhide N21).chg hc22); have KL22 := hide ((unhide KL21).chg hc22 (by simp)); have VL22 := hide ((unhide VL21).chg hc22 (by simp)); clear hc22 K21 N21 KL21 VL21
          go_wp2_with fail
          refine ((unhide K22).put hP (by omega) 0 (1, kk) (1, (k : Int)) ⟨by omega, by omega⟩ ⟨⟨by simp, by simp⟩, ⟨by omega, by omega⟩⟩ ⟨⟨by simp, by simp⟩, ⟨by omega, by omega⟩⟩ (unhide EP)).mono ?_
          rintro e w23 ⟨F23, rfl, k23, st23⟩
          have K23 := hide (k23.mono (m' := 1 + 3 * (k + 1)) (by omega)); have N23 := hide ((unhide N22).stp st23); have KL23 := hide ((unhide KL22).stp st23); have VL23 := hide ((unhide VL22).stp st23); clear k23 st23 K22 N22 KL22 VL22
          go_wp2
          go_roundw
          case rel => exact ⟨k + 1, s', F23, ka, some ⟨gv, 0, none⟩, m, kc, vc, ks, vs.set p0 (k : Int), rfl, rfl, by go_num, by omega, unhide K23, unhide N23, unhide OP, unhide KL23, unhide VL23, unhide HAP, unhide HKB⟩
          case measure => simp [intOf]; omega
        · have hw : whereQ ks kk = -1 := by unfold whereQ; rw [if_neg (fun h => hin (List.idxOf_lt_length_iff.1 h))]
          have hml := (unhide HKL).len
          generalize whereQ ks kk = at0 at *
          subst hw
          by_cases hfull : (m : Int) = room
          · have ep := (unhide HOS).putFull (i := (k : Int)) hin (by rw [hml]; exact hfull)
            have bf : ((m : Int) == room) = true := by simp [hfull]
            have EP := hide ep; have K20 := HKS; have N20 := HNW; have KL20 := HKL; have VL20 := HVL
            clear ep hfull hin hml HKS HNW HKL HVL
            go_wp2_with fail
            refine (number_any kk _).mono ?_
            rintro e w21 ⟨rfl, hc21⟩
            have K21 := hide ((unhide K20).chg hP hc21 (by simp)); have N21 := hide ((unhide N20).chg hc21); have KL21 := hide ((unhide KL20).chg hc21 (by simp)); have VL21 := hide ((unhide VL20).chg hc21 (by simp)); clear hc21 K20 N20 KL20 VL20
            go_wp2_with fail
            refine (number_any (k : Int) _).mono ?_
            rintro e w22 ⟨rfl, hc22⟩
            have K22 := hide ((unhide K21).chg hP hc22 (by simp)); have N22 := hide ((unhide N21).chg hc22); have KL22 := hide ((unhide KL21).chg hc22 (by simp)); have VL22 := hide ((unhide VL21).chg hc22 (by simp)); clear hc22 K21 N21 KL21 VL21
            go_wp2_with fail
            refine ((unhide K22).put hP (by omega) 0 (1, kk) (1, (k : Int)) ⟨by omega, by omega⟩ ⟨⟨by simp, by simp⟩, ⟨by omega, by omega⟩⟩ ⟨⟨by simp, by simp⟩, ⟨by omega, by omega⟩⟩ (unhide EP)).mono ?_
            rintro e w23 ⟨F23, rfl, k23, st23⟩
            have K23 := hide (k23.mono (m' := 1 + 3 * (k + 1)) (by omega)); have N23 := hide ((unhide N22).stp st23); have KL23 := hide ((unhide KL22).stp st23); have VL23 := hide ((unhide VL22).stp st23); clear k23 st23 K22 N22 KL22 VL22
            go_wp2
            go_roundw
            case rel => exact ⟨k + 1, s, F23, ka, va, m, kc, vc, ks, vs, rfl, rfl, by go_num, by omega, unhide K23, unhide N23, unhide HOS, unhide KL23, unhide VL23, unhide HAP, unhide HKB⟩
            case measure => simp [intOf]; omega
          · obtain ⟨s', ep, op⟩ := (unhide HOS).putNew (i := (k : Int)) hin (by rw [hml]; exact hfull)
            have bf : ((m : Int) == room) = false := by simp [hfull]
            have EP := hide ep; have OP := hide op
            have hvlt : ∀ x ∈ ab va, x < w4.heap.size := own_lt (unhide HVL).own
            have hklt : ∀ x ∈ ab ka, x < w4.heap.size := own_lt (unhide HKL).own
            have HVT := hide hvlt; have HKT := hide hklt
            have hkb2 : ∀ x ∈ ks ++ [kk], 0 ≤ x ∧ x < 12 := fun x hx => by
              rcases List.mem_append.1 hx with h | h
              · exact unhide HKB x h
              · simp at h; subst h; exact hk12
            have HKB2 := hide hkb2
            clear ep op hfull hin hml hvlt hklt hkb2 HOS
            go_wp2_with (at_builtin; go_must (refine wpList_append_gen _ rfl (.tmp 67) (.tmp 69) 27 rfl 3 i0 (.int .i64 0) 1 8 Try.underlying27 hi0 hz0 hz1 hz2 rfl (by decide) (.slice ka m kc) m (ints ks) rfl ?c0 (some ⟨w4.heap.size, 0, none⟩) 1 1 (ints [kk]) rfl rfl ?c1 (ints_one _) ?c2 ?c3 ?_))
            case c0 => exact World.ownsRow.alloc (unhide HKL).own _
            case c1 => first | exact fun _ => ⟨_, rfl, fun j u hj => by rw [addr_add, Nat.zero_add]; exact (Blk.new w4 (ints [kk]) 3).cell_of hj⟩ | exact fun j u hj => hj
            case c2 => unfold maxLen; omega
            case c3 => omega
            intro a5a a5c a5w ho hg hat
            obtain ⟨a5l, a5k⟩ := (unhide HKL).push (unhide HKS).lt (unhide HNW).1.size (.cells #[.int .i64 kk] 3) ho hg (Nat.le_succ _) hat
            have a5n : ∀ y ∈ ab a5a, y ∈ ab ka ∨ w4.heap.size ≤ y := at_ab (Nat.le_succ _) hat
            clear ho hg hat
            have k5 := (unhide HKS).chg hP a5k (fun b hb hm => ((unhide HKL).out b hm).1 hb)
            have n5 := (unhide HNW).chgS a5k (fun x hx => ((unhide HKL).out x hx).2)
            have v5 := (unhide HVL).chg a5k (fun x hx hm => unhide HAP x hm hx)
            have ap5 : ∀ x ∈ ab a5a, x ∉ ab va := fun x hx hm => by
              rcases a5n x hx with h | h
              · exact unhide HAP x h hm
              · have := unhide HVT x hm; omega
            have klt5 : ∀ x ∈ ab a5a, x < a5w.heap.size := own_lt a5l.own
            have K5 := hide k5; have N5 := hide n5; have V5 := hide v5; have KL5 := hide a5l; have AP5 := hide ap5; have KLT5 := hide klt5; clear k5 n5 v5 a5l ap5 a5k a5n klt5 HKS HNW HKL HVL HAP HVT HKT
            go_wp2_with (at_builtin; go_must (refine wpList_append_gen _ rfl (.tmp 71) (.tmp 73) 27 rfl 3 i0 (.int .i64 0) 1 8 Try.underlying27 hi0 hz0 hz1 hz2 rfl (by decide) (.slice va m vc) m (ints vs) rfl ?c0 (some ⟨a5w.heap.size, 0, none⟩) 1 1 (ints [(k : Int)]) rfl rfl ?c1 (ints_one _) ?c2 ?c3 ?_))
            case c0 => exact World.ownsRow.alloc (unhide V5).own _
            case c1 => first | exact fun _ => ⟨_, rfl, fun j u hj => by rw [addr_add, Nat.zero_add]; exact (Blk.new a5w (ints [(k : Int)]) 3).cell_of hj⟩ | exact fun j u hj => hj
            case c2 => unfold maxLen; omega
            case c3 => omega
            intro b6a b6c b6w ho hg hat
            obtain ⟨b6l, b6k⟩ := (unhide V5).push (unhide K5).lt (unhide N5).1.size (.cells #[.int .i64 (k : Int)] 3) ho hg (Nat.le_succ _) hat
            have b6n : ∀ y ∈ ab b6a, y ∈ ab va ∨ a5w.heap.size ≤ y := at_ab (Nat.le_succ _) hat
            clear ho hg hat
            have k6 := (unhide K5).chg hP b6k (fun b hb hm => ((unhide V5).out b hm).1 hb)
            have n6 := (unhide N5).chgS b6k (fun x hx => ((unhide V5).out x hx).2)
            have kl6 := (unhide KL5).chg b6k (fun x hx hm => unhide AP5 x hx hm)
            have ap6 : ∀ x ∈ ab a5a, x ∉ ab b6a := fun x hx hm => by
              rcases b6n x hm with h | h
              · exact unhide AP5 x hx h
              · have := unhide KLT5 x hx; omega
            have K20 := hide k6; have N20 := hide n6; have VL20 := hide b6l; have KL20 := hide kl6; have AP6 := hide ap6; clear k6 n6 b6l kl6 ap6 b6k b6n K5 N5 V5 KL5 AP5 KLT5
            go_wp2_with fail
            refine (number_any kk _).mono ?_
            rintro e w21 ⟨rfl, hc21⟩
            have K21 := hide ((unhide K20).chg hP hc21 (by simp)); have N21 := hide ((unhide N20).chg hc21); have KL21 := hide ((unhide KL20).chg hc21 (by simp)); have VL21 := hide ((unhide VL20).chg hc21 (by simp)); clear hc21 K20 N20 KL20 VL20
            go_wp2_with fail
            refine (number_any (k : Int) _).mono ?_
            rintro e w22 ⟨rfl, hc22⟩
            have K22 := hide ((unhide K21).chg hP hc22 (by simp)); have N22 := hide ((unhide N21).chg hc22); have KL22 := hide ((unhide KL21).chg hc22 (by simp)); have VL22 := hide ((unhide VL21).chg hc22 (by simp)); clear hc22 K21 N21 KL21 VL21
            go_wp2_with fail
            refine ((unhide K22).put hP (by omega) 0 (1, kk) (1, (k : Int)) ⟨by omega, by omega⟩ ⟨⟨by simp, by simp⟩, ⟨by omega, by omega⟩⟩ ⟨⟨by simp, by simp⟩, ⟨by omega, by omega⟩⟩ (unhide EP)).mono ?_
            rintro e w23 ⟨F23, rfl, k23, st23⟩
            have K23 := hide (k23.mono (m' := 1 + 3 * (k + 1)) (by omega)); have N23 := hide ((unhide N22).stp st23); have KL23 := hide ((unhide KL22).stp st23); have VL23 := hide ((unhide VL22).stp st23); clear k23 st23 K22 N22 KL22 VL22
            go_wp2
            go_roundw
            case rel => exact ⟨k + 1, s', F23, a5a, b6a, m + 1, a5c, b6c, ks ++ [kk], vs ++ [(k : Int)], rfl, rfl, by go_num, by omega, unhide K23, unhide N23, unhide OP, unhide KL23, unhide VL23, unhide AP6, unhide HKB2⟩
            case measure => simp [intOf]; omega
      · by_cases hin : kk ∈ ks
        · have hlt2 : ks.idxOf kk < ks.length := List.idxOf_lt_length_iff.2 hin
          have hw : whereQ ks kk = (ks.idxOf kk : Int) := by unfold whereQ; rw [if_pos hlt2]
          obtain ⟨s', ep, op⟩ := (unhide HOS).putOld (i := (k : Int)) hin
          rw [(unhide HKL).len] at hlt2
          generalize whereQ ks kk = at0 at *
          generalize ks.idxOf kk = p0 at *
          subst hw
          have hvl := unhide HVL
          obtain ⟨gv, ev, q2⟩ := hvl.cellAt2 hlt2
          subst ev
          have fz := hvl.frozen p0
          obtain ⟨vl5, kc5⟩ := hvl.setAt hlt2 (k : Int)
          have k5 := (unhide HKS).chg hP kc5 (fun b hb hm => (hvl.out b (by simp at hm; subst hm; simp [ab])).1 hb)
          have n5 := (unhide HNW).chgS kc5 (fun b hb => (hvl.out b (by simp at hb; subst hb; simp [ab])).2)
          have kl5 := (unhide HKL).chg kc5 (fun x hx hm => unhide HAP x hx (by simp at hm; subst hm; simp [ab]))
          have zp : (p0 : Int) < (m : Int) := by omega
          have zp0 : (0 : Int) ≤ (p0 : Int) := by omega
          have EP := hide ep; have OP := hide op; have K20 := hide k5; have N20 := hide n5; have KL20 := hide kl5; have VL20 := hide vl5
          clear ep op k5 n5 kl5 vl5 kc5 hvl hin HKS HNW HKL HVL HOS
          go_wp2_with fail
          generalize w4.setCell ⟨gv, p0, none⟩ (.int .i64 (k : Int)) = w5 at *
          clear q2 fz
          refine (number_any kk _).mono ?_
          rintro e w21 ⟨rfl, hc21⟩
          have K21 := hide ((unhide K20).chg hP hc21 (by simp)); have N21 := hide ((unhide N20).chg hc21); have KL21 := hide ((unhide KL20).chg hc21 (by simp)); have VL21 := hide ((unhide VL20).chg hc21 (by simp)); clear hc21 K20 N20 KL20 VL20
          go_wp2_with fail
          refine (number_any (k : Int) _).mono ?_
          rintro e w22 ⟨rfl, hc22⟩
          have K22 := hide ((unhide K21).chg hP hc22 (by simp)); have N22 := hide ((unhide N21).chg hc22); have KL22 := hide ((unhide KL21).chg hc22 (by simp)); have VL22 := hide ((unhide VL21).chg hc22 (by simp)); clear hc22 K21 N21 KL21 VL21
          go_wp2_with fail
          refine ((unhide K22).put hP (by omega) 0 (1, kk) (1, (k : Int)) ⟨by omega, by omega⟩ ⟨⟨by simp, by simp⟩, ⟨by omega, by omega⟩⟩ ⟨⟨by simp, by simp⟩, ⟨by omega, by omega⟩⟩ (unhide EP)).mono ?_
          rintro e w23 ⟨F23, rfl, k23, st23⟩
          have K23 := hide (k23.mono (m' := 1 + 3 * (k + 1)) (by omega)); have N23 := hide ((unhide N22).stp st23); have KL23 := hide ((unhide KL22).stp st23); have VL23 := hide ((unhide VL22).stp st23); clear k23 st23 K22 N22 KL22 VL22
          go_wp2
          go_roundw
          case rel => exact ⟨k + 1, s', F23, ka, some ⟨gv, 0, none⟩, m, kc, vc, ks, vs.set p0 (k : Int), rfl, rfl, by go_num, by omega, unhide K23, unhide N23, unhide OP, unhide KL23, unhide VL23, unhide HAP, unhide HKB⟩
          case measure => simp [intOf]; omega
        · have hw : whereQ ks kk = -1 := by unfold whereQ; rw [if_neg (fun h => hin (List.idxOf_lt_length_iff.1 h))]
          have hml := (unhide HKL).len
          generalize whereQ ks kk = at0 at *
          subst hw
          by_cases hfull : (m : Int) = room
          · have ep := (unhide HOS).putFull (i := (k : Int)) hin (by rw [hml]; exact hfull)
            have bf : ((m : Int) == room) = true := by simp [hfull]
            have EP := hide ep; have K20 := HKS; have N20 := HNW; have KL20 := HKL; have VL20 := HVL
            clear ep hfull hin hml HKS HNW HKL HVL
            go_wp2_with fail
            refine (number_any kk _).mono ?_
            rintro e w21 ⟨rfl, hc21⟩
            have K21 := hide ((unhide K20).chg hP hc21 (by simp)); have N21 := hide ((unhide N20).chg hc21); have KL21 := hide ((unhide KL20).chg hc21 (by simp)); have VL21 := hide ((unhide VL20).chg hc21 (by simp)); clear hc21 K20 N20 KL20 VL20
            go_wp2_with fail
            refine (number_any (k : Int) _).mono ?_
            rintro e w22 ⟨rfl, hc22⟩
            have K22 := hide ((unhide K21).chg hP hc22 (by simp)); have N22 := hide ((unhide N21).chg hc22); have KL22 := hide ((unhide KL21).chg hc22 (by simp)); have VL22 := hide ((unhide VL21).chg hc22 (by simp)); clear hc22 K21 N21 KL21 VL21
            go_wp2_with fail
            refine ((unhide K22).put hP (by omega) 0 (1, kk) (1, (k : Int)) ⟨by omega, by omega⟩ ⟨⟨by simp, by simp⟩, ⟨by omega, by omega⟩⟩ ⟨⟨by simp, by simp⟩, ⟨by omega, by omega⟩⟩ (unhide EP)).mono ?_
            rintro e w23 ⟨F23, rfl, k23, st23⟩
            have K23 := hide (k23.mono (m' := 1 + 3 * (k + 1)) (by omega)); have N23 := hide ((unhide N22).stp st23); have KL23 := hide ((unhide KL22).stp st23); have VL23 := hide ((unhide VL22).stp st23); clear k23 st23 K22 N22 KL22 VL22
            go_wp2
            go_roundw
            case rel => exact ⟨k + 1, s, F23, ka, va, m, kc, vc, ks, vs, rfl, rfl, by go_num, by omega, unhide K23, unhide N23, unhide HOS, unhide KL23, unhide VL23, unhide HAP, unhide HKB⟩
            case measure => simp [intOf]; omega
          · obtain ⟨s', ep, op⟩ := (unhide HOS).putNew (i := (k : Int)) hin (by rw [hml]; exact hfull)
            have bf : ((m : Int) == room) = false := by simp [hfull]
            have EP := hide ep; have OP := hide op
            have hvlt : ∀ x ∈ ab va, x < w4.heap.size := own_lt (unhide HVL).own
            have hklt : ∀ x ∈ ab ka, x < w4.heap.size := own_lt (unhide HKL).own
            have HVT := hide hvlt; have HKT := hide hklt
            have hkb2 : ∀ x ∈ ks ++ [kk], 0 ≤ x ∧ x < 12 := fun x hx => by
              rcases List.mem_append.1 hx with h | h
              · exact unhide HKB x h
              · simp at h; subst h; exact hk12
            have HKB2 := hide hkb2
            clear ep op hfull hin hml hvlt hklt hkb2 HOS
            go_wp2_with (at_builtin; go_must (refine wpList_append_gen _ rfl (.tmp 67) (.tmp 69) 27 rfl 3 i0 (.int .i64 0) 1 8 Try.underlying27 hi0 hz0 hz1 hz2 rfl (by decide) (.slice ka m kc) m (ints ks) rfl ?c0 (some ⟨w4.heap.size, 0, none⟩) 1 1 (ints [kk]) rfl rfl ?c1 (ints_one _) ?c2 ?c3 ?_))
            case c0 => exact World.ownsRow.alloc (unhide HKL).own _
            case c1 => first | exact fun _ => ⟨_, rfl, fun j u hj => by rw [addr_add, Nat.zero_add]; exact (Blk.new w4 (ints [kk]) 3).cell_of hj⟩ | exact fun j u hj => hj
            case c2 => unfold maxLen; omega
            case c3 => omega
            intro a5a a5c a5w ho hg hat
            obtain ⟨a5l, a5k⟩ := (unhide HKL).push (unhide HKS).lt (unhide HNW).1.size (.cells #[.int .i64 kk] 3) ho hg (Nat.le_succ _) hat
            have a5n : ∀ y ∈ ab a5a, y ∈ ab ka ∨ w4.heap.size ≤ y := at_ab (Nat.le_succ _) hat
            clear ho hg hat
            have k5 := (unhide HKS).chg hP a5k (fun b hb hm => ((unhide HKL).out b hm).1 hb)
            have n5 := (unhide HNW).chgS a5k (fun x hx => ((unhide HKL).out x hx).2)
            have v5 := (unhide HVL).chg a5k (fun x hx hm => unhide HAP x hm hx)
            have ap5 : ∀ x ∈ ab a5a, x ∉ ab va := fun x hx hm => by
              rcases a5n x hx with h | h
              · exact unhide HAP x h hm
              · have := unhide HVT x hm; omega
            have klt5 : ∀ x ∈ ab a5a, x < a5w.heap.size := own_lt a5l.own
            have K5 := hide k5; have N5 := hide n5; have V5 := hide v5; have KL5 := hide a5l; have AP5 := hide ap5; have KLT5 := hide klt5; clear k5 n5 v5 a5l ap5 a5k a5n klt5 HKS HNW HKL HVL HAP HVT HKT
            go_wp2_with (at_builtin; go_must (refine wpList_append_gen _ rfl (.tmp 71) (.tmp 73) 27 rfl 3 i0 (.int .i64 0) 1 8 Try.underlying27 hi0 hz0 hz1 hz2 rfl (by decide) (.slice va m vc) m (ints vs) rfl ?c0 (some ⟨a5w.heap.size, 0, none⟩) 1 1 (ints [(k : Int)]) rfl rfl ?c1 (ints_one _) ?c2 ?c3 ?_))
            case c0 => exact World.ownsRow.alloc (unhide V5).own _
            case c1 => first | exact fun _ => ⟨_, rfl, fun j u hj => by rw [addr_add, Nat.zero_add]; exact (Blk.new a5w (ints [(k : Int)]) 3).cell_of hj⟩ | exact fun j u hj => hj
            case c2 => unfold maxLen; omega
            case c3 => omega
            intro b6a b6c b6w ho hg hat
            obtain ⟨b6l, b6k⟩ := (unhide V5).push (unhide K5).lt (unhide N5).1.size (.cells #[.int .i64 (k : Int)] 3) ho hg (Nat.le_succ _) hat
            have b6n : ∀ y ∈ ab b6a, y ∈ ab va ∨ a5w.heap.size ≤ y := at_ab (Nat.le_succ _) hat
            clear ho hg hat
            have k6 := (unhide K5).chg hP b6k (fun b hb hm => ((unhide V5).out b hm).1 hb)
            have n6 := (unhide N5).chgS b6k (fun x hx => ((unhide V5).out x hx).2)
            have kl6 := (unhide KL5).chg b6k (fun x hx hm => unhide AP5 x hx hm)
            have ap6 : ∀ x ∈ ab a5a, x ∉ ab b6a := fun x hx hm => by
              rcases b6n x hm with h | h
              · exact unhide AP5 x hx h
              · have := unhide KLT5 x hx; omega
            have K20 := hide k6; have N20 := hide n6; have VL20 := hide b6l; have KL20 := hide kl6; have AP6 := hide ap6; clear k6 n6 b6l kl6 ap6 b6k b6n K5 N5 V5 KL5 AP5 KLT5
            go_wp2_with fail
            refine (number_any kk _).mono ?_
            rintro e w21 ⟨rfl, hc21⟩
            have K21 := hide ((unhide K20).chg hP hc21 (by simp)); have N21 := hide ((unhide N20).chg hc21); have KL21 := hide ((unhide KL20).chg hc21 (by simp)); have VL21 := hide ((unhide VL20).chg hc21 (by simp)); clear hc21 K20 N20 KL20 VL20
            go_wp2_with fail
            refine (number_any (k : Int) _).mono ?_
            rintro e w22 ⟨rfl, hc22⟩
            have K22 := hide ((unhide K21).chg hP hc22 (by simp)); have N22 := hide ((unhide N21).chg hc22); have KL22 := hide ((unhide KL21).chg hc22 (by simp)); have VL22 := hide ((unhide VL21).chg hc22 (by simp)); clear hc22 K21 N21 KL21 VL21
            go_wp2_with fail
            refine ((unhide K22).put hP (by omega) 0 (1, kk) (1, (k : Int)) ⟨by omega, by omega⟩ ⟨⟨by simp, by simp⟩, ⟨by omega, by omega⟩⟩ ⟨⟨by simp, by simp⟩, ⟨by omega, by omega⟩⟩ (unhide EP)).mono ?_
            rintro e w23 ⟨F23, rfl, k23, st23⟩
            have K23 := hide (k23.mono (m' := 1 + 3 * (k + 1)) (by omega)); have N23 := hide ((unhide N22).stp st23); have KL23 := hide ((unhide KL22).stp st23); have VL23 := hide ((unhide VL22).stp st23); clear k23 st23 K22 N22 KL22 VL22
            go_wp2
            go_roundw
            case rel => exact ⟨k + 1, s', F23, a5a, b6a, m + 1, a5c, b6c, ks ++ [kk], vs ++ [(k : Int)], rfl, rfl, by go_num, by omega, unhide K23, unhide N23, unhide OP, unhide KL23, unhide VL23, unhide AP6, unhide HKB2⟩
            case measure => simp [intOf]; omega
      · by_cases hin : kk ∈ ks
        · have hlt2 : ks.idxOf kk < ks.length := List.idxOf_lt_length_iff.2 hin
          have hw : whereQ ks kk = (ks.idxOf kk : Int) := by unfold whereQ; rw [if_pos hlt2]
          obtain ⟨s', ep, op⟩ := (unhide HOS).putOld (i := (k : Int)) hin
          rw [(unhide HKL).len] at hlt2
          generalize whereQ ks kk = at0 at *
          generalize ks.idxOf kk = p0 at *
          subst hw
          have hvl := unhide HVL
          obtain ⟨gv, ev, q2⟩ := hvl.cellAt2 hlt2
          subst ev
          have fz := hvl.frozen p0
          obtain ⟨vl5, kc5⟩ := hvl.setAt hlt2 (k : Int)
          have k5 := (unhide HKS).chg hP kc5 (fun b hb hm => (hvl.out b (by simp at hm; subst hm; simp [ab])).1 hb)
          have n5 := (unhide HNW).chgS kc5 (fun b hb => (hvl.out b (by simp at hb; subst hb; simp [ab])).2)
          have kl5 := (unhide HKL).chg kc5 (fun x hx hm => unhide HAP x hx (by simp at hm; subst hm; simp [ab]))
          have zp : (p0 : Int) < (m : Int) := by omega
          have zp0 : (0 : Int) ≤ (p0 : Int) := by omega
          have EP := hide ep; have OP := hide op; have K20 := hide k5; have N20 := hide n5; have KL20 := hide kl5; have VL20 := hide vl5
          clear ep op k5 n5 kl5 vl5 kc5 hvl hin HKS HNW HKL HVL HOS
          go_wp2_with fail
          generalize w4.setCell ⟨gv, p0, none⟩ (.int .i64 (k : Int)) = w5 at *
          clear q2 fz
          refine (number_any kk _).mono ?_
          rintro e w21 ⟨rfl, hc21⟩
          have K21 := hide ((unhide K20).chg hP hc21 (by simp)); have N21 := hide ((unhide N20).chg hc21); have KL21 := hide ((unhide KL20).chg hc21 (by simp)); have VL21 := hide ((unhide VL20).chg hc21 (by simp)); clear hc21 K20 N20 KL20 VL20
          go_wp2_with fail
          refine (number_any (k : Int) _).mono ?_
          rintro e w22 ⟨rfl, hc22⟩
          have K22 := hide ((unhide K21).chg hP hc22 (by simp)); have N22 := hide ((unhide N21).chg hc22); have KL22 := hide ((unhide KL21).chg hc22 (by simp)); have VL22 := hide ((unhide VL21).chg hc22 (by simp)); clear hc22 K21 N21 KL21 VL21
          go_wp2_with fail
          refine ((unhide K22).put hP (by omega) 0 (1, kk) (1, (k : Int)) ⟨by omega, by omega⟩ ⟨⟨by simp, by simp⟩, ⟨by omega, by omega⟩⟩ ⟨⟨by simp, by simp⟩, ⟨by omega, by omega⟩⟩ (unhide EP)).mono ?_
          rintro e w23 ⟨F23, rfl, k23, st23⟩
          have K23 := hide (k23.mono (m' := 1 + 3 * (k + 1)) (by omega)); have N23 := hide ((unhide N22).stp st23); have KL23 := hide ((unhide KL22).stp st23); have VL23 := hide ((unhide VL22).stp st23); clear k23 st23 K22 N22 KL22 VL22
          go_wp2
          go_roundw
          case rel => exact ⟨k + 1, s', F23, ka, some ⟨gv, 0, none⟩, m, kc, vc, ks, vs.set p0 (k : Int), rfl, rfl, by go_num, by omega, unhide K23, unhide N23, unhide OP, unhide KL23, unhide VL23, unhide HAP, unhide HKB⟩
          case measure => simp [intOf]; omega
        · have hw : whereQ ks kk = -1 := by unfold whereQ; rw [if_neg (fun h => hin (List.idxOf_lt_length_iff.1 h))]
          have hml := (unhide HKL).len
          generalize whereQ ks kk = at0 at *
          subst hw
          by_cases hfull : (m : Int) = room
          · have ep := (unhide HOS).putFull (i := (k : Int)) hin (by rw [hml]; exact hfull)
            have bf : ((m : Int) == room) = true := by simp [hfull]
            have EP := hide ep; have K20 := HKS; have N20 := HNW; have KL20 := HKL; have VL20 := HVL
            clear ep hfull hin hml HKS HNW HKL HVL
            go_wp2_with fail
            refine (number_any kk _).mono ?_
            rintro e w21 ⟨rfl, hc21⟩
            have K21 := hide ((unhide K20).chg hP hc21 (by simp)); have N21 := hide ((unhide N20).chg hc21); have KL21 := hide ((unhide KL20).chg hc21 (by simp)); have VL21 := hide ((unhide VL20).chg hc21 (by simp)); clear hc21 K20 N20 KL20 VL20
            go_wp2_with fail
            refine (number_any (k : Int) _).mono ?_
            rintro e w22 ⟨rfl, hc22⟩
            have K22 := hide ((unhide K21).chg hP hc22 (by simp)); have N22 := hide ((unhide N21).chg hc22); have KL22 := hide ((unhide KL21).chg hc22 (by simp)); have VL22 := hide ((unhide VL21).chg hc22 (by simp)); clear hc22 K21 N21 KL21 VL21
            go_wp2_with fail
            refine ((unhide K22).put hP (by omega) 0 (1, kk) (1, (k : Int)) ⟨by omega, by omega⟩ ⟨⟨by simp, by simp⟩, ⟨by omega, by omega⟩⟩ ⟨⟨by simp, by simp⟩, ⟨by omega, by omega⟩⟩ (unhide EP)).mono ?_
            rintro e w23 ⟨F23, rfl, k23, st23⟩
            have K23 := hide (k23.mono (m' := 1 + 3 * (k + 1)) (by omega)); have N23 := hide ((unhide N22).stp st23); have KL23 := hide ((unhide KL22).stp st23); have VL23 := hide ((unhide VL22).stp st23); clear k23 st23 K22 N22 KL22 VL22
            go_wp2
            go_roundw
            case rel => exact ⟨k + 1, s, F23, ka, va, m, kc, vc, ks, vs, rfl, rfl, by go_num, by omega, unhide K23, unhide N23, unhide HOS, unhide KL23, unhide VL23, unhide HAP, unhide HKB⟩
            case measure => simp [intOf]; omega
          · obtain ⟨s', ep, op⟩ := (unhide HOS).putNew (i := (k : Int)) hin (by rw [hml]; exact hfull)
            have bf : ((m : Int) == room) = false := by simp [hfull]
            have EP := hide ep; have OP := hide op
            have hvlt : ∀ x ∈ ab va, x < w4.heap.size := own_lt (unhide HVL).own
            have hklt : ∀ x ∈ ab ka, x < w4.heap.size := own_lt (unhide HKL).own
            have HVT := hide hvlt; have HKT := hide hklt
            have hkb2 : ∀ x ∈ ks ++ [kk], 0 ≤ x ∧ x < 12 := fun x hx => by
              rcases List.mem_append.1 hx with h | h
              · exact unhide HKB x h
              · simp at h; subst h; exact hk12
            have HKB2 := hide hkb2
            clear ep op hfull hin hml hvlt hklt hkb2 HOS
            go_wp2_with (at_builtin; go_must (refine wpList_append_gen _ rfl (.tmp 67) (.tmp 69) 27 rfl 3 i0 (.int .i64 0) 1 8 Try.underlying27 hi0 hz0 hz1 hz2 rfl (by decide) (.slice ka m kc) m (ints ks) rfl ?c0 (some ⟨w4.heap.size, 0, none⟩) 1 1 (ints [kk]) rfl rfl ?c1 (ints_one _) ?c2 ?c3 ?_))
            case c0 => exact World.ownsRow.alloc (unhide HKL).own _
            case c1 => first | exact fun _ => ⟨_, rfl, fun j u hj => by rw [addr_add, Nat.zero_add]; exact (Blk.new w4 (ints [kk]) 3).cell_of hj⟩ | exact fun j u hj => hj
            case c2 => unfold maxLen; omega
            case c3 => omega
            intro a5a a5c a5w ho hg hat
            obtain ⟨a5l, a5k⟩ := (unhide HKL).push (unhide HKS).lt (unhide HNW).1.size (.cells #[.int .i64 kk] 3) ho hg (Nat.le_succ _) hat
            have a5n : ∀ y ∈ ab a5a, y ∈ ab ka ∨ w4.heap.size ≤ y := at_ab (Nat.le_succ _) hat
            clear ho hg hat
            have k5 := (unhide HKS).chg hP a5k (fun b hb hm => ((unhide HKL).out b hm).1 hb)
            have n5 := (unhide HNW).chgS a5k (fun x hx => ((unhide HKL).out x hx).2)
            have v5 := (unhide HVL).chg a5k (fun x hx hm => unhide HAP x hm hx)
            have ap5 : ∀ x ∈ ab a5a, x ∉ ab va := fun x hx hm => by
              rcases a5n x hx with h | h
              · exact unhide HAP x h hm
              · have := unhide HVT x hm; omega
            have klt5 : ∀ x ∈ ab a5a, x < a5w.heap.size := own_lt a5l.own
            have K5 := hide k5; have N5 := hide n5; have V5 := hide v5; have KL5 := hide a5l; have AP5 := hide ap5; have KLT5 := hide klt5; clear k5 n5 v5 a5l ap5 a5k a5n klt5 HKS HNW HKL HVL HAP HVT HKT
            go_wp2_with (at_builtin; go_must (refine wpList_append_gen _ rfl (.tmp 71) (.tmp 73) 27 rfl 3 i0 (.int .i64 0) 1 8 Try.underlying27 hi0 hz0 hz1 hz2 rfl (by decide) (.slice va m vc) m (ints vs) rfl ?c0 (some ⟨a5w.heap.size, 0, none⟩) 1 1 (ints [(k : Int)]) rfl rfl ?c1 (ints_one _) ?c2 ?c3 ?_))
            case c0 => exact World.ownsRow.alloc (unhide V5).own _
            case c1 => first | exact fun _ => ⟨_, rfl, fun j u hj => by rw [addr_add, Nat.zero_add]; exact (Blk.new a5w (ints [(k : Int)]) 3).cell_of hj⟩ | exact fun j u hj => hj
            case c2 => unfold maxLen; omega
            case c3 => omega
            intro b6a b6c b6w ho hg hat
            obtain ⟨b6l, b6k⟩ := (unhide V5).push (unhide K5).lt (unhide N5).1.size (.cells #[.int .i64 (k : Int)] 3) ho hg (Nat.le_succ _) hat
            have b6n : ∀ y ∈ ab b6a, y ∈ ab va ∨ a5w.heap.size ≤ y := at_ab (Nat.le_succ _) hat
            clear ho hg hat
            have k6 := (unhide K5).chg hP b6k (fun b hb hm => ((unhide V5).out b hm).1 hb)
            have n6 := (unhide N5).chgS b6k (fun x hx => ((unhide V5).out x hx).2)
            have kl6 := (unhide KL5).chg b6k (fun x hx hm => unhide AP5 x hx hm)
            have ap6 : ∀ x ∈ ab a5a, x ∉ ab b6a := fun x hx hm => by
              rcases b6n x hm with h | h
              · exact unhide AP5 x hx h
              · have := unhide KLT5 x hx; omega
            have K20 := hide k6; have N20 := hide n6; have VL20 := hide b6l; have KL20 := hide kl6; have AP6 := hide ap6; clear k6 n6 b6l kl6 ap6 b6k b6n K5 N5 V5 KL5 AP5 KLT5
            go_wp2_with fail
            refine (number_any kk _).mono ?_
            rintro e w21 ⟨rfl, hc21⟩
            have K21 := hide ((unhide K20).chg hP hc21 (by simp)); have N21 := hide ((unhide N20).chg hc21); have KL21 := hide ((unhide KL20).chg hc21 (by simp)); have VL21 := hide ((unhide VL20).chg hc21 (by simp)); clear hc21 K20 N20 KL20 VL20
            go_wp2_with fail
            refine (number_any (k : Int) _).mono ?_
            rintro e w22 ⟨rfl, hc22⟩
            have K22 := hide ((unhide K21).chg hP hc22 (by simp)); have N22 := hide ((unhide N21).chg hc22); have KL22 := hide ((unhide KL21).chg hc22 (by simp)); have VL22 := hide ((unhide VL21).chg hc22 (by simp)); clear hc22 K21 N21 KL21 VL21
            go_wp2_with fail
            refine ((unhide K22).put hP (by omega) 0 (1, kk) (1, (k : Int)) ⟨by omega, by omega⟩ ⟨⟨by simp, by simp⟩, ⟨by omega, by omega⟩⟩ ⟨⟨by simp, by simp⟩, ⟨by omega, by omega⟩⟩ (unhide EP)).mono ?_
            rintro e w23 ⟨F23, rfl, k23, st23⟩
            have K23 := hide (k23.mono (m' := 1 + 3 * (k + 1)) (by omega)); have N23 := hide ((unhide N22).stp st23); have KL23 := hide ((unhide KL22).stp st23); have VL23 := hide ((unhide VL22).stp st23); clear k23 st23 K22 N22 KL22 VL22
            go_wp2
            go_roundw
            case rel => exact ⟨k + 1, s', F23, a5a, b6a, m + 1, a5c, b6c, ks ++ [kk], vs ++ [(k : Int)], rfl, rfl, by go_num, by omega, unhide K23, unhide N23, unhide OP, unhide KL23, unhide VL23, unhide AP6, unhide HKB2⟩
            case measure => simp [intOf]; omega
      · rcases hsw with h3 | ⟨h3, h4⟩ | ⟨h3, h4, h5⟩ | ⟨h3, h4, h5⟩
        · by_cases hin : kk ∈ ks
          · have hlt2 : ks.idxOf kk < ks.length := List.idxOf_lt_length_iff.2 hin
            have hw : whereQ ks kk = (ks.idxOf kk : Int) := by unfold whereQ; rw [if_pos hlt2]
            obtain ⟨s', ep, op⟩ := (unhide HOS).cut hin
            rw [(unhide HKL).len] at hlt2
            generalize whereQ ks kk = at0 at *
            generalize ks.idxOf kk = p0 at *
            subst hw
            obtain ⟨gk, ek, _⟩ := (unhide HKL).cellAt2 hlt2
            obtain ⟨gv, ev, _⟩ := (unhide HVL).cellAt2 hlt2
            subst ek ev
            have hgkv : gk ≠ gv := fun e => unhide HAP gk (by simp [ab]) (by simp [ab, e])
            obtain ⟨hkc, hkc2⟩ := (unhide HKL).caps
            obtain ⟨hvc, hvc2⟩ := (unhide HVL).caps
            have hpm : p0 ≤ m := by omega
            have hpk : p0 ≤ kc := by omega
            have hpv : p0 ≤ vc := by omega
            have hml := (unhide HKL).len
            have hmv := (unhide HVL).len
            have nlen : (ints (ks.drop (p0 + 1))).length = (m - (p0 + 1)) * 1 := by simp [ints, hml]
            have vlen : (ints (vs.drop (p0 + 1))).length = (m - (p0 + 1)) * 1 := by simp [ints, hmv]
            have NLEN := hide nlen; have VLEN := hide vlen
            have hd4 : Chg [] w4 w4.drew := (Chg.refl [] w4).drew
            have kl5 := (unhide HKL).chg hd4 (by simp)
            obtain ⟨A, hA, hnews⟩ := kl5.news hlt2
            have hspare := kl5.spare hlt2
            have HNEWS := hide hnews; have HSPARE := hide hspare
            obtain ⟨kl6, kc6⟩ := kl5.del hlt2
            have kd6 := Chg.trans (hd4.mono (by simp)) kc6
            have HKL6 := hide kl6; have KD6 := hide kd6
            have hkb2 : ∀ x ∈ ks.take p0 ++ ks.drop (p0 + 1), 0 ≤ x ∧ x < 12 := fun x hx => by
              rcases List.mem_append.1 hx with h | h
              · exact unhide HKB x (List.mem_of_mem_take h)
              · exact unhide HKB x (List.mem_of_mem_drop h)
            have HKB2 := hide hkb2
            have EP := hide ep; have OP := hide op
            clear ep op hin kl5 hnews hspare kl6 kc6 kd6 hd4 nlen vlen hkb2
            have hwr : IntKind.i64.wrap ((p0 : Int) + 1) = (p0 : Int) + 1 := by rw [IntKind.wrap_i64]; omega
            have hp0 : (0 : Int) ≤ (p0 : Int) + 1 := by omega
            have hp1 : (p0 : Int) + 1 ≤ (m : Int) := by omega
            have hp2 : ((p0 : Int) + 1).toNat = p0 + 1 := by omega
            have zneg : decide ((p0 : Int) < 0) = false := decide_eq_false (by omega)
            have zneg2 : ¬ (p0 : Int) < 0 := by omega
            go_wp2_with fail
            go_region_law (refine step_append_room rfl (.tmp 101) (.tmp 105) 27 rfl 3 i0 1 Try.underlying27 hi0 hz1 gk 0 p0 kc (by simp [Act.eval, Act.put]) A (m - (p0 + 1)) (kc - (p0 + 1)) (ints (ks.drop (p0 + 1))) (by simp [Act.eval, Act.put]) (unhide NLEN) (unhide HNEWS) (ints_one _) (by omega) (unhide HSPARE) ?_)
            have k6 := (unhide HKS).chg hP (unhide KD6) (fun b hb hm => ((unhide HKL).out b (by simp at hm; subst hm; simp [ab])).1 hb)
            have n6 := (unhide HNW).chgS (unhide KD6) (fun b hb => ((unhide HKL).out b (by simp at hb; subst hb; simp [ab])).2)
            have v6 := (unhide HVL).chg (unhide KD6) (fun x hx hm => unhide HAP x (by simp at hm; subst hm; simp [ab]) hx)
            generalize w4.drew.setCells gk p0 (ints (ks.drop (p0 + 1))) = w6 at *
            have hd6 : Chg [] w6 w6.drew := (Chg.refl [] w6).drew
            have v7 := v6.chg hd6 (by simp)
            obtain ⟨B, hB, hnews2⟩ := v7.news hlt2
            have hspare2 := v7.spare hlt2
            obtain ⟨v8, kc8⟩ := v7.del hlt2
            have kd8 := Chg.trans (hd6.mono (by simp)) kc8
            have k8 := k6.chg hP kd8 (fun b hb hm => (v6.out b (by simp at hm; subst hm; simp [ab])).1 hb)
            have n8 := n6.chgS kd8 (fun b hb => (v6.out b (by simp at hb; subst hb; simp [ab])).2)
            have kl8 := (unhide HKL6).chg kd8 (fun x hx hm => by simp [ab] at hx hm; exact hgkv (hx.symm.trans hm))
            have HNEWS2 := hide hnews2; have HSPARE2 := hide hspare2; have K20 := hide k8; have N20 := hide n8; have KL20 := hide kl8; have VL20 := hide v8
            clear k6 n6 v6 v7 v8 kc8 kd8 k8 n8 kl8 hnews2 hspare2 hd6 HKS HNW HKL HVL HNEWS HSPARE HKL6 KD6 hA
            go_wp2_with fail
            go_region_law (refine step_append_room rfl (.tmp 109) (.tmp 113) 27 rfl 3 i0 1 Try.underlying27 hi0 hz1 gv 0 p0 vc (by simp [Act.eval, Act.put]) B (m - (p0 + 1)) (vc - (p0 + 1)) (ints (vs.drop (p0 + 1))) (by simp [Act.eval, Act.put]) (unhide VLEN) (unhide HNEWS2) (ints_one _) (by omega) (unhide HSPARE2) ?_)
            generalize w6.drew.setCells gv p0 (ints (vs.drop (p0 + 1))) = w8 at *
            go_wp2_with fail
            refine (number_any kk _).mono ?_
            rintro e w21 ⟨rfl, hc21⟩
            have K21 := hide ((unhide K20).chg hP hc21 (by simp)); have N21 := hide ((unhide N20).chg hc21); have KL21 := hide ((unhide KL20).chg hc21 (by simp)); have VL21 := hide ((unhide VL20).chg hc21 (by simp)); clear hc21 K20 N20 KL20 VL20
            go_wp2_with fail
            refine ((unhide K21).cut hP (by omega) 0 (1, kk) ⟨by omega, by omega⟩ ⟨⟨by simp, by simp⟩, ⟨by omega, by omega⟩⟩ (unhide EP)).mono ?_
            rintro e w23 ⟨F23, rfl, k23, st23⟩
            have K23 := hide (k23.mono (m' := 1 + 3 * (k + 1)) (by omega)); have N23 := hide ((unhide N21).stp st23); have KL23 := hide ((unhide KL21).stp st23); have VL23 := hide ((unhide VL21).stp st23); clear k23 st23 K21 N21 KL21 VL21
            go_wp2
            go_roundw
            case rel => exact ⟨k + 1, s', F23, some ⟨gk, 0, none⟩, some ⟨gv, 0, none⟩, p0 + (m - (p0 + 1)), kc, vc, ks.take p0 ++ ks.drop (p0 + 1), vs.take p0 ++ vs.drop (p0 + 1), rfl, rfl, by go_num, by omega, unhide K23, unhide N23, unhide OP, unhide KL23, unhide VL23, unhide HAP, unhide HKB2⟩
            case measure => simp [intOf]; omega
          · have hw : whereQ ks kk = -1 := by unfold whereQ; rw [if_neg (fun h => hin (List.idxOf_lt_length_iff.1 h))]
            have ep := (unhide HOS).cutNone hin
            generalize whereQ ks kk = at0 at *
            subst hw
            have EP := hide ep; have K20 := HKS; have N20 := HNW; have KL20 := HKL; have VL20 := HVL
            clear ep hin HKS HNW HKL HVL
            go_wp2_with fail
            refine (number_any kk _).mono ?_
            rintro e w21 ⟨rfl, hc21⟩
            have K21 := hide ((unhide K20).chg hP hc21 (by simp)); have N21 := hide ((unhide N20).chg hc21); have KL21 := hide ((unhide KL20).chg hc21 (by simp)); have VL21 := hide ((unhide VL20).chg hc21 (by simp)); clear hc21 K20 N20 KL20 VL20
            go_wp2_with fail
            refine ((unhide K21).cut hP (by omega) 0 (1, kk) ⟨by omega, by omega⟩ ⟨⟨by simp, by simp⟩, ⟨by omega, by omega⟩⟩ (unhide EP)).mono ?_
            rintro e w23 ⟨F23, rfl, k23, st23⟩
            have K23 := hide (k23.mono (m' := 1 + 3 * (k + 1)) (by omega)); have N23 := hide ((unhide N21).stp st23); have KL23 := hide ((unhide KL21).stp st23); have VL23 := hide ((unhide VL21).stp st23); clear k23 st23 K21 N21 KL21 VL21
            go_wp2
            go_roundw
            case rel => exact ⟨k + 1, s, F23, ka, va, m, kc, vc, ks, vs, rfl, rfl, by go_num, by omega, unhide K23, unhide N23, unhide HOS, unhide KL23, unhide VL23, unhide HAP, unhide HKB⟩
            case measure => simp [intOf]; omega
        · by_cases hin : kk ∈ ks
          · have hlt2 : ks.idxOf kk < ks.length := List.idxOf_lt_length_iff.2 hin
            have hw : whereQ ks kk = (ks.idxOf kk : Int) := by unfold whereQ; rw [if_pos hlt2]
            obtain ⟨s', ep, op⟩ := (unhide HOS).cut hin
            rw [(unhide HKL).len] at hlt2
            generalize whereQ ks kk = at0 at *
            generalize ks.idxOf kk = p0 at *
            subst hw
            obtain ⟨gk, ek, _⟩ := (unhide HKL).cellAt2 hlt2
            obtain ⟨gv, ev, _⟩ := (unhide HVL).cellAt2 hlt2
            subst ek ev
            have hgkv : gk ≠ gv := fun e => unhide HAP gk (by simp [ab]) (by simp [ab, e])
            obtain ⟨hkc, hkc2⟩ := (unhide HKL).caps
            obtain ⟨hvc, hvc2⟩ := (unhide HVL).caps
            have hpm : p0 ≤ m := by omega
            have hpk : p0 ≤ kc := by omega
            have hpv : p0 ≤ vc := by omega
            have hml := (unhide HKL).len
            have hmv := (unhide HVL).len
            have nlen : (ints (ks.drop (p0 + 1))).length = (m - (p0 + 1)) * 1 := by simp [ints, hml]
            have vlen : (ints (vs.drop (p0 + 1))).length = (m - (p0 + 1)) * 1 := by simp [ints, hmv]
            have NLEN := hide nlen; have VLEN := hide vlen
            have hd4 : Chg [] w4 w4.drew := (Chg.refl [] w4).drew
            have kl5 := (unhide HKL).chg hd4 (by simp)
            obtain ⟨A, hA, hnews⟩ := kl5.news hlt2
            have hspare := kl5.spare hlt2
            have HNEWS := hide hnews; have HSPARE := hide hspare
            obtain ⟨kl6, kc6⟩ := kl5.del hlt2
            have kd6 := Chg.trans (hd4.mono (by simp)) kc6
            have HKL6 := hide kl6; have KD6 := hide kd6
            have hkb2 : ∀ x ∈ ks.take p0 ++ ks.drop (p0 + 1), 0 ≤ x ∧ x < 12 := fun x hx => by
              rcases List.mem_append.1 hx with h | h
              · exact unhide HKB x (List.mem_of_mem_take h)
              · exact unhide HKB x (List.mem_of_mem_drop h)
            have HKB2 := hide hkb2
            have EP := hide ep; have OP := hide op
            clear ep op hin kl5 hnews hspare kl6 kc6 kd6 hd4 nlen vlen hkb2
            have hwr : IntKind.i64.wrap ((p0 : Int) + 1) = (p0 : Int) + 1 := by rw [IntKind.wrap_i64]; omega
            have hp0 : (0 : Int) ≤ (p0 : Int) + 1 := by omega
            have hp1 : (p0 : Int) + 1 ≤ (m : Int) := by omega
            have hp2 : ((p0 : Int) + 1).toNat = p0 + 1 := by omega
            have zneg : decide ((p0 : Int) < 0) = false := decide_eq_false (by omega)
            have zneg2 : ¬ (p0 : Int) < 0 := by omega
            go_wp2_with fail
            go_region_law (refine step_append_room rfl (.tmp 101) (.tmp 105) 27 rfl 3 i0 1 Try.underlying27 hi0 hz1 gk 0 p0 kc (by simp [Act.eval, Act.put]) A (m - (p0 + 1)) (kc - (p0 + 1)) (ints (ks.drop (p0 + 1))) (by simp [Act.eval, Act.put]) (unhide NLEN) (unhide HNEWS) (ints_one _) (by omega) (unhide HSPARE) ?_)
            have k6 := (unhide HKS).chg hP (unhide KD6) (fun b hb hm => ((unhide HKL).out b (by simp at hm; subst hm; simp [ab])).1 hb)
            have n6 := (unhide HNW).chgS (unhide KD6) (fun b hb => ((unhide HKL).out b (by simp at hb; subst hb; simp [ab])).2)
            have v6 := (unhide HVL).chg (unhide KD6) (fun x hx hm => unhide HAP x (by simp at hm; subst hm; simp [ab]) hx)
            generalize w4.drew.setCells gk p0 (ints (ks.drop (p0 + 1))) = w6 at *
            have hd6 : Chg [] w6 w6.drew := (Chg.refl [] w6).drew
            have v7 := v6.chg hd6 (by simp)
            obtain ⟨B, hB, hnews2⟩ := v7.news hlt2
            have hspare2 := v7.spare hlt2
            obtain ⟨v8, kc8⟩ := v7.del hlt2
            have kd8 := Chg.trans (hd6.mono (by simp)) kc8
            have k8 := k6.chg hP kd8 (fun b hb hm => (v6.out b (by simp at hm; subst hm; simp [ab])).1 hb)
            have n8 := n6.chgS kd8 (fun b hb => (v6.out b (by simp at hb; subst hb; simp [ab])).2)
            have kl8 := (unhide HKL6).chg kd8 (fun x hx hm => by simp [ab] at hx hm; exact hgkv (hx.symm.trans hm))
            have HNEWS2 := hide hnews2; have HSPARE2 := hide hspare2; have K20 := hide k8; have N20 := hide n8; have KL20 := hide kl8; have VL20 := hide v8
            clear k6 n6 v6 v7 v8 kc8 kd8 k8 n8 kl8 hnews2 hspare2 hd6 HKS HNW HKL HVL HNEWS HSPARE HKL6 KD6 hA
            go_wp2_with fail
            go_region_law (refine step_append_room rfl (.tmp 109) (.tmp 113) 27 rfl 3 i0 1 Try.underlying27 hi0 hz1 gv 0 p0 vc (by simp [Act.eval, Act.put]) B (m - (p0 + 1)) (vc - (p0 + 1)) (ints (vs.drop (p0 + 1))) (by simp [Act.eval, Act.put]) (unhide VLEN) (unhide HNEWS2) (ints_one _) (by omega) (unhide HSPARE2) ?_)
            generalize w6.drew.setCells gv p0 (ints (vs.drop (p0 + 1))) = w8 at *
            go_wp2_with fail
            refine (number_any kk _).mono ?_
            rintro e w21 ⟨rfl, hc21⟩
            have K21 := hide ((unhide K20).chg hP hc21 (by simp)); have N21 := hide ((unhide N20).chg hc21); have KL21 := hide ((unhide KL20).chg hc21 (by simp)); have VL21 := hide ((unhide VL20).chg hc21 (by simp)); clear hc21 K20 N20 KL20 VL20
            go_wp2_with fail
            refine ((unhide K21).cut hP (by omega) 0 (1, kk) ⟨by omega, by omega⟩ ⟨⟨by simp, by simp⟩, ⟨by omega, by omega⟩⟩ (unhide EP)).mono ?_
            rintro e w23 ⟨F23, rfl, k23, st23⟩
            have K23 := hide (k23.mono (m' := 1 + 3 * (k + 1)) (by omega)); have N23 := hide ((unhide N21).stp st23); have KL23 := hide ((unhide KL21).stp st23); have VL23 := hide ((unhide VL21).stp st23); clear k23 st23 K21 N21 KL21 VL21
            go_wp2
            go_roundw
            case rel => exact ⟨k + 1, s', F23, some ⟨gk, 0, none⟩, some ⟨gv, 0, none⟩, p0 + (m - (p0 + 1)), kc, vc, ks.take p0 ++ ks.drop (p0 + 1), vs.take p0 ++ vs.drop (p0 + 1), rfl, rfl, by go_num, by omega, unhide K23, unhide N23, unhide OP, unhide KL23, unhide VL23, unhide HAP, unhide HKB2⟩
            case measure => simp [intOf]; omega
          · have hw : whereQ ks kk = -1 := by unfold whereQ; rw [if_neg (fun h => hin (List.idxOf_lt_length_iff.1 h))]
            have ep := (unhide HOS).cutNone hin
            generalize whereQ ks kk = at0 at *
            subst hw
            have EP := hide ep; have K20 := HKS; have N20 := HNW; have KL20 := HKL; have VL20 := HVL
            clear ep hin HKS HNW HKL HVL
            go_wp2_with fail
            refine (number_any kk _).mono ?_
            rintro e w21 ⟨rfl, hc21⟩
            have K21 := hide ((unhide K20).chg hP hc21 (by simp)); have N21 := hide ((unhide N20).chg hc21); have KL21 := hide ((unhide KL20).chg hc21 (by simp)); have VL21 := hide ((unhide VL20).chg hc21 (by simp)); clear hc21 K20 N20 KL20 VL20
            go_wp2_with fail
            refine ((unhide K21).cut hP (by omega) 0 (1, kk) ⟨by omega, by omega⟩ ⟨⟨by simp, by simp⟩, ⟨by omega, by omega⟩⟩ (unhide EP)).mono ?_
            rintro e w23 ⟨F23, rfl, k23, st23⟩
            have K23 := hide (k23.mono (m' := 1 + 3 * (k + 1)) (by omega)); have N23 := hide ((unhide N21).stp st23); have KL23 := hide ((unhide KL21).stp st23); have VL23 := hide ((unhide VL21).stp st23); clear k23 st23 K21 N21 KL21 VL21
            go_wp2
            go_roundw
            case rel => exact ⟨k + 1, s, F23, ka, va, m, kc, vc, ks, vs, rfl, rfl, by go_num, by omega, unhide K23, unhide N23, unhide HOS, unhide KL23, unhide VL23, unhide HAP, unhide HKB⟩
            case measure => simp [intOf]; omega
        · obtain ⟨s', ep, op⟩ := (unhide HOS).collect
          have OP := hide op; have EP := hide ep; clear ep op HOS
          go_wp2_with fail
          refine ((unhide HKS).collect hP (by omega) (unhide EP)).mono ?_
          rintro e w23 ⟨F23, rfl, k23, st23⟩
          have K23 := hide (k23.mono (m' := 1 + 3 * (k + 1)) (by omega)); have N23 := hide ((unhide HNW).stp st23); have KL23 := hide ((unhide HKL).stp st23); have VL23 := hide ((unhide HVL).stp st23); clear k23 st23 HKS HNW HKL HVL
          go_wp2
          go_roundw
          case rel => exact ⟨k + 1, s', F23, ka, va, m, kc, vc, ks, vs, rfl, rfl, by go_num, by omega, unhide K23, unhide N23, unhide OP, unhide KL23, unhide VL23, unhide HAP, unhide HKB⟩
          case measure => simp [intOf]; omega
        · obtain ⟨x, s2, s3, f1, f2, f3, op⟩ := (unhide HOS).waste (n := pickQ p 17) (by have := pickQ_lt p (n := 17) (by omega); omega)
          have OP := hide op; have F1' := hide f1; have F2' := hide f2; have F3' := hide f3; clear f1 f2 f3 op HOS
          go_wp2_with fail
          refine (waste_any hP (unhide HKS) (by omega) p (unhide HPP) (unhide F1') (unhide F2') (unhide F3')).mono ?_
          rintro e w23 ⟨F23, rfl, k23, st23⟩
          have K23 := hide (k23.mono (m' := 1 + 3 * (k + 1)) (by omega)); have N23 := hide ((unhide HNW).stp st23); have KL23 := hide ((unhide HKL).stp st23); have VL23 := hide ((unhide HVL).stp st23); clear k23 st23 HKS HNW HKL HVL
          go_wp2
          go_roundw
          case rel => exact ⟨k + 1, s3, F23, ka, va, m, kc, vc, ks, vs, rfl, rfl, by go_num, by omega, unhide K23, unhide N23, unhide OP, unhide KL23, unhide VL23, unhide HAP, unhide HKB⟩
          case measure => simp [intOf]; omega
    · have hke : k = pn := by omega
      subst hke
      have hcall := ordered_any hP hks (by omega) (by omega) hnw hos hkl hvl (fun x hx => by have := hkb x hx; exact ⟨by omega, by omega⟩)
      have HCALL := hide hcall; clear hcall hks hnw hos hkl hvl hap hkb
      go_wp2_with fail
      refine (unhide HCALL).mono ?_
      rintro e w3 ⟨rfl, hc⟩
      have HC := hide hc; clear hc
      go_wp2
      go_ret
      exact ⟨rfl, unhide HC⟩
end Go.Proofs.Ytfoncalkgmeklaa

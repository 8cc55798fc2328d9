/- gripkeep's reach: the words of all that can be reached. -/
import Derived.Test.YtfoncalkgmeklaaCXwKReach
import Derived.Test.YtfoncalkgmeklaaXwM45
import Derived.Test.YtfoncalkgmeklaaXwM42
namespace Go.Proofs.Ytfoncalkgmeklaa
open Go.RowKit

def slen : Value → Nat
  | .slice _ n _ => n
  | _ => 0
theorem Stp.chgS {F F' S : List Nat} {w w1 w2 : World} (h : Stp F w F' w1) (k : Chg S w1 w2) (hS : ∀ x ∈ S, w.heap.size ≤ x) : Stp F w F' w2 := ⟨h.chg.trans_new k (fun x hx => .inr (hS x hx)), h.foot⟩
theorem Beside.set {w : World} {g : Nat} {c : List Value} {T : TypeId} {F : List Nat} (h : Beside w g c T F) (i : Nat) (v : Value) : Beside (w.setCell ⟨g, i, none⟩ v) g (c.set i v) T F := ⟨h.1.setCell i v, h.2⟩
theorem Beside.chgS {w w' : World} {g : Nat} {c : List Value} {T : TypeId} {F S : List Nat} (h : Beside w g c T F) (k : Chg S w w') (hS : g ∉ S) : Beside w' g c T F := ⟨h.1.chg k hS, h.2⟩
/-- Numbers more. -/
theorem Lst.pushs {w0 w w1 : World} {a : Option Addr} {n c m : Nat} {l zs : List Int} {F : List Nat} (h : Lst w0 w a n c l F) (hF : ∀ b ∈ F, b < w.heap.size) (h0 : w0.heap.size ≤ w.heap.size) {va : Option Addr} {cap H : Nat} (hz : zs.length = m)
    (ho : w1.ownsRow 0 3 1 (.slice va (n + m) cap) (n + m) (ints l ++ ints zs)) (hg : w.grownBy w1 (Value.slice a n c).ownBlock) (hH : w.heap.size ≤ H)
    (hat : (Value.slice va (n + m) cap).ownBlock = (Value.slice a n c).ownBlock ∨ (Value.slice va (n + m) cap).ownBlock = some H) :
    Lst w0 w1 va (n + m) cap (l ++ zs) F ∧ Chg (ab a) w w1 := by
  have k1 : Chg (ab a) w w1 := grown_ab (S := []) (Chg.refl [] w) hg
  refine ⟨⟨by rw [ints_append]; exact ho, by simp [h.len, hz], fun y hy => ?_⟩, k1⟩
  rcases at_ab hH hat y hy with h1 | h1
  · exact h.out y h1
  · exact ⟨fun hm => by have := hF y hm; omega, by omega⟩
/-- The places of the first handles that are live. -/
structure Found (s : R) (all : List Int) (j : Nat) (T : List Int) : Prop where
  sound : ∀ t ∈ T, ∃ x ∈ s.reach, t = placeOf s.objs x s.row
  whole : ∀ (i : Nat) (x : Int), i < j → all[i]? = some x → (s.placeQ x).2 = 0 → (s.placeQ x).1 ∈ T
  len : T.length ≤ j
theorem Found.nil (s : R) (all : List Int) : Found s all 0 [] := ⟨by simp, fun i x h => by omega, by simp⟩
theorem Found.skip {s : R} {all : List Int} {j : Nat} {T : List Int} (h : Found s all j T) {x : Int} (hx : all[j]? = some x) (he : (s.placeQ x).2 ≠ 0) : Found s all (j + 1) T :=
  ⟨h.sound, fun i y hi hy h0 => by
    rcases Nat.lt_or_ge i j with h1 | h1
    · exact h.whole i y h1 hy h0
    · obtain rfl : i = j := by omega
      rw [hx] at hy
      cases hy
      exact absurd h0 he, by have := h.len; omega⟩
theorem Found.more {s : R} (ha : RAll s) {all : List Int} {j : Nat} {T : List Int} (h : Found s all j T) {x : Int} (hx : all[j]? = some x) (he : (s.placeQ x).2 = 0) : Found s all (j + 1) (T ++ [(s.placeQ x).1]) := by
  refine ⟨fun t ht => ?_, fun i y hi hy h0 => ?_, by have := h.len; simp; omega⟩
  · rcases List.mem_append.1 ht with h1 | h1
    · exact h.sound t h1
    · simp at h1
      subst h1
      exact place_reach ha he
  · rcases Nat.lt_or_ge i j with h1 | h1
    · exact List.mem_append_left _ (h.whole i y h1 hy h0)
    · obtain rfl : i = j := by omega
      rw [hx] at hy
      cases hy
      simp
theorem Found.seen {s : R} (ha : RAll s) (hd : s.dead = false) {all : List Int} {j : Nat} {T : List Int} (h : Found s all j T) (hj : all.length ≤ j) (hn : Noted s all) : Seen s [] T 0 := by
  refine ⟨by simp, by simp, h.sound, fun i t hi => by omega, by simp, fun g hg hl => ?_, Nat.zero_le _⟩
  obtain ⟨i, hi⟩ := List.mem_iff_getElem?.1 (hn g hg hl)
  have hp := place_live ha hd hg hl
  have := h.whole i g.num (by have := (List.getElem?_eq_some_iff.1 hi).1; omega) hi (by rw [hp])
  rwa [hp] at this
set_option maxRecDepth 100000 in
set_option maxHeartbeats 8000000 in
theorem reach_any {G : World → Nat → R → List Nat → Prop} {J : R → Prop} (hP : KP G J) {w : World} {bh m : Nat} {s : R} {F : List Nat} (h : KS G J w bh s F m) (hm : m ≤ 1125899906842624) (hd : s.dead = false) (aa : Option Addr) (na ca : Nat) (all : List Int) (hl : all.length = na) (hna : na ≤ 1954687338211) (hall : IntsAt w aa all) (hv : ∀ x ∈ all, I64 x) (hfa : ∀ ad, aa = some ad → ad.block ∉ F) (hnt : Noted s all) :
    Calls Try.prog 13 #[.pointer (some ⟨bh, 0, none⟩), .slice aa na ca] w fun e w' => ∃ F', e = .returned (.tuple #[.int .i64 (usedOf s.objs s.reach), .bool true]) ∧ KS G J w' bh s F' m ∧ Stp F w F' w' := by
  obtain ⟨i0, hi, hz0, hz1, hz2⟩ := info_parts info4
  obtain ⟨i1, hi1, hy0, hy1, hy2⟩ := info_parts info3
  have hmk : ∀ (u : World) (n : Nat), n ≤ 1000000 → (Instr.makeSlice 22 (.int .i64 (n : Int)) (.int .i64 (n : Int))).run Try.prog u =
      .ok (.slice (some ⟨u.heap.size, 0, none⟩) n n) (u.alloc (.cells (reps n (Value.bool false)).toArray 4)) := fun u n hn => by
    have h := run_make (P := Try.prog) u 22 4 i0 (.bool false) Try.underlying22 hi hz0 .i64 .i64 (n : Int) (n : Int) (by omega) (Int.le_refl _) (by rw [hz2]; omega) (by omega)
    have e : ((n : Int)).toNat = n := by omega
    rw [e] at h
    simpa [hz1, Value.cells, madeCells_one] using h
  have hA := h.all
  have hwq : s.wordsQ = s.words := by simp [R.wordsQ, hd]
  have hfit : s.words.length ≤ 512 := words_fit hA
  have hsn : ∀ T, Found s all na T → Seen s [] T 0 := fun T hT => hT.seen hA hd (by omega) hnt
  have hlt0 := h.lt
  have HK := hide h; have HALL := hide hall; have HV := hide hv; have HFA := hide hfa; have HMK := hide hmk; have HAA := hide hA; have HSN := hide hsn; have HLT0 := hide hlt0; have HLL := hide hl
  clear h hall hv hfa hmk hA hnt hsn hlt0 hl
  go_enter Try.func13, Try.ntmps13
  go_wp2_with fail
  refine ((unhide HK).words hP (by omega)).mono ?_
  rintro e w1 ⟨la, n, lc, rfl, o1, k1⟩
  rw [hwq] at o1
  have hn := o1.len
  rw [hn] at hfit
  have hmk1 := unhide HMK w1 n (by omega)
  have ka1 : Chg [] w1 (w1.alloc (.cells (reps n (Value.bool false)).toArray 4)) := (Chg.refl [] w1).alloc _
  have hb1 : Beside (w1.alloc (.cells (reps n (Value.bool false)).toArray 4)) w1.heap.size (seenTo s [] n) 4 F := ⟨by rw [seenTo_nil]; exact Blk.new w1 _ _, fun hm => by have := k1.lt _ hm; omega⟩
  have k2 := k1.chg hP ka1 (by simp)
  have hc2 := o1.chg.trans ka1
  have hl2 : Lst w (w1.alloc (.cells (reps n (Value.bool false)).toArray 4)) la n lc s.words F := ⟨owns_chg o1.own ka1 (by simp), hn, fun x hx => ⟨fun hm => by have := unhide HLT0 x hm; have := o1.newer x hx; omega, o1.newer x hx⟩⟩
  have hla := own_lt hl2.own
  have hg2 : w1.heap.size < (w1.alloc (.cells (reps n (Value.bool false)).toArray 4)).heap.size := by show w1.heap.size < (w1.heap.push _).size; rw [Array.size_push]; omega
  have hlg : w1.heap.size ∈ ab la → False := fun hx => by have := own_lt o1.own _ hx; omega
  have hwg : w.heap.size ≤ w1.heap.size := o1.chg.size
  generalize w1.heap.size = g at *
  generalize e2 : (w1.alloc (.cells (reps n (Value.bool false)).toArray 4)) = w2 at *
  have K2 := hide k2; have C2 := hide hc2; have L2 := hide hl2; have B1 := hide hb1; have HN := hide hn; have HLA := hide hla; have HG2 := hide hg2; have HLG := hide hlg; have HWG := hide hwg
  clear k1 k2 hc2 hl2 hb1 o1 e2 HMK hn hwq hla hg2 ka1 hlg hwg HK
  generalize s.wordsE = we at *
  go_wp2_with fail
  clear hmk1
  go_loopw [9, 10, 11, 12] (fun v9 v10 _ _ wr => ∃ (j : Nat) (F' : List Nat) (ta : Option Addr) (tn tc : Nat) (T : List Int), v9 = .slice ta tn tc ∧ v10 = .int .i64 (j : Int) ∧ j ≤ na ∧ KS G J wr bh s F' m ∧ Stp F w F' wr ∧ w2.heap.size ≤ wr.heap.size ∧ Lst w2 wr ta tn tc T F' ∧ Lst w wr la n lc s.words F' ∧ Beside wr g (seenTo s [] n) 4 F' ∧ Found s all j T) (fun _ v10 _ _ _ => na - (intOf v10).toNat)
  case atStart => exact ⟨0, F, none, 0, 0, [], rfl, rfl, Nat.zero_le _, unhide K2, Stp.of_chg (unhide C2), Nat.le_refl _, Lst.nil _ _ _, unhide L2, unhide B1, Found.nil _ _⟩
  case round =>
    obtain ⟨j, F1, ta, tn, tc, T, rfl, rfl, hj, k1, st1, hsz1, tl1, ll1, bb1, hfo⟩ := hrel
    clear K2 L2 B1
    have htn : tn ≤ j := by have := hfo.len; have := tl1.len; omega
    by_cases hjn : j < na
    · have hjn2 : (j : Int) < (na : Int) := by omega
      obtain ⟨b, off, hab, hbl, hcc⟩ := unhide HALL (by rw [unhide HLL]; omega)
      obtain ⟨x, hx⟩ : ∃ x, all[j]? = some x := ⟨_, List.getElem?_eq_getElem (by rw [unhide HLL]; omega)⟩
      have cx := hcc j x hx
      rw [← st1.chg.cell (a := ⟨b, off + j, none⟩) hbl (by have := unhide HFA ⟨b, off, none⟩ hab; exact this)] at cx
      subst hab
      have hxi := unhide HV x (List.mem_of_getElem? hx)
      have hpc := k1.place hP (by omega) x hxi (a := (s.placeQ x).1) (er := (s.placeQ x).2) rfl
      have hf0 : (s.placeQ x).2 = 0 → Found s all (j + 1) (T ++ [(s.placeQ x).1]) := fun he => hfo.more (unhide HAA) hx he
      have hf1 : (s.placeQ x).2 ≠ 0 → Found s all (j + 1) T := fun he => hfo.skip hx he
      generalize (s.placeQ x).2 = er at *
      generalize (s.placeQ x).1 = pl at *
      have HPC := hide hpc; have HF0 := hide hf0; have HF1 := hide hf1; have ST1 := hide st1; have TL1 := hide tl1; have LL1 := hide ll1; have BB1 := hide bb1
      clear hpc hf0 hf1 k1 st1 tl1 ll1 bb1 hcc hx hbl hfo hxi
      go_wp2_with fail
      refine (unhide HPC).mono ?_
      rintro e w7 ⟨F7, rfl, k7, st7⟩
      have K7 := hide k7; have ST7 := hide ((unhide ST1).trans st7); have TL7 := hide ((unhide TL1).stp st7); have LL7 := hide ((unhide LL1).stp st7); have BB7 := hide ((unhide BB1).stp st7)
      have hsz7 : w2.heap.size ≤ w7.heap.size := Nat.le_trans hsz1 st7.chg.size
      have HSZ7 := hide hsz7
      clear k7 st7 HPC ST1 TL1 LL1 BB1 cx hsz7 hsz1
      by_cases he : er = 0
      · subst he
        have hfo := unhide HF0 rfl
        have HFO := hide hfo; clear hfo HF0 HF1
        go_wp2_with (at_builtin; go_must (refine wpList_append_gen _ rfl (.tmp 44) (.tmp 46) 27 rfl 3 i1 (.int .i64 0) 1 8 Try.underlying27 hi1 hy0 hy1 hy2 rfl (by decide) (.slice ta tn tc) tn (ints T) rfl ?c0 (some ⟨w7.heap.size, 0, none⟩) 1 1 (ints [pl]) rfl rfl ?c1 (ints_one _) ?c2 ?c3 ?_))
        case c0 => exact World.ownsRow.alloc (unhide TL7).own _
        case c1 => first | exact fun _ => ⟨_, rfl, fun i y hi => by rw [addr_add, Nat.zero_add]; exact (Blk.new w7 (ints [pl]) 3).cell_of hi⟩ | exact fun i y hi => hi
        case c2 => unfold maxLen; omega
        case c3 => omega
        intro va cap w8 ho8 hg8 hat8
        obtain ⟨tl8, kc8⟩ := (unhide TL7).push (unhide K7).lt (unhide HSZ7) (.cells #[.int .i64 pl] 3) ho8 hg8 (Nat.le_succ _) hat8
        have hout : ∀ y ∈ ab ta, w2.heap.size ≤ y := fun y hy => ((unhide TL7).out y hy).2
        have k8 := (unhide K7).chg hP kc8 (fun b hb hm => ((unhide TL7).out b hm).1 hb)
        have st8 := (unhide ST7).chgS kc8 (fun y hy => by have := hout y hy; have := (unhide C2).size; omega)
        have hsz8 : w2.heap.size ≤ w8.heap.size := Nat.le_trans (unhide HSZ7) kc8.size
        have HSZ8 := hide hsz8
        have ll8 := (unhide LL7).chg kc8 (fun y hy hm => by have := unhide HLA y hy; have := hout y hm; omega)
        have bb8 := (unhide BB7).chgS kc8 (fun hm => by have := hout g hm; have := unhide HG2; omega)
        have K8 := hide k8; have ST8 := hide st8; have TL8 := hide tl8; have LL8 := hide ll8; have BB8 := hide bb8
        clear k8 st8 tl8 ll8 bb8 kc8 ho8 hg8 hat8 hout hsz8 K7 ST7 TL7 LL7 BB7
        go_wp2
        go_roundw
        case rel => exact ⟨j + 1, F7, va, tn + 1, cap, T ++ [pl], rfl, by go_num, by omega, unhide K8, unhide ST8, unhide HSZ8, unhide TL8, unhide LL8, unhide BB8, unhide HFO⟩
        case measure => simp [intOf]; omega
      · have ne : (er == 0) = false := by simp [he]
        have hfo := unhide HF1 he
        have HFO := hide hfo; clear hfo HF0 HF1 he
        go_wp2
        go_roundw
        case rel => exact ⟨j + 1, F7, ta, tn, tc, T, rfl, by go_num, by omega, unhide K7, unhide ST7, unhide HSZ7, unhide TL7, unhide LL7, unhide BB7, unhide HFO⟩
        case measure => simp [intOf]; omega
    · have zj : ¬ (j : Int) < (na : Int) := by omega
      have hje : j = na := by omega
      rw [hje] at hfo
      have hse := unhide HSN T hfo
      have K3 := hide k1; have ST3 := hide st1; have TL3 := hide tl1; have LL3 := hide ll1; have BB3 := hide bb1; have HSE := hide hse; have HSZ3 := hide hsz1
      clear k1 st1 tl1 ll1 bb1 hse hfo hje hsz1 HSN HFA HV HALL
      go_wp2_with fail
      go_loopw [9, 13, 14, 15, 16, 17, 18] (fun v9 v13 v14 _ _ _ _ wr => ∃ (i : Nat) (V : List Nat) (ta : Option Addr) (tn tc : Nat) (T : List Int), v9 = .slice ta tn tc ∧ v13 = .int .i64 (usedOf s.objs V) ∧ v14 = .int .i64 (i : Int) ∧ KS G J wr bh s F1 m ∧ Stp F w F1 wr ∧ w2.heap.size ≤ wr.heap.size ∧ Lst w2 wr ta tn tc T F1 ∧ Lst w wr la n lc s.words F1 ∧ Beside wr g (seenTo s V n) 4 F1 ∧ Seen s V T i ∧ tn ≤ na + 128 * V.length) (fun v9 v13 v14 _ _ _ _ _ => (513 - (intOf v13).toNat) * 200 + (slen v9 - (intOf v14).toNat))
      case atStart => exact ⟨0, [], ta, tn, tc, T, rfl, by simp [usedOf], rfl, unhide K3, unhide ST3, unhide HSZ3, unhide TL3, unhide LL3, unhide BB3, unhide HSE, by simp; omega⟩
      case round =>
        obtain ⟨i, V, ta, tn, tc, T, rfl, rfl, rfl, k1, st1, hsz1, tl1, ll1, bb1, hse, htv⟩ := hrel
        clear K3 ST3 TL3 LL3 BB3 HSE HSZ3
        obtain ⟨hu1, hu2⟩ := hse.used (unhide HAA)
        have hVl : V.length ≤ 512 := by omega
        have hile : i ≤ tn := by have := hse.le; have := tl1.len; omega
        by_cases hin : i < tn
        · have hin2 : (i : Int) < (tn : Int) := by omega
          obtain ⟨t, ht⟩ : ∃ t, T[i]? = some t := ⟨_, List.getElem?_eq_getElem (by rw [tl1.len]; exact hin)⟩
          obtain ⟨x, hxr, hxp⟩ := hse.todo t (List.mem_of_getElem? ht)
          have hxrow := reach_row (unhide HAA) x hxr
          have hbd := place_bd (unhide HAA) hxrow
          have hsz := sized_obj (unhide HAA) hxrow
          have hhd := head_obj (unhide HAA) hxrow
          have hrl := refs_len (unhide HAA) hxrow
          have hwd := words_bd ((unhide HAA).ok.osh (objOf_mem ((unhide HAA).ok.inv.rows x hxrow))).kind
          rw [unhide HN] at hbd
          obtain ⟨q, hq⟩ : ∃ q : Nat, placeOf s.objs x s.row = (q : Int) := ⟨(placeOf s.objs x s.row).toNat, by omega⟩
          rw [hq] at hbd hsz hhd hrl
          have hqn : q < n := by omega
          have hqn2 : (q : Int) < (n : Int) := by omega
          have htq : t = (q : Int) := by rw [hxp, hq]
          have cT : ∀ w', Lst w2 w' ta tn tc T F1 → ∃ gt, ta = some ⟨gt, 0, none⟩ ∧ w'.cell? ⟨gt, i, none⟩ = some (.int .i64 (q : Int)) := fun w' hL => by
            obtain ⟨gt, e, _, hc⟩ := owns_at hL.own (by omega)
            exact ⟨gt, e, by rw [← htq]; exact hc i _ (by simp [ints, ht])⟩
          have hcl := fun w' (hL : Lst w w' la n lc s.words F1) => sized_any la n lc s.words (q : Int) w' (unhide HN) (by omega) ⟨by omega, by omega⟩ hL.at hhd
          rw [hsz] at hcl
          simp only [sizedV] at hcl
          have hrf := fun w' (hL : Lst w w' la n lc s.words F1) => refs_any la n lc s.words (q : Int) w' (unhide HN) (by omega) ⟨by omega, by omega⟩ hL.at hhd
          obtain ⟨gt, hgt, ct⟩ := cT wr tl1
          subst hgt
          have cq := bb1.1.cell_of (seenTo_at (s := s) (V := V) hqn)
          have hskip : seenAt s V q = true → Seen s V T (i + 1) := fun hs => by
            obtain ⟨y, hy, ey⟩ := seen_mem.1 hs
            exact hse.skip (unhide HAA) ht hy (by rw [htq, ey])
          have hmore : seenAt s V q = false → Seen s (V ++ [x]) (T ++ refsQ s.words (q : Int)) (i + 1) := fun hs => by
            have hxV : x ∉ V := fun hm => by
              have : seenAt s V q = true := seen_mem.2 ⟨x, hm, hq⟩
              rw [this] at hs
              cases hs
            rw [← htq]
            exact hse.more (unhide HAA) ht hxr hxV hxp
          have hset := seenTo_set (V := V) (n := n) hq
          have hus := usedOf_snoc s.objs V x
          have ewo : oWords (s.objs.getD x robj0) = oWords (s.objOf x) := rfl
          generalize oWords (s.objOf x) = ow at *
          generalize (s.objOf x).kind = kd at *
          generalize (s.objOf x).size = sz at *
          generalize hub : usedOf s.objs V = ub at *
          generalize seenAt s V q = sb at *
          have HCL := hide hcl; have HRF := hide hrf; have HSK := hide hskip; have HMO := hide hmore; have HSET := hide hset; have HUS := hide hus; have HEW := hide ewo; have HRL := hide hrl; have CT := hide cT
          have K1 := hide k1; have ST1 := hide st1; have TL1 := hide tl1; have LL1 := hide ll1; have BB1 := hide bb1; have HUB := hide hub; have HU1 := hide hu1; have HSZ1 := hide hsz1
          clear hcl hrf hskip hmore hset hus ewo hrl cT k1 st1 tl1 ll1 bb1 hub hse hbd hsz hhd hxp hxr hxrow hq ht htq hu1 hsz1
          have hub0 : 0 ≤ ub := by have := unhide HU1; omega
          obtain ⟨hwd1, hwd2⟩ := hwd
          go_wp2_with fail
          refine (unhide HCL _ (unhide LL1)).mono ?_
          rintro e w4 ⟨rfl, hw4⟩
          subst hw4
          cases sb with
          | true =>
            go_wp2
            go_roundw
            case rel => exact ⟨i + 1, V, _, tn, tc, T, rfl, by rw [unhide HUB], by go_num, unhide K1, unhide ST1, unhide HSZ1, unhide TL1, unhide LL1, unhide BB1, unhide HSK (by simp), htv⟩
            case measure => simp [intOf, slen]; omega
          | false =>
            have fq := (unhide BB1).1.frozen q
            have kc5 : Chg [g] w4 (w4.setCell ⟨g, q, none⟩ (.bool true)) := (Chg.refl _ w4).setCell (.inl (by simp)) _
            have bb5 := (unhide BB1).set q (.bool true)
            rw [unhide HSET] at bb5
            have hgt : gt ≠ g := fun e => by
              have := ((unhide TL1).out gt (by simp [ab])).2
              have := unhide HG2
              omega
            have k5 := (unhide K1).chg hP kc5 (fun b hb hm => (unhide BB1).2 (by simp at hm; rw [← hm]; exact hb))
            have st5 := (unhide ST1).chgS kc5 (fun y hy => by simp at hy; rw [hy]; exact unhide HWG)
            have tl5 := (unhide TL1).chg kc5 (fun y hy hm => by simp [ab] at hy hm; omega)
            have ll5 := (unhide LL1).chg kc5 (fun y hy hm => unhide HLG (by simp at hm; rw [← hm]; exact hy))
            obtain ⟨gt', hgt', ct5⟩ := unhide CT _ tl5
            simp only [Option.some.injEq, Addr.mk.injEq, and_true] at hgt'
            subst hgt'
            have hsz5 : w2.heap.size ≤ (w4.setCell ⟨g, q, none⟩ (.bool true)).heap.size := Nat.le_trans (unhide HSZ1) kc5.size
            have K5 := hide k5; have ST5 := hide st5; have TL5 := hide tl5; have LL5 := hide ll5; have BB5 := hide bb5; have HSZ5 := hide hsz5
            clear k5 st5 tl5 ll5 bb5 kc5 hsz5 K1 ST1 TL1 LL1 BB1 HSZ1 HSK HCL hgt
            go_wp2_with fail
            generalize (w4.setCell ⟨g, q, none⟩ (.bool true)) = w5 at *
            clear ct ct5 cq fq
            refine (unhide HRF _ (unhide LL5)).mono ?_
            rintro e w6 ⟨ra, rn, rc, rfl, o6⟩
            have hrn := o6.len
            have hr128 : rn ≤ 128 := by have := unhide HRL; omega
            have K6 := hide ((unhide K5).chg hP o6.chg (by simp)); have ST6 := hide ((unhide ST5).trans (Stp.of_chg o6.chg)); have TL6 := hide ((unhide TL5).chg o6.chg (by simp)); have LL6 := hide ((unhide LL5).chg o6.chg (by simp)); have BB6 := hide ((unhide BB5).chg o6.chg); have HSZ6 := hide (Nat.le_trans (unhide HSZ5) o6.chg.size)
            have hra : 0 < rn → ∃ ad, ra = some ad ∧ ∀ j u, (ints (refsQ s.words (q : Int)))[j]? = some u → w6.cell? (ad.add j) = some u := fun h0 => by
              obtain ⟨ad, e, _, hc⟩ := owns_src o6.own h0
              exact ⟨ad, e, hc⟩
            have HRA := hide hra; have HRN := hide hrn
            clear o6 hra hrn K5 ST5 TL5 LL5 BB5 HSZ5 HRF
            go_wp2_with (at_builtin; go_must (refine wpList_append_gen _ rfl (.tmp 83) (.tmp 89) 27 rfl 3 i1 (.int .i64 0) 1 8 Try.underlying27 hi1 hy0 hy1 hy2 rfl (by decide) (.slice (some ⟨gt, 0, none⟩) tn tc) tn (ints T) rfl ?c0 ra rn rc (ints (refsQ s.words (q : Int))) rfl ?cl ?c1 (ints_one _) ?c2 ?c3 ?_))
            case c0 => exact (unhide TL6).own
            case cl => rw [Nat.mul_one]; simpa [ints] using unhide HRN
            case c1 => exact unhide HRA
            case c2 => unfold maxLen; omega
            case c3 => omega
            intro va cap w8 ho8 hg8 _ hat8
            obtain ⟨tl8, kc8⟩ := (unhide TL6).pushs (unhide K6).lt (unhide HSZ6) (unhide HRN) ho8 hg8 (Nat.le_refl _) hat8
            have hout : ∀ y ∈ ab (some (⟨gt, 0, none⟩ : Addr)), w2.heap.size ≤ y := fun y hy => ((unhide TL6).out y hy).2
            have k8 := (unhide K6).chg hP kc8 (fun b hb hm => ((unhide TL6).out b hm).1 hb)
            have st8 := (unhide ST6).chgS kc8 (fun y hy => by have := hout y hy; have := (unhide C2).size; omega)
            have hsz8 : w2.heap.size ≤ w8.heap.size := Nat.le_trans (unhide HSZ6) kc8.size
            have ll8 := (unhide LL6).chg kc8 (fun y hy hm => by have := unhide HLA y hy; have := hout y hm; omega)
            have bb8 := (unhide BB6).chgS kc8 (fun hm => by have := hout g hm; have := unhide HG2; omega)
            have hub8 : ub + ow = usedOf s.objs (V ++ [x]) := by rw [unhide HUS, unhide HEW]
            have hse8 := unhide HMO (by simp)
            have hu8 := (hse8.used (unhide HAA)).2
            rw [← hub8] at hu8
            have htv8 : tn + rn ≤ na + 128 * (V ++ [x]).length := by simp; omega
            have K8 := hide k8; have ST8 := hide st8; have TL8 := hide tl8; have LL8 := hide ll8; have BB8 := hide bb8; have HSZ8 := hide hsz8; have HUB8 := hide hub8; have HSE8 := hide hse8; have HTV8 := hide htv8
            clear k8 st8 tl8 ll8 bb8 kc8 ho8 hg8 hat8 hout hsz8 hub8 hse8 htv8 K6 ST6 TL6 LL6 BB6 HSZ6 HRA HMO
            go_wp2
            go_roundw
            case rel => exact ⟨i + 1, V ++ [x], va, tn + rn, cap, T ++ refsQ s.words (q : Int), rfl, by rw [← unhide HUB8], by go_num, unhide K8, unhide ST8, unhide HSZ8, unhide TL8, unhide LL8, unhide BB8, unhide HSE8, unhide HTV8⟩
            case measure => simp [intOf, slen]; omega
        · have zi : ¬ (i : Int) < (tn : Int) := by omega
          have hie : i = T.length := by have := tl1.len; omega
          rw [hie] at hse
          have hfin := hse.all (unhide HAA)
          have K1 := hide k1; have ST1 := hide st1; have HFIN := hide hfin
          clear k1 st1 tl1 ll1 bb1 hse hie hfin hsz1
          generalize usedOf s.objs V = ub at *
          go_wp2
          go_ret2
          first | exact ⟨F1, by rw [← unhide HFIN]; rfl, unhide K1, unhide ST1⟩ | exact ⟨by rw [← unhide HFIN]; rfl, F1, unhide K1, unhide ST1⟩
end Go.Proofs.Ytfoncalkgmeklaa

/- gripkeep's tiled. -/
import Derived.Test.YtfoncalkgmeklaaXwM43
namespace Go.Proofs.Ytfoncalkgmeklaa
open Go.RowKit

theorem place_take {objs : List RObj} : ∀ {l : List Nat} {t i : Nat}, l.Nodup → l[t]? = some i → placeOf objs i l = usedOf objs (l.take t)
  | [], t, i, _, h => by simp at h
  | x :: r, 0, i, _, h => by
    have : x = i := by simpa using h
    simp [placeOf, usedOf, this]
  | x :: r, t + 1, i, hn, h => by
    have h' : r[t]? = some i := by simpa using h
    have hx : x ≠ i := fun e => by
      subst e
      exact (List.nodup_cons.1 hn).1 (List.mem_of_getElem? h')
    simp only [placeOf, if_neg hx, List.take_succ_cons, usedOf, place_take (List.nodup_cons.1 hn).2 h']
theorem used_take_succ {objs : List RObj} {l : List Nat} {t i : Nat} (h : l[t]? = some i) : usedOf objs (l.take (t + 1)) = usedOf objs (l.take t) + oWords (objs.getD i robj0) := by
  rw [List.take_add_one, h, usedOf_append]
  simp [usedOf]
/-- Does one of the first t objects begin at a place? -/
def startAt (s : R) (t : Nat) (q : Nat) : Bool := (s.row.take t).any fun i => placeOf s.objs i s.row == (q : Int)
def startsTo (s : R) (t n : Nat) : List Value := (List.range n).map fun q => .bool (startAt s t q)
theorem startsTo_zero (s : R) (n : Nat) : startsTo s 0 n = reps n (.bool false) := by
  simp [startsTo, startAt, reps, List.map_const']
theorem startsTo_at {s : R} {t n q : Nat} (h : q < n) : (startsTo s t n)[q]? = some (.bool (startAt s t q)) := by simp [startsTo, h]
theorem startsTo_len (s : R) (t n : Nat) : (startsTo s t n).length = n := by simp [startsTo]
theorem startsTo_set {s : R} {t n i p : Nat} (hi : s.row[t]? = some i) (hp : placeOf s.objs i s.row = (p : Int)) : (startsTo s t n).set p (.bool true) = startsTo s (t + 1) n := by
  apply List.ext_getElem?
  intro q
  have e : startAt s (t + 1) q = (startAt s t q || decide ((p : Int) = (q : Int))) := by
    simp only [startAt, List.take_add_one, hi, List.any_append, Option.toList, List.any_cons, List.any_nil, Bool.or_false, hp]
    rfl
  rw [List.getElem?_set]
  by_cases hq : q < n
  · rw [startsTo_at hq, startsTo_at hq, startsTo_len, e]
    by_cases hpq : p = q
    · subst hpq
      simp [hq]
    · have : ¬ (p : Int) = (q : Int) := by omega
      rw [if_neg hpq, decide_eq_false this, Bool.or_false]
  · have h1 : (startsTo s t n)[q]? = none := List.getElem?_eq_none (by rw [startsTo_len]; omega)
    have h2 : (startsTo s (t + 1) n)[q]? = none := List.getElem?_eq_none (by rw [startsTo_len]; omega)
    rw [h1, h2]
    split
    · rw [startsTo_len]; split
      · omega
      · rfl
    · rfl
theorem start_mem {s : R} {q : Nat} (h : startAt s s.row.length q = true) : ∃ i ∈ s.row, placeOf s.objs i s.row = (q : Int) := by
  simp only [startAt, List.take_length, List.any_eq_true] at h
  obtain ⟨i, hi, e⟩ := h
  exact ⟨i, hi, by simpa using e⟩
theorem mem_start {s : R} {q i : Nat} (hi : i ∈ s.row) (h : placeOf s.objs i s.row = (q : Int)) : startAt s s.row.length q = true := by
  simp only [startAt, List.take_length, List.any_eq_true]
  exact ⟨i, hi, by simp [h]⟩
/-- A list below a mark. -/
def IntsIn (w : World) (a : Option Addr) (l : List Int) (g : Nat) : Prop :=
  0 < l.length → ∃ b off, a = some ⟨b, off, none⟩ ∧ b < g ∧ b < w.heap.size ∧ ∀ j x, l[j]? = some x → w.cell? ⟨b, off + j, none⟩ = some (.int .i64 x)
theorem IntsAt.ins {w : World} {a : Option Addr} {l : List Int} (h : IntsAt w a l) : IntsIn w a l w.heap.size := fun h0 => by
  obtain ⟨b, off, e, hl, hc⟩ := h h0
  exact ⟨b, off, e, hl, hl, hc⟩
theorem IntsIn.at {w : World} {a : Option Addr} {l : List Int} {g : Nat} (h : IntsIn w a l g) : IntsAt w a l := fun h0 => by
  obtain ⟨b, off, e, _, hl, hc⟩ := h h0
  exact ⟨b, off, e, hl, hc⟩
theorem IntsIn.chg {w w' : World} {a : Option Addr} {l : List Int} {g : Nat} {S : List Nat} (h : IntsIn w a l g) (k : Chg S w w') (hs : ∀ x ∈ S, g ≤ x) : IntsIn w' a l g := fun h0 => by
  obtain ⟨b, off, e, hb, hl, hc⟩ := h h0
  exact ⟨b, off, e, hb, Nat.lt_of_lt_of_le hl k.size, fun j x hj => by rw [k.cell (a := ⟨b, off + j, none⟩) hl (fun hm => by have := hs _ hm; simp at this; omega)]; exact hc j x hj⟩
/-- The first word of an object of the row. -/
theorem head_obj {s : R} (h : RAll s) {i : Nat} (hm : i ∈ s.row) : I64 (headQ s.words (placeOf s.objs i s.row)) := by
  obtain ⟨h1, h2, h3⟩ := place_bd h hm
  obtain ⟨k1, k2, k3, k4, k5⟩ := (h.ok.osh (objOf_mem (h.ok.inv.rows i hm))).kind
  rw [headQ_word h1, word_head h hm]
  constructor <;> omega
/-- A handle's place is where an object of the row begins. -/
theorem place_ok {s : R} (h : RAll s) {x : Int} (he : (s.placeQ x).2 = 0) : ∃ t ∈ s.row, (s.placeQ x).1 = placeOf s.objs t s.row := by
  unfold R.placeQ at he ⊢
  by_cases hl : (s.look1 x).2 = 0
  · rw [if_pos hl]
    refine ⟨(s.look1 x).1, ?_, rfl⟩
    rw [look1_eq] at hl ⊢
    cases hd : s.dead
    · rw [hd] at hl
      cases hf : s.find? x with
      | none => rw [hf] at hl; simp at hl
      | some a =>
        obtain ⟨g, hg, hlv, _⟩ := find_some hf
        have : s.handles.getD a rhan0 = g := by simp [List.getD, hg]
        simp only [Bool.false_eq_true, if_false, this]
        exact h.row.live g (List.mem_of_getElem? hg) hlv
    · rw [hd] at hl; simp at hl
  · rw [if_neg hl] at he; exact absurd he hl
theorem refs_len {s : R} (h : RAll s) {i : Nat} (hm : i ∈ s.row) : (refsQ s.words (placeOf s.objs i s.row)).length ≤ 128 := by
  obtain ⟨k1, k2, k3, k4, k5⟩ := (h.ok.osh (objOf_mem (h.ok.inv.rows i hm))).kind
  unfold refsQ
  rw [sized_obj h hm]
  split
  · simp
  split
  · exact Nat.le_trans (refsTo_len _ _ _) (by simp only; omega)
  · exact Nat.le_trans (refsTo_len _ _ _) (by simp only; omega)

set_option maxRecDepth 100000 in
set_option maxHeartbeats 8000000 in
theorem tiled_any {G : World → Nat → R → List Nat → Prop} {J : R → Prop} (hP : KP G J) {w : World} {bh m : Nat} {s : R} {F : List Nat} (h : KS G J w bh s F m) (hm : m ≤ 1125899906842624) (hd : s.dead = false) (aa : Option Addr) (na ca : Nat) (all : List Int) (hl : all.length = na) (hna : na ≤ 1954687338211) (hall : IntsAt w aa all) (hv : ∀ x ∈ all, I64 x) (hfa : ∀ ad, aa = some ad → ad.block ∉ F) :
    Calls Try.prog 11 #[.pointer (some ⟨bh, 0, none⟩), .slice aa na ca] w fun e w' => ∃ F', e = .returned (.bool true) ∧ KS G J w' bh s F' m ∧ Stp F w F' w' := by
  obtain ⟨i0, hi, hz0, hz1, hz2⟩ := info_parts info4
  have hmk : ∀ (u : World) (n : Nat), n ≤ 1000000 → (Instr.makeSlice 22 (.int .i64 ((n : Int) + 1)) (.int .i64 ((n : Int) + 1))).run Try.prog u =
      .ok (.slice (some ⟨u.heap.size, 0, none⟩) (n + 1) (n + 1)) (u.alloc (.cells (reps (n + 1) (Value.bool false)).toArray 4)) := fun u n hn => by
    have h := run_make (P := Try.prog) u 22 4 i0 (.bool false) Try.underlying22 hi hz0 .i64 .i64 ((n : Int) + 1) ((n : Int) + 1) (by omega) (Int.le_refl _) (by rw [hz2]; omega) (by omega)
    have e : ((n : Int) + 1).toNat = n + 1 := by omega
    rw [e] at h
    simpa [hz1, Value.cells, madeCells_one] using h
  have hA := h.all
  have hwq : s.wordsQ = s.words := by simp [R.wordsQ, hd]
  have hfit : s.words.length ≤ 512 := words_fit hA
  have hus := words_size hA.ok
  have HK := hide h; have HALL := hide hall; have HV := hide hv; have HFA := hide hfa; have HMK := hide hmk; have HAA := hide hA
  clear h hall hv hfa hmk hA
  go_enter Try.func11, Try.ntmps11
  go_wp2_with fail
  refine ((unhide HK).words hP (by omega)).mono ?_
  rintro e w1 ⟨la, n, lc, rfl, o1, k1⟩
  rw [hwq] at o1
  have hn := o1.len
  rw [hn] at hfit hus
  have hmk1 := unhide HMK w1 n (by omega)
  have hb1 : Blk (w1.alloc (.cells (reps (n + 1) (Value.bool false)).toArray 4)) w1.heap.size (startsTo s 0 (n + 1)) 4 := by rw [startsTo_zero]; exact Blk.new w1 _ _
  have k2 := k1.chg hP ((Chg.refl [] w1).alloc (.cells (reps (n + 1) (Value.bool false)).toArray 4)) (by simp)
  have hc2 : Chg [] w (w1.alloc (.cells (reps (n + 1) (Value.bool false)).toArray 4)) := o1.chg.alloc _
  have hr2 : IntsIn (w1.alloc (.cells (reps (n + 1) (Value.bool false)).toArray 4)) la s.words w1.heap.size := o1.at.ins.chg ((Chg.refl [] w1).alloc _) (by simp)
  have hsz2 : w.heap.size ≤ w1.heap.size := o1.chg.size
  have hgF : w1.heap.size ∉ F := fun hm => by have := k1.lt _ hm; omega
  generalize w1.heap.size = g at *
  generalize e2 : (w1.alloc (.cells (reps (n + 1) (Value.bool false)).toArray 4)) = w2 at *
  have K2 := hide k2; have C2 := hide hc2; have R2 := hide hr2; have B1 := hide hb1; have SZ2 := hide hsz2; have HUS := hide hus; have HN := hide hn; have HGF := hide hgF
  clear k1 k2 hc2 hr2 hb1 hsz2 o1 e2 HMK hus hn hgF hwq
  generalize s.wordsE = we at *
  go_wp2_with fail
  clear hmk1
  go_loopw [8, 9, 10, 11, 12] (fun p _ _ _ _ wr => ∃ (t q : Nat), t ≤ s.row.length ∧ p = .int .i64 (q : Int) ∧ (q : Int) = usedOf s.objs (s.row.take t) ∧ Blk wr g (startsTo s t (n + 1)) 4 ∧ Chg [g] w2 wr) (fun p _ _ _ _ _ => n - (intOf p).toNat)
  case atStart => exact ⟨0, 0, Nat.zero_le _, rfl, by simp [usedOf], unhide B1, Chg.refl _ _⟩
  case round =>
    obtain ⟨t, q, ht, rfl, hq, hb, hc⟩ := hrel
    by_cases htl : t < s.row.length
    · obtain ⟨i, hi⟩ : ∃ i, s.row[t]? = some i := ⟨_, List.getElem?_eq_getElem htl⟩
      have him : i ∈ s.row := List.mem_of_getElem? hi
      have hpl : placeOf s.objs i s.row = (q : Int) := by rw [place_take (unhide HAA).row.nodup hi, hq]
      have hbd := place_bd (unhide HAA) him
      have hsz := sized_obj (unhide HAA) him
      rw [hpl] at hbd hsz
      rw [unhide HN] at hbd
      have hwd := (words_bd ((unhide HAA).ok.osh (objOf_mem ((unhide HAA).ok.inv.rows i him))).kind).1
      have hr := (unhide R2).chg hc (by simp)
      have hcl := sized_any la n lc s.words (q : Int) wr (unhide HN) (by omega) ⟨by omega, by omega⟩ hr.at (by rw [← hpl]; exact head_obj (unhide HAA) him)
      rw [hsz] at hcl
      simp only [sizedV] at hcl
      have hset := startsTo_set (n := n + 1) hi hpl
      have hus2 := used_take_succ (objs := s.objs) hi
      have ewo : oWords (s.objs.getD i robj0) = oWords (s.objOf i) := rfl
      generalize oWords (s.objOf i) = ow at *
      generalize (s.objOf i).kind = kd at *
      generalize (s.objOf i).size = sz at *
      obtain ⟨wo, rfl⟩ : ∃ wo : Nat, ow = (wo : Int) := ⟨ow.toNat, by omega⟩
      have hqn : q < n := by omega
      have hqn1 : q < n + 1 := by omega
      have hqn2 : (q : Int) < (n : Int) := by omega
      have hqn3 : (q : Int) < (n : Int) + 1 := by omega
      have hqo : (q : Int) + (wo : Int) ≤ 512 := by omega
      have cq := hb.cell_of (startsTo_at (s := s) (t := t) hqn1)
      have fq := hb.frozen q
      have hb' := hb.setCell q (.bool true)
      rw [hset] at hb'
      have hc' : Chg [g] w2 (wr.setCell ⟨g, q, none⟩ (.bool true)) := hc.setCell (.inl (by simp)) _
      have HB := hide hb'; have HC := hide hc'; have HCL := hide hcl; have HQ := hide hq; have HU := hide hus2; have HEW := hide ewo
      clear hb hb' hc hc' hcl hr hset hus2 hbd hsz hpl hi him ewo hq
      go_wp2_with (go_at_call 45; refine (unhide HCL).mono ?_; rintro e w5 ⟨rfl, hw5⟩; have hw6 := hw5.symm; clear hw5; subst hw6)
      go_roundw
      case rel => exact ⟨t + 1, q + wo, by omega, by go_num, by rw [unhide HU, unhide HEW, ← unhide HQ]; omega, unhide HB, unhide HC⟩
      case measure => simp [intOf]; omega
    · have htr : t = s.row.length := by omega
      subst htr
      rw [List.take_length, ← unhide HUS] at hq
      have hqn : n = q := by omega
      subst hqn
      have hk3 : KS G J wr bh s F m := (unhide K2).chg hP hc (fun b hb hm => unhide HGF ((by simpa using hm : b = g) ▸ hb))
      have hr3 := (unhide R2).chg hc (by simp)
      have hc3 : Chg [] w wr := (unhide C2).trans_new hc (fun x hx => .inr (by have := unhide SZ2; simp at hx; omega))
      have HB := hide hb; have K3 := hide hk3; have R3 := hide hr3; have C3 := hide hc3; clear hb hc hq hk3 hr3 hc3 ht htl K2 R2 C2 B1
      go_wp2_with fail
      obtain ⟨w3, hw3⟩ : ∃ x : World, x = wr := ⟨_, rfl⟩
      subst hw3
      go_loopw [13, 14, 15, 16, 17, 18, 19, 20] (fun p _ _ _ _ _ _ _ wr => ∃ q : Nat, q ≤ n ∧ p = .int .i64 (q : Int) ∧ Chg [] w3 wr) (fun p _ _ _ _ _ _ _ _ => n - (intOf p).toNat)
      case atStart => exact ⟨0, Nat.zero_le _, rfl, Chg.refl _ _⟩
      case round =>
        obtain ⟨q, hq, rfl, hc⟩ := hrel
        by_cases hqn : q < n
        · have hqn1 : q < n + 1 := by omega
          have hqn2 : (q : Int) < (n : Int) := by omega
          have hqn3 : (q : Int) < (n : Int) + 1 := by omega
          have hb := (unhide HB).chg hc (by simp)
          have cq := hb.cell_of (startsTo_at (s := s) (t := s.row.length) hqn1)
          have hst : startAt s s.row.length q = true → ∃ i ∈ s.row, placeOf s.objs i s.row = (q : Int) := start_mem
          generalize startAt s s.row.length q = b at *
          have HC := hide hc; have HST := hide hst; clear hb hc hst
          cases b
          · go_wp2
            go_roundw
            case rel => exact ⟨q + 1, by omega, by go_num, unhide HC⟩
            case measure => simp [intOf]; omega
          · obtain ⟨i, him, hpl⟩ := unhide HST rfl
            clear HST
            have hbd := place_bd (unhide HAA) him
            have hsz := sized_obj (unhide HAA) him
            have hrf := refs_obj (unhide HAA) him
            have hhd := head_obj (unhide HAA) him
            rw [hpl] at hbd hsz hrf hhd
            rw [unhide HN] at hbd
            have hcl := refs_any la n lc s.words (q : Int) wr (unhide HN) (by omega) ⟨by omega, by omega⟩ ((unhide R3).chg (unhide HC) (by simp)).at hhd
            have HCL := hide hcl; have HSZ := hide hsz; have HRF := hide hrf; have HHD := hide hhd; have HPL := hide hpl; have HIM := hide him; have HBD := hide hbd
            clear hcl hsz hrf hhd hpl him hbd
            go_wp2_with fail
            refine (unhide HCL).mono ?_
            rintro e w4 ⟨ra, rn, rc, rfl, o4⟩
            have hrl := o4.len
            have hrn : rn ≤ 128 := by
              have := refs_len (unhide HAA) (unhide HIM)
              rw [unhide HPL] at this
              omega
            have c4 := (unhide HC).trans o4.chg
            have r4 := o4.at
            have b4 := (unhide HB).chg c4 (by simp)
            have C4 := hide c4; have R4 := hide r4; have B4 := hide b4; have HRL := hide hrl
            clear c4 r4 b4 o4 hrl HCL cq
            go_wp2_with fail
            go_loopw [15] (fun v wr => ∃ j : Nat, j ≤ rn ∧ v = .int .i64 (j : Int) ∧ wr = w4) (fun v _ => rn - (intOf v).toNat)
            case atStart => exact ⟨0, Nat.zero_le _, rfl, rfl⟩
            case round =>
              obtain ⟨j, hj, rfl, hww⟩ := hrel
              subst hww
              by_cases hjn : j < rn
              · have hjn2 : (j : Int) < (rn : Int) := by omega
                obtain ⟨b, off, rfl, hbl, hcc⟩ := unhide R4 (by rw [unhide HRL]; omega)
                obtain ⟨x, hx⟩ : ∃ x, (refsQ s.words (q : Int))[j]? = some x := ⟨_, List.getElem?_eq_getElem (by rw [unhide HRL]; exact hjn)⟩
                have cx := hcc j x hx
                obtain ⟨t, htm, ht⟩ := unhide HRF x (List.mem_of_getElem? hx)
                have hbd := place_bd (unhide HAA) htm
                have hwd := (words_bd ((unhide HAA).ok.osh (objOf_mem ((unhide HAA).ok.inv.rows t htm))).kind).1
                rw [unhide HN] at hbd
                obtain ⟨y, hy⟩ : ∃ y : Nat, x = (y : Int) := ⟨x.toNat, by omega⟩
                subst hy
                have hyn : y < n + 1 := by omega
                have hyn2 : (y : Int) < (n : Int) := by omega
                have hyn3 : (y : Int) < (n : Int) + 1 := by omega
                have hyn4 : y < n := by omega
                have cy := (unhide B4).cell_of (startsTo_at (s := s) (t := s.row.length) hyn)
                rw [mem_start htm ht.symm] at cy
                clear hbd hwd hcc hx htm ht hbl
                go_wp2
                go_roundw
                case rel => exact ⟨j + 1, by omega, by go_num, by first | rfl | trivial⟩
                case measure => simp [intOf]; omega
              · have hjr : rn = j := by omega
                subst hjr
                have hcl := sized_any la n lc s.words (q : Int) wr (unhide HN) (by omega) ⟨by omega, by omega⟩ ((unhide R3).chg (unhide C4) (by simp)).at (unhide HHD)
                rw [unhide HSZ] at hcl
                simp only [sizedV] at hcl
                have HCL := hide hcl; clear hcl
                by_cases hk3 : (s.objOf i).kind = 3
                · have htc := table_count (unhide HAA) (unhide HIM) hk3
                  have hno : ∀ r : Nat, 2 * (s.objOf i).vals.length ≤ r → (2 : Int) + r < oWords (s.objOf i) → headQ s.words ((q + 2 + r : Nat) : Int) = 0 := fun r h1 h2 => by
                    have := word_nought (unhide HAA) (unhide HIM) hk3 h1 h2
                    rw [unhide HPL, show ((q : Int)).toNat = q by omega] at this
                    exact this
                  have htb := ((unhide HAA).ok.osh (objOf_mem ((unhide HAA).ok.inv.rows i (unhide HIM)))).tab hk3
                  have how : oWords (s.objOf i) = 2 + 4 * (s.objOf i).size := by simp [oWords, wordsOf, hk3]
                  have hbd := unhide HBD
                  rw [unhide HPL] at htc
                  rw [hk3] at HCL
                  generalize (s.objOf i).vals.length = vl at *
                  generalize oWords (s.objOf i) = ow at *
                  generalize (s.objOf i).size = sz at *
                  obtain ⟨z, rfl⟩ : ∃ z : Nat, sz = (z : Int) := ⟨sz.toNat, by omega⟩
                  obtain ⟨cv, hcv⟩ : ∃ cv : Nat, vl = 2 * cv := ⟨vl / 2, by omega⟩
                  subst hcv
                  rw [show ((2 * cv : Nat) : Int) / 2 = (cv : Int) by omega] at htc
                  obtain ⟨b, off, hla, hbl, hcc⟩ := ((unhide R3).chg (unhide C4) (by simp)).at (by rw [unhide HN]; omega)
                  subst hla
                  have hq1 : q + 1 < n := by omega
                  have hq2 : (q : Int) + 1 < (n : Int) := by omega
                  have cc1 := hcc (q + 1) _ (headQ_at (by rw [unhide HN]; exact hq1))
                  rw [show ((q + 1 : Nat) : Int) = (q : Int) + 1 by omega, htc] at cc1
                  have hcz : cv ≤ z := by omega
                  have hcz2 : ¬ (z : Int) < (cv : Int) := by omega
                  have hz8 : z ≤ 8 := by omega
                  obtain ⟨d, hd⟩ : ∃ d : Nat, d = z - cv := ⟨_, rfl⟩
                  have hsub : IntKind.i64.wrap ((z : Int) - (cv : Int)) = (d : Int) := by rw [IntKind.wrap_i64]; omega
                  have hd8 : (d : Int) ≤ 8 := by omega
                  have HNO := hide hno; have HCC := hide hcc; have HHD := hide hd; have HOW := hide how; have HBD2 := hide hbd
                  clear hno hcc htb hbd htc hbl hk3 how
                  go_wp2_with (go_at_call 45; refine (unhide HCL).mono ?_; rintro e w5 ⟨rfl, hw5⟩; have hw6 := hw5.symm; clear hw5; subst hw6)
                  obtain ⟨w5, hw5⟩ : ∃ x : World, x = wr := ⟨_, rfl⟩
                  subst hw5
                  go_loopw [20] (fun v wr => ∃ j : Nat, j ≤ 4 * d ∧ v = .int .i64 (j : Int) ∧ wr = w5) (fun v _ => 4 * d - (intOf v).toNat)
                  case atStart => exact ⟨0, Nat.zero_le _, rfl, rfl⟩
                  case round =>
                    obtain ⟨j, hj, rfl, hww⟩ := hrel
                    subst hww
                    by_cases hjd : j < 4 * d
                    · have hjd2 : (j : Int) < ((4 * d : Nat) : Int) := by omega
                      have hX : q + 2 + (4 * cv + j) < n := by have := unhide HHD; have := unhide HOW; have := unhide HBD2; omega
                      have cX := unhide HCC (q + 2 + (4 * cv + j)) _ (headQ_at (by rw [unhide HN]; exact hX))
                      rw [unhide HNO (4 * cv + j) (by omega) (by have := unhide HHD; have := unhide HOW; omega)] at cX
                      have hA : (q : Int) + 2 + 4 * (cv : Int) = ((q + 2 + 4 * cv : Nat) : Int) := by omega
                      have hAX : ((q + 2 + 4 * cv : Nat) : Int) + (j : Int) = ((q + 2 + (4 * cv + j) : Nat) : Int) := by omega
                      generalize q + 2 + (4 * cv + j) = X at *
                      generalize q + 2 + 4 * cv = A at *
                      have hX2 : (X : Int) < (n : Int) := by omega
                      have hA2 : (A : Int) ≤ 1000 := by omega
                      have hX3 : (X : Int) ≤ 1000 := by omega
                      have hjd3 : (j : Int) < 4 * (d : Int) := by omega
                      go_wp2
                      go_roundw
                      case rel => exact ⟨j + 1, by omega, by go_num, by first | rfl | trivial⟩
                      case measure => simp [intOf]; omega
                    · have hjd2 : ¬ (j : Int) < 4 * (d : Int) := by omega
                      go_wp2
                      exact ⟨⟨q + 1, by omega, by go_num, unhide C4⟩, by simp [intOf]; omega⟩
                · have nk3 : ((s.objOf i).kind == 3) = false := by simp [hk3]
                  generalize oWords (s.objOf i) = ow at *
                  generalize (s.objOf i).kind = kd at *
                  generalize (s.objOf i).size = sz at *
                  clear hk3
                  go_wp2_with (go_at_call 45; refine (unhide HCL).mono ?_; rintro e w5 ⟨rfl, hw5⟩; have hw6 := hw5.symm; clear hw5; subst hw6)
                  obtain ⟨w5, hw5⟩ : ∃ x : World, x = wr := ⟨_, rfl⟩
                  subst hw5
                  go_loopw [20] (fun v wr => v = .int .i64 0 ∧ wr = w5) (fun _ _ => 0)
                  case atStart => exact ⟨rfl, rfl⟩
                  case round =>
                    obtain ⟨rfl, hww⟩ := hrel
                    subst hww
                    go_wp2
                    exact ⟨⟨q + 1, by omega, by go_num, unhide C4⟩, by simp [intOf]; omega⟩
        · have hqe : n = q := by omega
          subst hqe
          obtain ⟨w6, hw6⟩ : ∃ x : World, x = wr := ⟨_, rfl⟩
          subst hw6
          have hk6 := (unhide K3).chg hP hc (by simp)
          have hc6 := (unhide C3).trans hc
          have hb6 : Beside w6 g (startsTo s s.row.length (n + 1)) 4 F := ⟨(unhide HB).chg hc (by simp), unhide HGF⟩
          have ha6 := (unhide HALL).chg hc6
          have K6 := hide hk6; have C6 := hide hc6; have B6 := hide hb6; have A6 := hide ha6
          clear hk6 hc6 hb6 ha6 hc K3 C3 R3 HB HALL HK
          go_wp2_with fail
          go_loopw [21, 22, 23] (fun v _ _ wr => ∃ (j : Nat) (F' : List Nat), j ≤ na ∧ v = .int .i64 (j : Int) ∧ KS G J wr bh s F' m ∧ Stp F w6 F' wr) (fun v _ _ _ => na - (intOf v).toNat)
          case atStart => exact ⟨0, F, Nat.zero_le _, rfl, unhide K6, Stp.refl _ _⟩
          case round =>
            obtain ⟨j, F1, hj, rfl, k1, st1⟩ := hrel
            by_cases hjn : j < na
            · have hjn2 : (j : Int) < (na : Int) := by omega
              obtain ⟨b, off, hab, hbl, hcc⟩ := unhide A6 (by omega)
              obtain ⟨x, hx⟩ : ∃ x, all[j]? = some x := ⟨_, List.getElem?_eq_getElem (by omega)⟩
              have cx := hcc j x hx
              rw [← st1.chg.cell (a := ⟨b, off + j, none⟩) hbl (by have := unhide HFA ⟨b, off, none⟩ hab; exact this)] at cx
              subst hab
              have hxi := unhide HV x (List.mem_of_getElem? hx)
              have hpc := k1.place hP (by omega) x hxi (a := (s.placeQ x).1) (er := (s.placeQ x).2) rfl
              have hok := place_ok (unhide HAA) (x := x)
              generalize (s.placeQ x).2 = er at *
              generalize (s.placeQ x).1 = pl at *
              have HPC := hide hpc; have HOK := hide hok; have ST1 := hide st1; have BS := hide ((unhide B6).stp st1)
              clear hpc hok k1 st1 hcc hx hbl
              go_wp2_with fail
              refine (unhide HPC).mono ?_
              rintro e w7 ⟨F7, rfl, k7, st7⟩
              have b7 := (unhide BS).stp st7
              have HK7 := hide k7; have ST7 := hide ((unhide ST1).trans st7)
              clear k7 st7 HPC
              by_cases he : er = 0
              · subst he
                obtain ⟨t, htm, ht⟩ := unhide HOK rfl
                have hbd := place_bd (unhide HAA) htm
                have hwd := (words_bd ((unhide HAA).ok.osh (objOf_mem ((unhide HAA).ok.inv.rows t htm))).kind).1
                rw [unhide HN] at hbd
                obtain ⟨y, hy⟩ : ∃ y : Nat, pl = (y : Int) := ⟨pl.toNat, by omega⟩
                subst hy
                have hyn : y < n + 1 := by omega
                have hyn2 : (y : Int) < (n : Int) := by omega
                have hyn3 : (y : Int) < (n : Int) + 1 := by omega
                have hyn4 : y < n := by omega
                have cy := b7.1.cell_of (startsTo_at (s := s) (t := s.row.length) hyn)
                rw [mem_start htm ht.symm] at cy
                clear hbd hwd htm ht b7
                go_wp2
                go_roundw
                case rel => exact ⟨j + 1, F7, by omega, by go_num, unhide HK7, unhide ST7⟩
                case measure => simp [intOf]; omega
              · have ne : (er == 0) = false := by simp [he]
                clear he b7
                go_wp2
                go_roundw
                case rel => exact ⟨j + 1, F7, by omega, by go_num, unhide HK7, unhide ST7⟩
                case measure => simp [intOf]; omega
            · have hje : na = j := by omega
              subst hje
              have HK1 := hide k1; have ST1 := hide st1; clear k1 st1
              go_wp2
              go_ret
              exact ⟨F1, by simp, unhide HK1, (unhide ST1).pre (unhide C6)⟩
end Go.Proofs.Ytfoncalkgmeklaa

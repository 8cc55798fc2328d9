import Derived.Test.YtfoncalkgmeklaaCKHold
import Derived.Test.YtfoncalkgmeklaaCKWaste
import Derived.Test.YtfoncalkgmeklaaCKKinds
import Derived.Deep.RegionHeld3
import Derived.Test.YtfoncalkgmeklaaM45

/- A table of numbers, held by handle 0, beside what is wasted (plain). -/
namespace Go.Proofs.Ytfoncalkgmeklaa
open Go.RowKit

/-- Keys and values, one behind the other. -/
def ord : List Int → List Int → List (Int × Int)
  | k :: ks, v :: vs => (1, k) :: (1, v) :: ord ks vs
  | _, _ => []
theorem ord_len : ∀ (ks vs : List Int), ks.length = vs.length → (ord ks vs).length = 2 * ks.length
  | [], [], _ => rfl
  | k :: ks, v :: vs, h => by
    have := ord_len ks vs (by simpa using h)
    simp only [ord, List.length_cons, this]
    omega
theorem ord_int : ∀ (ks vs : List Int), ∀ v ∈ ord ks vs, v.1 = 1
  | [], _, v, h => by simp [ord] at h
  | _ :: _, [], v, h => by simp [ord] at h
  | k :: ks, u :: vs, v, h => by
    simp only [ord, List.mem_cons] at h
    rcases h with rfl | rfl | h
    · rfl
    · rfl
    · exact ord_int ks vs v h
theorem ord_pos (k : Int) : ∀ (ks vs : List Int), ks.length = vs.length → keyPos (1, k) (ord ks vs) = 2 * ks.idxOf k
  | [], [], _ => by simp [ord, keyPos]
  | a :: ks, v :: vs, h => by
    have ih := ord_pos k ks vs (by simpa using h)
    simp only [ord, keyPos, List.idxOf_cons, ih]
    by_cases e : a = k
    · subst e; simp
    · have : ((1, a) : Int × Int) ≠ (1, k) := fun h => e (by simpa using h)
      rw [if_neg this]
      have e2 : (a == k) = false := by simp [e]
      rw [e2]
      simp only [cond_false]
      omega
theorem ord_more (k v : Int) : ∀ (ks vs : List Int), ks.length = vs.length → ord (ks ++ [k]) (vs ++ [v]) = ord ks vs ++ [(1, k), (1, v)]
  | [], [], _ => rfl
  | a :: ks, b :: vs, h => by
    have ih := ord_more k v ks vs (by simpa using h)
    simp only [List.cons_append, ord, ih]
theorem ord_set (v : Int) : ∀ (ks vs : List Int) (i : Nat), ks.length = vs.length → (ord ks vs).set (2 * i + 1) (1, v) = ord ks (vs.set i v)
  | [], [], _, _ => by simp [ord]
  | a :: ks, b :: vs, 0, h => by simp [ord]
  | a :: ks, b :: vs, i + 1, h => by
    have ih := ord_set v ks vs i (by simpa using h)
    rw [show 2 * (i + 1) + 1 = (2 * i + 1) + 1 + 1 by omega]
    simp only [ord, List.set_cons_succ, ih]
theorem ord_cut : ∀ (ks vs : List Int) (i : Nat), ks.length = vs.length → (ord ks vs).take (2 * i) ++ (ord ks vs).drop (2 * i + 2) = ord (ks.take i ++ ks.drop (i + 1)) (vs.take i ++ vs.drop (i + 1))
  | [], [], _, _ => by simp [ord]
  | a :: ks, b :: vs, 0, h => by simp [ord]
  | a :: ks, b :: vs, i + 1, h => by
    have ih := ord_cut ks vs i (by simpa using h)
    rw [show 2 * (i + 1) + 2 = (2 * i + 2) + 1 + 1 by omega, show 2 * (i + 1) = 2 * i + 1 + 1 by omega]
    simp only [ord, List.take_succ_cons, List.drop_succ_cons, List.cons_append, ih]
theorem ord_at : ∀ (ks vs : List Int) (i : Nat), ks.length = vs.length → i < ks.length → (ord ks vs).getD (2 * i) (0, 0) = (1, ks.getD i 0) ∧ (ord ks vs).getD (2 * i + 1) (0, 0) = (1, vs.getD i 0)
  | a :: ks, b :: vs, 0, _, _ => by simp [ord, List.getD]
  | a :: ks, b :: vs, i + 1, h, hi => by
    have ih := ord_at ks vs i (by simpa using h) (by simpa using hi)
    rw [show 2 * (i + 1) + 1 = (2 * i + 1) + 1 + 1 by omega, show 2 * (i + 1) = 2 * i + 1 + 1 by omega]
    simpa [ord, List.getD] using ih
/-- The table of these keys and values, held by handle 0, and nothing else that lives. -/
structure OS (room : Int) (ks vs : List Int) (s : R) : Prop where
  hb : HB 1 0 1 s
  len : 0 < s.objs.length
  kind : (s.objOf 0).kind = 3
  size : (s.objOf 0).size = room
  vals : (s.objOf 0).vals = ord ks vs
  eq : ks.length = vs.length
  room0 : 0 ≤ room ∧ room ≤ 8
  nodup : ks.Nodup
section
variable {room : Int} {ks vs : List Int} {s : R}
theorem OS.held (h : OS room ks vs s) : Held 1 [0] 34 s := by
  refine ⟨fun k hk => by simp; omega, fun i hi => by simp at hi; subst hi; exact h.len, fun i hi v hv h2 => ?_, ?_⟩
  · simp at hi
    subst hi
    rw [h.vals] at hv
    have := ord_int ks vs v hv
    omega
  · have e : oWords (s.objs.getD 0 robj0) = 2 + 4 * room := by
      have : s.objs.getD 0 robj0 = s.objOf 0 := rfl
      rw [this]
      unfold oWords
      rw [h.kind, h.size]
      rfl
    simp only [usedOf, e]
    have := h.room0
    omega
theorem OS.of {s' : R} (h : OS room ks vs s) (hb : HB 1 0 1 s') {o : List RObj} (ho : s'.objs = s.objs ++ o) : OS room ks vs s' := by
  have e : s'.objOf 0 = s.objOf 0 := by
    unfold R.objOf
    rw [ho]
    simp only [List.getD]
    rw [List.getElem?_append_left h.len]
  exact ⟨hb, by rw [ho]; have := h.len; simp; omega, by rw [e]; exact h.kind, by rw [e]; exact h.size, by rw [e]; exact h.vals, h.eq, h.room0, h.nodup⟩
theorem OS.inner (s : R) (k : Int) : s.inner (1, k) = (1, k) := by simp [R.inner]
theorem OS.look (h : OS room ks vs s) (k : Int) {v : Int × Int} (hv : v.1 = 0 ∨ v.1 = 1) : s.look 0 (1, k) v true = (0, 0) := by
  have hb : R.badValue (1, k) v true = false := by
    unfold R.badValue
    rcases hv with e | e <;> simp [e]
  have hs : s.stale (1, k) v = false := by
    unfold R.stale
    rcases hv with e | e <;> simp [e]
  exact h.hb.look (x := 0) (by omega) hb hs
theorem OS.table (h : OS room ks vs s) (k : Int) {v : Int × Int} (hv : v.1 = 0 ∨ v.1 = 1) : s.table 0 (1, k) v = (0, 2 * ks.idxOf k, 0) := by
  unfold R.table
  rw [h.look k hv]
  simp only [if_true]
  rw [if_pos h.kind, OS.inner, h.vals, ord_pos k ks vs h.eq]
theorem OS.look1 (h : OS room ks vs s) : s.look1 0 = (0, 0) := h.hb.look (x := 0) (by omega) rfl rfl
theorem OS.lenq (h : OS room ks vs s) : s.lenQ 0 = ((ks.length : Int), 0) := by
  unfold R.lenQ
  rw [h.look1]
  simp only [if_true]
  rw [if_pos h.kind, h.vals, ord_len ks vs h.eq]
  congr 1
  omega
theorem OS.keyq (h : OS room ks vs s) {i : Nat} (hi : i < ks.length) : s.keyQ 0 (i : Int) = ((1, ks.getD i 0), 0, s) := by
  unfold R.keyQ
  rw [h.look1]
  simp only [if_true]
  rw [if_pos h.kind, h.vals, ord_len ks vs h.eq, if_neg (by omega)]
  rw [show (i : Int).toNat = i from rfl, (ord_at ks vs i h.eq hi).1]
  simp [R.outer]
theorem OS.keyn (h : OS room ks vs s) : s.keyQ 0 (ks.length : Int) = ((0, 0), 7, s) := by
  unfold R.keyQ
  rw [h.look1]
  simp only [if_true]
  rw [if_pos h.kind, h.vals, ord_len ks vs h.eq, if_pos (by omega)]
theorem idx_none {k : Int} (hk : k ∉ ks) : ks.idxOf k = ks.length := Nat.le_antisymm List.idxOf_le_length (Nat.not_lt.1 (fun h => hk (List.idxOf_lt_length_iff.1 h)))
theorem idx_at (hn : ks.Nodup) {i : Nat} (hi : i < ks.length) : ks.idxOf (ks.getD i 0) = i := by
  have : ks.getD i 0 = ks[i] := by simp [List.getD, hi]
  rw [this]
  exact hn.idxOf_getElem i hi
theorem OS.findq (h : OS room ks vs s) {i : Nat} (hi : i < ks.length) : s.findQ 0 (1, ks.getD i 0) = ((1, vs.getD i 0), 0, s) := by
  unfold R.findQ
  rw [h.table _ (.inl rfl)]
  simp only [if_true]
  rw [h.vals, ord_len ks vs h.eq, idx_at h.nodup hi, if_neg (by omega), (ord_at ks vs i h.eq hi).2]
  simp [R.outer]
theorem OS.set (h : OS room ks vs s) {ks' vs' : List Int} (hall : RAll (s.setObj 0 { s.objOf 0 with vals := ord ks' vs' })) (he : ks'.length = vs'.length) (hn : ks'.Nodup) : OS room ks' vs' (s.setObj 0 { s.objOf 0 with vals := ord ks' vs' }) := by
  have e : (s.setObj 0 { s.objOf 0 with vals := ord ks' vs' }).objOf 0 = { s.objOf 0 with vals := ord ks' vs' } := by
    have := h.len
    unfold R.setObj R.objOf
    simp [List.getD, this]
  exact ⟨⟨hall, h.hb.dead, h.hb.limit, h.hb.scopes, h.hb.han, h.hb.slot⟩, by unfold R.setObj; simpa using h.len, by rw [e]; exact h.kind, by rw [e]; exact h.size, by rw [e], he, h.room0, hn⟩
theorem OS.putOld (h : OS room ks vs s) {k i : Int} (hk : k ∈ ks) : ∃ s', s.putQ 0 (1, k) (1, i) = (0, s') ∧ OS room ks (vs.set (ks.idxOf k) i) s' := by
  have hlt : ks.idxOf k < ks.length := List.idxOf_lt_length_iff.2 hk
  have hall := h.hb.all.put 0 (1, k) (1, i)
  have e : s.putQ 0 (1, k) (1, i) = (0, s.setObj 0 { s.objOf 0 with vals := ord ks (vs.set (ks.idxOf k) i) }) := by
    unfold R.putQ
    rw [h.table k (.inr rfl)]
    simp only [if_true]
    rw [h.vals, ord_len ks vs h.eq, if_neg (by omega), OS.inner, ord_set i ks vs _ h.eq]
  rw [e] at hall
  exact ⟨_, e, h.set hall (by simp [h.eq]) h.nodup⟩
theorem OS.putFull (h : OS room ks vs s) {k i : Int} (hk : k ∉ ks) (hf : (ks.length : Int) = room) : s.putQ 0 (1, k) (1, i) = (9, s) := by
  have hlt : ks.idxOf k = ks.length := idx_none hk
  unfold R.putQ
  rw [h.table k (.inr rfl)]
  simp only [if_true]
  rw [h.vals, ord_len ks vs h.eq, hlt, if_pos rfl, h.size, if_pos (by omega)]
theorem OS.putNew (h : OS room ks vs s) {k i : Int} (hk : k ∉ ks) (hf : (ks.length : Int) ≠ room) : ∃ s', s.putQ 0 (1, k) (1, i) = (0, s') ∧ OS room (ks ++ [k]) (vs ++ [i]) s' := by
  have hlt : ks.idxOf k = ks.length := idx_none hk
  have hall := h.hb.all.put 0 (1, k) (1, i)
  have e : s.putQ 0 (1, k) (1, i) = (0, s.setObj 0 { s.objOf 0 with vals := ord (ks ++ [k]) (vs ++ [i]) }) := by
    unfold R.putQ
    rw [h.table k (.inr rfl)]
    simp only [if_true]
    rw [h.vals, ord_len ks vs h.eq, hlt, if_pos rfl, h.size, if_neg (by omega), OS.inner, OS.inner, ord_more k i ks vs h.eq]
  rw [e] at hall
  refine ⟨_, e, h.set hall (by simp [h.eq]) ?_⟩
  rw [List.nodup_append]
  exact ⟨h.nodup, by simp, fun a ha b hb => by simp at hb; subst hb; intro e; subst e; exact hk ha⟩
theorem OS.cutNone (h : OS room ks vs s) {k : Int} (hk : k ∉ ks) : s.cutQ 0 (1, k) = (8, s) := by
  have hlt : ks.idxOf k = ks.length := idx_none hk
  unfold R.cutQ
  rw [h.table k (.inl rfl)]
  simp only [if_true]
  rw [h.vals, ord_len ks vs h.eq, hlt, if_pos rfl]
theorem OS.cut (h : OS room ks vs s) {k : Int} (hk : k ∈ ks) : ∃ s', s.cutQ 0 (1, k) = (0, s') ∧ OS room (ks.take (ks.idxOf k) ++ ks.drop (ks.idxOf k + 1)) (vs.take (ks.idxOf k) ++ vs.drop (ks.idxOf k + 1)) s' := by
  have hlt : ks.idxOf k < ks.length := List.idxOf_lt_length_iff.2 hk
  have hall := h.hb.all.cut 0 (1, k)
  have e : s.cutQ 0 (1, k) = (0, s.setObj 0 { s.objOf 0 with vals := ord (ks.take (ks.idxOf k) ++ ks.drop (ks.idxOf k + 1)) (vs.take (ks.idxOf k) ++ vs.drop (ks.idxOf k + 1)) }) := by
    unfold R.cutQ
    rw [h.table k (.inl rfl)]
    simp only [if_true]
    rw [h.vals, ord_len ks vs h.eq, if_neg (by omega), ord_cut ks vs _ h.eq]
  rw [e] at hall
  refine ⟨_, e, h.set hall (by simp [h.eq]) ?_⟩
  rw [← List.eraseIdx_eq_take_drop_succ]
  exact h.nodup.sublist (List.eraseIdx_sublist _ _)
theorem OS.collect (h : OS room ks vs s) : ∃ s', s.collectQ = (0, s') ∧ OS room ks vs s' := by
  obtain ⟨s', e, hb, ho⟩ := h.hb.collect
  exact ⟨s', e, h.of hb (o := []) (by rw [ho]; simp)⟩
theorem OS.waste (h : OS room ks vs s) {n : Int} (h0 : 0 ≤ n ∧ n ≤ 16) : ∃ x s2 s3, s.openQ = (1, 0, { s with scopes := 1 }) ∧ ({ s with scopes := 1 } : R).arrayQ n = (x, 0, s2) ∧ s2.closeQ 1 = (0, s3) ∧ OS room ks vs s3 := by
  obtain ⟨x, s2, s3, e1, e2, e3, hb, ho, _⟩ := h.hb.waste (by omega) h.held h0 (by omega)
  exact ⟨x, s2, s3, e1, e2, e3, h.of hb ho⟩
end
theorem OS.start {room : Int} (hr : 0 ≤ room ∧ room ≤ 8) (fs : List Bool) (hf : fs.length ≤ 64) : ∃ s', (R.init 512 fs).tableQ room = (0, 0, s') ∧ OS room [] [] s' := by
  have p0 : PH 512 [] (R.init 512 fs) := ⟨all_init (by omega) (by omega) hf, rfl, rfl, rfl, rfl, rfl⟩
  have e : (R.init 512 fs).tableQ room = (R.init 512 fs).make (mkTable room) := by
    unfold R.tableQ
    rw [if_neg (by simp [R.init]), if_neg (by omega)]
  have ow : oWords (mkTable room) = 2 + 4 * room := rfl
  obtain ⟨q1, q2, q3⟩ := p0.make (o := mkTable room) (by simp) (osh_table (by omega)) (fun v hv => by simp [mkTable] at hv) (by rw [ow]; simp; omega)
  have hh : ((R.init 512 fs).make (mkTable room)).2.2.handles = [⟨0, 0, 0, true⟩] := by have := q3.handles; simpa using this
  have ho : ((R.init 512 fs).make (mkTable room)).2.2.objs = [mkTable room] := q3.objs
  have hb : ((R.init 512 fs).make (mkTable room)).2.2.objOf 0 = mkTable room := by unfold R.objOf; rw [ho]; rfl
  refine ⟨((R.init 512 fs).make (mkTable room)).2.2, ?_, ⟨⟨q3.all, q3.dead, q3.limit, q3.scopes, ⟨[], by rw [hh]; rfl, by simp⟩, ?_⟩, by rw [ho]; simp, by rw [hb]; rfl, by rw [hb]; rfl, by rw [hb]; rfl, rfl, hr, by simp⟩⟩
  · rw [e]
    exact Prod.ext q1 (Prod.ext q2 rfl)
  · intro g hg _
    rw [hh] at hg
    simp at hg
    subst hg
    simp
end Go.Proofs.Ytfoncalkgmeklaa

/- gripkeep.ordered, of a table that OS describes. -/
namespace Go.Proofs.Ytfoncalkgmeklaa
open Go.RowKit

theorem Lst.cellAt2 {w0 w : World} {a : Option Addr} {n c : Nat} {l : List Int} {F : List Nat} (h : Lst w0 w a n c l F) {i : Nat} (hi : i < n) : ∃ g, a = some ⟨g, 0, none⟩ ∧ w.cell? ⟨g, i, none⟩ = some (.int .i64 (l.getD i 0)) := by
  have hl := h.len
  obtain ⟨g, e, _, hc⟩ := owns_at h.own (by omega)
  exact ⟨g, e, hc i _ (ints_at (by omega))⟩
set_option maxRecDepth 100000 in
set_option maxHeartbeats 8000000 in
theorem ordered_any {G : World → Nat → R → List Nat → Prop} {J : R → Prop} (hP : KP G J) {w0 w : World} {bh m : Nat} {s : R} {F : List Nat} {room : Int} {ks vs : List Int} {ka va : Option Addr} {n kc vc : Nat} (hk : KS G J w bh s F m) (hm : m ≤ 16000000) (hn : n ≤ 16) (hnw : Newer w0 w F) (hos : OS room ks vs s) (hkl : Lst w0 w ka n kc ks F) (hvl : Lst w0 w va n vc vs F) (hki : ∀ k ∈ ks, I64 k) :
    Calls Try.prog 30 #[.pointer (some ⟨bh, 0, none⟩), .int .i64 0, .slice ka n kc, .slice va n vc] w fun e w' => e = .returned (.bool true) ∧ Chg [] w0 w' := by
  have hlen : ks.length = n := hkl.len
  have hlq := hos.lenq
  rw [hlen] at hlq
  have hkn := hos.keyn
  rw [hlen] at hkn
  have hne : ((n : Int) != (n : Int)) = false := by simp
  have HK := hide hk; have HNW := hide hnw; have HOS := hide hos; have HKL := hide hkl; have HVL := hide hvl; have HKI := hide hki; have HLQ := hide hlq; have HKN := hide hkn; clear hk hnw hos hkl hvl hki hlq hkn
  go_enter Try.func30, Try.ntmps30
  go_wp2_with fail
  refine ((unhide HK).len hP (by omega) 0 ⟨by omega, by omega⟩ (unhide HLQ)).mono ?_
  rintro e w1 ⟨F1, rfl, k1, st1⟩
  have n1 := (unhide HNW).stp st1
  have kl1 := (unhide HKL).stp st1
  have vl1 := (unhide HVL).stp st1
  have K1 := hide k1; have N1 := hide n1; have KL1 := hide kl1; have VL1 := hide vl1; clear k1 n1 kl1 vl1 st1 HK HNW HKL HVL HLQ
  go_wp2_with fail
  go_loopw [11, 12, 13, 14, 15] (fun i _ _ _ _ wr => ∃ (i' : Nat) (F' : List Nat), i' ≤ n ∧ i = .int .i64 i' ∧ KS G J wr bh s F' (m + 2 * i') ∧ Newer w0 wr F' ∧ Lst w0 wr ka n kc ks F' ∧ Lst w0 wr va n vc vs F') (fun i _ _ _ _ _ => n - (intOf i).toNat)
  case atStart => exact ⟨0, F1, Nat.zero_le _, rfl, unhide K1, unhide N1, unhide KL1, unhide VL1⟩
  case round =>
    obtain ⟨i, F2, hi, rfl, k2, n2, kl2, vl2⟩ := hrel
    clear K1 N1 KL1 VL1
    by_cases hlt : i < n
    · have hkq := (unhide HOS).keyq (i := i) (by omega)
      have hfq := (unhide HOS).findq (i := i) (by omega)
      have hik : I64 (ks.getD i 0) := unhide HKI _ (by simp [List.getD, hlen, hlt])
      generalize hkk : ks.getD i 0 = kk at *
      generalize hvv : vs.getD i 0 = vv at *
      have hcells : ∀ (w' : World) (F' : List Nat), Lst w0 w' ka n kc ks F' → Lst w0 w' va n vc vs F' → ∃ gk gv, ka = some ⟨gk, 0, none⟩ ∧ va = some ⟨gv, 0, none⟩ ∧ w'.cell? ⟨gk, i, none⟩ = some (.int .i64 kk) ∧ w'.cell? ⟨gv, i, none⟩ = some (.int .i64 vv) := fun w' F' h1 h2 => by
        obtain ⟨gk, e1, q1⟩ := h1.cellAt2 hlt
        obtain ⟨gv, e2, q2⟩ := h2.cellAt2 hlt
        exact ⟨gk, gv, e1, e2, by rw [q1, hkk], by rw [q2, hvv]⟩
      have hcall := k2.key hP (by omega) 0 (i : Int) ⟨by omega, by omega⟩ ⟨by omega, by omega⟩ hkq
      have zi : (i : Int) < (n : Int) := by omega
      have HCALL := hide hcall; have N2 := hide n2; have KL2 := hide kl2; have VL2 := hide vl2; have HFQ := hide hfq; have HIK := hide hik; have HCE := hide hcells; clear hcall n2 kl2 vl2 k2 hkq hfq hik hcells hkk hvv
      go_wp2_with fail
      refine (unhide HCALL).mono ?_
      rintro e w3 ⟨F3, rfl, k3, st3⟩
      have kb3 : Chg [] w3 (w3.alloc (.cells #[.int .i64 1, .int .i64 kk] 30)) := (Chg.refl [] w3).alloc _
      have n3 := ((unhide N2).stp st3).chg kb3
      have kl3 := ((unhide KL2).stp st3).chg kb3 (by simp)
      have vl3 := ((unhide VL2).stp st3).chg kb3 (by simp)
      have k3' := k3.chg hP kb3 (by simp)
      have b3 : Beside (w3.alloc (.cells #[.int .i64 1, .int .i64 kk] 30)) w3.heap.size [.int .i64 1, .int .i64 kk] 30 F3 := ⟨Blk.new w3 _ _, fun hm => by have := k3.lt _ hm; omega⟩
      obtain ⟨gk, gv, ek, ev, q1, _⟩ := unhide HCE _ _ kl3 vl3
      subst ek ev
      have K3 := hide k3'; have N3 := hide n3; have KL3 := hide kl3; have VL3 := hide vl3; have B3 := hide b3; clear k3 k3' n3 kl3 vl3 b3 kb3 st3 HCALL N2 KL2 VL2
      go_wp2_with fail
      refine (number_any kk _).mono ?_
      rintro e w4 ⟨rfl, hc4⟩
      have k4 := (unhide K3).chg hP hc4 (by simp)
      have n4 := (unhide N3).chg hc4
      have kl4 := (unhide KL3).chg hc4 (by simp)
      have vl4 := (unhide VL3).chg hc4 (by simp)
      have b4 := (unhide B3).chg hc4
      have hcall4 := k4.find hP (by omega) 0 (1, kk) ⟨by omega, by omega⟩ ⟨⟨by simp, by simp⟩, unhide HIK⟩ (unhide HFQ)
      have HC4 := hide hcall4; have N4 := hide n4; have KL4 := hide kl4; have VL4 := hide vl4; have B4 := hide b4; clear k4 n4 kl4 vl4 b4 hcall4 hc4 q1 K3 N3 KL3 VL3 B3
      go_wp2_with fail
      refine (unhide HC4).mono ?_
      rintro e w5 ⟨F5, rfl, k5, st5⟩
      have kb5 : Chg [] w5 (w5.alloc (.cells #[.int .i64 1, .int .i64 vv] 30)) := (Chg.refl [] w5).alloc _
      have n5 := ((unhide N4).stp st5).chg kb5
      have kl5 := ((unhide KL4).stp st5).chg kb5 (by simp)
      have vl5 := ((unhide VL4).stp st5).chg kb5 (by simp)
      have bk5 := ((unhide B4).stp st5).chg kb5
      have bv5 : Blk (w5.alloc (.cells #[.int .i64 1, .int .i64 vv] 30)) w5.heap.size [.int .i64 1, .int .i64 vv] 30 := Blk.new w5 _ _
      have k5' := k5.chg hP kb5 (by simp)
      generalize w3.heap.size = gc at *
      have hS : Hid (∀ w', Chg [] (w5.alloc (.cells #[.int .i64 1, .int .i64 vv] 30)) w' → (w'.cell? ⟨gc, 0, none⟩ = some (.int .i64 1) ∧ w'.cell? ⟨gc, 1, none⟩ = some (.int .i64 kk) ∧ w'.cell? ⟨w5.heap.size, 0, none⟩ = some (.int .i64 1) ∧ w'.cell? ⟨w5.heap.size, 1, none⟩ = some (.int .i64 vv) ∧ w'.cell? ⟨gk, i, none⟩ = some (.int .i64 kk) ∧ w'.cell? ⟨gv, i, none⟩ = some (.int .i64 vv))) := fun w' kw => by
        have c1 := bk5.1.chg kw (by simp)
        have c2 := bv5.chg kw (by simp)
        obtain ⟨gk', gv', ek, ev, q1, q2⟩ := unhide HCE _ _ (kl5.chg kw (by simp)) (vl5.chg kw (by simp))
        simp only [Option.some.injEq, Addr.mk.injEq, and_true] at ek ev
        subst ek ev
        exact ⟨c1.cell_of rfl, c1.cell_of rfl, c2.cell_of rfl, c2.cell_of rfl, q1, q2⟩
      have K5 := hide k5'; have N5 := hide n5; have KL5 := hide kl5; have VL5 := hide vl5; clear k5 k5' n5 kl5 vl5 bk5 bv5 kb5 st5 HC4 N4 KL4 VL4 B4
      obtain ⟨c1, c2, c3, c4, c5, c6⟩ := unhide hS _ (Chg.refl _ _)
      have hkk : (kk != kk) = false := by simp
      have hvv : (vv != vv) = false := by simp
      go_upto_region 9 with fail
      go_region_held3 (fun w' => (w'.cell? ⟨gc, 0, none⟩ = some (.int .i64 1) ∧ w'.cell? ⟨gc, 1, none⟩ = some (.int .i64 kk) ∧ w'.cell? ⟨w5.heap.size, 0, none⟩ = some (.int .i64 1) ∧ w'.cell? ⟨w5.heap.size, 1, none⟩ = some (.int .i64 vv) ∧ w'.cell? ⟨gk, i, none⟩ = some (.int .i64 kk) ∧ w'.cell? ⟨gv, i, none⟩ = some (.int .i64 vv))) (first | go_keep | assumption) ((first
        | (go_at_call 26; refine (number_any kk _).mono ?_; rintro e w6 ⟨rfl, hc6⟩; have KC6 := hide (((Chg.refl [] _).drew).trans hc6); have hk6 := unhide hS w6 (unhide KC6); clear hc6)
        | (go_at_call 26; refine (number_any vv _).mono ?_; rintro e w7 ⟨rfl, hc7⟩; have KC7 := hide ((unhide KC6).trans hc7); have hk7 := unhide hS w7 (unhide KC7); clear hc7)))
      have k7 := (unhide K5).chg hP (unhide KC7) (by simp)
      have n7 := (unhide N5).chg (unhide KC7)
      have kl7 := (unhide KL5).chg (unhide KC7) (by simp)
      have vl7 := (unhide VL5).chg (unhide KC7) (by simp)
      have K7 := hide k7; have N7 := hide n7; have KL7 := hide kl7; have VL7 := hide vl7; clear k7 n7 kl7 vl7 hk6 hk7
      go_wp2
      go_roundw
      case rel => exact ⟨i + 1, F5, by omega, by go_num, unhide K7, unhide N7, unhide KL7, unhide VL7⟩
      case measure => simp [intOf]; omega
    · have hie : i = n := by omega
      subst hie
      have hcall := k2.key hP (by omega) 0 (i : Int) ⟨by omega, by omega⟩ ⟨by omega, by omega⟩ (unhide HKN)
      have HCALL := hide hcall; have N2 := hide n2; clear hcall n2 k2 kl2 vl2
      go_wp2_with fail
      refine (unhide HCALL).mono ?_
      rintro e w3 ⟨F3, rfl, k3, st3⟩
      have n3 := (unhide N2).stp st3
      have kb3 : Chg [] w3 (w3.alloc (.cells #[.int .i64 0, .int .i64 0] 30)) := (Chg.refl [] w3).alloc _
      have n3' := n3.chg kb3
      have N3 := hide n3'; clear n3 n3' kb3 k3 st3
      go_wp2
      go_ret
      exact ⟨rfl, (unhide N3).1⟩
end Go.Proofs.Ytfoncalkgmeklaa

/- A list from which one is cut in place. -/
namespace Go.Proofs.Ytfoncalkgmeklaa
open Go.RowKit

def setL (c : List Value) : Nat → List Value → List Value
  | _, [] => c
  | o, v :: r => setL (c.set o v) (o + 1) r
theorem blk_setCells {b : Nat} {T : TypeId} : ∀ (vs : List Value) {w : World} {c : List Value} (o : Nat), Blk w b c T → Blk (w.setCells b o vs) b (setL c o vs) T
  | [], _, _, _, h => h
  | v :: r, _, _, o, h => blk_setCells r (o + 1) (h.setCell o v)
theorem chg_setCells {b : Nat} : ∀ (vs : List Value) {w0 w : World} (o : Nat), Chg [b] w0 w → Chg [b] w0 (w.setCells b o vs)
  | [], _, _, _, h => h
  | v :: r, _, _, o, h => chg_setCells r (o + 1) (h.setCell (.inl (by simp)) v)
theorem setL_eq : ∀ (vs c : List Value) (o : Nat), o + vs.length ≤ c.length → setL c o vs = c.take o ++ (vs ++ c.drop (o + vs.length))
  | [], c, o, _ => by simp [setL]
  | v :: r, c, o, h => by
    simp only [List.length_cons] at h
    have ho : o < c.length := by omega
    have ih := setL_eq r (c.set o v) (o + 1) (by simp; omega)
    show setL (c.set o v) (o + 1) r = _
    rw [ih]
    have e1 : (c.set o v).take (o + 1) = c.take o ++ [v] := by
      rw [List.take_succ_eq_append_getElem (by simpa using ho), List.take_set_of_le (Nat.le_refl _)]
      simp
    have e2 : (c.set o v).drop (o + 1 + r.length) = c.drop (o + (v :: r).length) := by
      rw [List.drop_set_of_lt (by omega)]
      simp only [List.length_cons]
      congr 1
      omega
    rw [e1, e2]
    simp
theorem Lst.del {w0 w : World} {g n c : Nat} {l : List Int} {F : List Nat} (h : Lst w0 w (some ⟨g, 0, none⟩) n c l F) {i : Nat} (hi : i < n) : Lst w0 (w.setCells g i (ints (l.drop (i + 1)))) (some ⟨g, 0, none⟩) (i + (n - (i + 1))) c (l.take i ++ l.drop (i + 1)) F ∧ Chg [g] w (w.setCells g i (ints (l.drop (i + 1)))) := by
  have hl := h.len
  obtain ⟨rest, hb, h1, h2, h3, _⟩ := owns_blk h.own
  have hlen : (ints (l.drop (i + 1))).length = n - (i + 1) := by simp [ints, hl]
  have hil : (ints l).length = n := by simp [ints, hl]
  have hb' := blk_setCells (ints (l.drop (i + 1))) i hb
  rw [setL_eq _ _ _ (by rw [hlen, List.length_append, hil]; omega), hlen] at hb'
  have et : (ints l ++ rest).take i = ints (l.take i) := by
    rw [List.take_append_of_le_length (by omega)]
    simp [ints, List.map_take]
  rw [et] at hb'
  have hown := hb'.owns (size := 1) (base := 0) (n := i + (n - (i + 1))) (cap := c) (Nat.zero_le _) (by omega) h2 (by
    have e3 : (ints (l.take i)).length = i := by simp [ints, hl]; omega
    simp only [List.length_append, List.length_drop, hlen, e3, hil] at h3 ⊢
    omega)
  have e4 : (ints (l.take i) ++ (ints (l.drop (i + 1)) ++ (ints l ++ rest).drop (i + (n - (i + 1))))).take ((i + (n - (i + 1))) * 1) = ints (l.take i ++ l.drop (i + 1)) := by
    have e3 : (ints (l.take i)).length = i := by simp [ints, hl]; omega
    rw [← List.append_assoc, List.take_append_of_le_length (by rw [List.length_append, e3, hlen]; omega), List.take_of_length_le (by rw [List.length_append, e3, hlen]; omega), ints_append]
  rw [e4] at hown
  exact ⟨⟨hown, by simp [hl]; omega, h.out⟩, chg_setCells _ _ (Chg.refl _ w)⟩
theorem Lst.caps {w0 w : World} {g n c : Nat} {l : List Int} {F : List Nat} (h : Lst w0 w (some ⟨g, 0, none⟩) n c l F) : n ≤ c ∧ c ≤ maxLen := by
  obtain ⟨rest, hb, h1, h2, h3, _⟩ := owns_blk h.own
  exact ⟨h1, h2⟩
theorem Lst.spot {w0 w : World} {g n c : Nat} {l : List Int} {F : List Nat} (h : Lst w0 w (some ⟨g, 0, none⟩) n c l F) {j : Nat} {u : Value} (hj : (ints l)[j]? = some u) : w.cell? ⟨g, j, none⟩ = some u := by
  have hl := h.len
  have hlt := (List.getElem?_eq_some_iff.1 hj).1
  simp only [ints, List.length_map] at hlt
  obtain ⟨g', e, _, hc⟩ := owns_at h.own (by omega)
  simp only [Option.some.injEq, Addr.mk.injEq, and_true] at e
  subst e
  exact hc j u hj
theorem Lst.news {w0 w : World} {g n c : Nat} {l : List Int} {F : List Nat} (h : Lst w0 w (some ⟨g, 0, none⟩) n c l F) {i : Nat} (hi : i < n) : ∃ A : Addr, (if c = i + 1 then some (⟨g, 0, none⟩ : Addr) else some ⟨g, i + 1, none⟩) = some A ∧ ∀ j u, (ints (l.drop (i + 1)))[j]? = some u → w.cell? (A.add j) = some u := by
  have hl := h.len
  have hcap := h.caps
  by_cases hc : c = i + 1
  · refine ⟨⟨g, 0, none⟩, by simp [hc], fun j u hu => ?_⟩
    have : l.drop (i + 1) = [] := List.drop_eq_nil_of_le (by omega)
    rw [this] at hu
    simp [ints] at hu
  · refine ⟨⟨g, i + 1, none⟩, by simp [hc], fun j u hu => ?_⟩
    rw [addr_add]
    refine h.spot ?_
    rw [ints, List.map_drop, List.getElem?_drop] at hu
    exact hu
theorem Lst.spare {w0 w : World} {g n c : Nat} {l : List Int} {F : List Nat} (h : Lst w0 w (some ⟨g, 0, none⟩) n c l F) {i : Nat} (hi : i < n) : ∀ j, j < (ints (l.drop (i + 1))).length → (w.cell? ⟨g, 0 + i * 1 + j, none⟩).isSome = true ∧ w.frozen? ⟨g, 0 + i * 1 + j, none⟩ = false := fun j hj => by
  have hl := h.len
  simp only [ints, List.length_map, List.length_drop] at hj
  rw [Nat.zero_add, Nat.mul_one]
  have hx : (ints l)[i + j]? = some (.int .i64 (l.getD (i + j) 0)) := ints_at (by omega)
  refine ⟨by rw [h.spot hx]; rfl, ?_⟩
  obtain ⟨rest, hb, _⟩ := owns_blk h.own
  exact hb.frozen _
end Go.Proofs.Ytfoncalkgmeklaa

import Derived.Test.YtfoncalkgmeklaaGreatYwM21

/- memory of the program: values. -/
namespace Go.Proofs.YtfoncalkgmeklaaGreat
open Go.RowKit

theorem MemAt.chg {w w' : World} {b off : Nat} {ws : List Int} (h : MemAt w b off ws) (k : Chg [] w w') : MemAt w' b off ws := by
  obtain ⟨a, c, h1, h2⟩ := h
  exact ⟨a, c, cell_chg0 k h1, owns_chg h2 k (by simp)⟩

set_option maxHeartbeats 1000000 in
theorem memElement_any {w : World} {b off : Nat} {ws : List Int} (p : Nat) (i : Int) {sz : Int} (hm : MemAt w b off ws) (hl : ws.length ≤ 1000) (hp : p ≤ 1000) {x : Int} (hx : wordAt ws (p : Int) = x) (h0 : 0 ≤ x) (hs : x % 65536 = sz) (hsz : sz ≤ 64) :
    Calls Tryz.prog 124 #[.pointer (some ⟨b, off, none⟩), .int .i64 (p : Int), .int .i64 i] w fun e w' => e = .returned (.tuple #[.int .i64 (if 0 ≤ i ∧ i < sz then (p : Int) + 1 + 2 * i else 0), .bool (decide (0 ≤ i ∧ i < sz))]) ∧ w' = w := by
  have hc := memSize_any (p : Int) hm (by omega) hx h0
  rw [hs] at hc
  have HC := hide hc; clear hc hm hx hs
  by_cases h1 : i < 0
  · rw [if_neg (by omega), show decide (0 ≤ i ∧ i < sz) = false from by simp; omega]
    clear h0
    go_enter Tryz.func124, Tryz.ntmps124
    go_wp2
    all_goals go_ret2
    all_goals exact ⟨rfl, rfl⟩
  · have h1' : ¬ i < 0 := h1
    by_cases h2 : i < sz
    · rw [if_pos ⟨by omega, h2⟩, show decide (0 ≤ i ∧ i < sz) = true from by simp; omega]
      have h3 : ¬ i ≥ sz := by omega
      clear h0
      have h4 : 0 ≤ i := by omega
      have h5 : i ≤ 64 := by omega
      clear h1
      go_enter Tryz.func124, Tryz.ntmps124
      go_wp2_with fail
      refine (unhide HC).mono ?_
      rintro e w1 ⟨rfl, rfl⟩
      go_wp2
      all_goals go_ret2
      all_goals exact ⟨rfl, rfl⟩
    · rw [if_neg (by omega), show decide (0 ≤ i ∧ i < sz) = false from by simp; omega]
      have h3 : i ≥ sz := by omega
      clear h0 h2
      go_enter Tryz.func124, Tryz.ntmps124
      go_wp2_with fail
      refine (unhide HC).mono ?_
      rintro e w1 ⟨rfl, rfl⟩
      go_wp2
      all_goals go_ret2
      all_goals exact ⟨rfl, rfl⟩
set_option maxHeartbeats 1000000 in
theorem memValue_any {w : World} {b off : Nat} {ws : List Int} (p : Int) {x y : Int} (hm : MemAt w b off ws) (hl : ws.length ≤ 1000) (hp : -1000000 ≤ p ∧ p ≤ 1000000) (hx : wordAt ws p = x) (hy : wordAt ws (p + 1) = y) :
    Calls Tryz.prog 125 #[.pointer (some ⟨b, off, none⟩), .int .i64 p] w fun e w' => e = .returned (.agg #[.int .i64 x, .int .i64 y]) ∧ Chg [] w w' := by
  obtain ⟨hp0, hp1⟩ := hp
  have hm' : MemAt (w.alloc (.cells #[.int .i64 0, .int .i64 0] 121)) b off ws := hm.chg ((Chg.refl [] w).alloc _)
  have h1 := memWord_any p hm' (by omega)
  have h2 := memWord_any (p + 1) hm' (by omega)
  rw [hx] at h1
  rw [hy] at h2
  have H1 := hide h1; have H2 := hide h2; clear h1 h2 hm hm' hx hy
  have hpw : IntKind.i64.wrap (p + 1) = p + 1 := by rw [IntKind.wrap_i64]; omega
  go_enter Tryz.func125, Tryz.ntmps125
  go_wp2_with fail
  refine (unhide H1).mono ?_
  rintro e w1 ⟨rfl, rfl⟩
  go_wp2_with fail
  refine (unhide H2).mono ?_
  rintro e w2 ⟨rfl, rfl⟩
  go_wp2
  exact bodyPost_ret (v := .agg #[.int .i64 x, .int .i64 y]) (by simp [results, Tryz.results125, go_sem]) rfl ⟨rfl, (Chg.refl [] w).alloc _⟩
set_option maxHeartbeats 1000000 in
theorem memGet_any {w : World} {b off : Nat} {ws : List Int} (p : Nat) (i : Int) {sz : Int} (hm : MemAt w b off ws) (hl : ws.length ≤ 1000) (hp : p ≤ 1000) {x u v : Int} (hx : wordAt ws (p : Int) = x) (h0 : 0 ≤ x) (hs : x % 65536 = sz) (hsz : sz ≤ 64)
    (hu : 0 ≤ i ∧ i < sz → wordAt ws ((p : Int) + 1 + 2 * i) = u ∧ wordAt ws ((p : Int) + 1 + 2 * i + 1) = v) :
    Calls Tryz.prog 89 #[.pointer (some ⟨b, off, none⟩), .int .i64 (p : Int), .int .i64 i] w fun e w' => e = .returned (.tuple #[if 0 ≤ i ∧ i < sz then .agg #[.int .i64 u, .int .i64 v] else .agg #[.int .i64 0, .int .i64 0], .bool (decide (0 ≤ i ∧ i < sz))]) ∧ Chg [] w w' := by
  have hc0 : Chg [] w (w.alloc (.cells #[.int .i64 0, .int .i64 0] 121)) := (Chg.refl [] w).alloc _
  have h1 := memElement_any p i (hm.chg hc0) hl hp hx h0 hs hsz
  by_cases h2 : 0 ≤ i ∧ i < sz
  · rw [if_pos h2, show decide (0 ≤ i ∧ i < sz) = true from by simp; omega] at h1 ⊢
    obtain ⟨e1, e2⟩ := hu h2
    have h3 := memValue_any ((p : Int) + 1 + 2 * i) (hm.chg hc0) hl (by omega) e1 e2
    generalize (p : Int) + 1 + 2 * i = at' at *
    have H1 := hide h1; have H3 := hide h3; have HB := hide (Blk.new w [.int .i64 0, .int .i64 0] 121); have HC0 := hide hc0; clear h1 h3 hm hx hu e1 e2 h2 hc0
    go_enter Tryz.func89, Tryz.ntmps89
    go_wp2_with fail
    refine (unhide H1).mono ?_
    rintro e w1 ⟨rfl, rfl⟩
    go_wp2_with fail
    refine (unhide H3).mono ?_
    rintro e w2 ⟨rfl, hc⟩
    have hb2 := (unhide HB).chg hc (by simp)
    have q0 := hb2.cell_of (i := 0) rfl
    have q1 := hb2.cell_of (i := 1) rfl
    have f0 := hb2.frozen 0
    have f1 := hb2.frozen 1
    have hb3 := ((hb2.setCell 0 (.int .i64 u)).setCell 1 (.int .i64 v))
    have r0 := hb3.cell_of (i := 0) (v := .int .i64 u) rfl
    have r1 := hb3.cell_of (i := 1) (v := .int .i64 v) rfl
    have hch := Chg.trans_new (S' := [w.heap.size]) ((unhide HC0).trans hc) (((Chg.refl _ w2).setCell (p := ⟨w.heap.size, 0, none⟩) (.inl (by simp)) (.int .i64 u)).setCell (p := ⟨w.heap.size, 1, none⟩) (.inl (by simp)) (.int .i64 v)) (fun x hx => by simp at hx; right; omega)
    have R0 := hide r0; have R1 := hide r1; have HCH := hide hch; clear hb2 hb3 r0 r1 hch hc
    go_wp2
    have r0 := unhide R0
    have r1 := unhide R1
    exact bodyPost_ret (v := .tuple #[.agg #[.int .i64 u, .int .i64 v], .bool true]) (by simp [results, Tryz.results89, go_sem, r0, r1]) rfl ⟨rfl, unhide HCH⟩
  · rw [if_neg h2, show decide (0 ≤ i ∧ i < sz) = false from by simp; omega] at h1 ⊢
    have H1 := hide h1; clear h1 hm hx hu h2
    go_enter Tryz.func89, Tryz.ntmps89
    go_wp2_with fail
    refine (unhide H1).mono ?_
    rintro e w1 ⟨rfl, rfl⟩
    go_wp2
    exact bodyPost_ret (v := .tuple #[.agg #[.int .i64 0, .int .i64 0], .bool false]) (by simp [results, Tryz.results89, go_sem]) rfl ⟨rfl, hc0⟩
set_option maxHeartbeats 1000000 in
theorem memSetWord_any {w : World} {b : Nat} {pre : List Value} {lim : Int} {ws : List Int} {post : List Value} {T : TypeId} {a : Option Addr} {c : Nat} (i : Nat) (n : Int) (h : MB w b pre lim ws post T a c) (hi : i < ws.length) :
    Calls Tryz.prog 123 #[.pointer (some ⟨b, pre.length, none⟩), .int .i64 (i : Int), .int .i64 n] w fun e w' => e = .returned (.tuple #[]) ∧ MB w' b pre lim (ws.set i n) post T a c ∧ Chg (ab a) w w' := by
  obtain ⟨g, rfl, cg, fg⟩ := h.at hi
  obtain ⟨_, c1, _⟩ := h.cells
  have hs := h.set hi n
  have HS := hide hs; clear hs h
  generalize ws.getD i 0 = x at *
  have zi : (i : Int) < (ws.length : Int) := by omega
  generalize ws.length = m at *
  go_enter Tryz.func123, Tryz.ntmps123
  go_wp2
  all_goals go_end0
  all_goals exact ⟨rfl, (unhide HS).1, (unhide HS).2⟩
/-- Two words more that turn. -/
def set2 (ws : List Int) (i : Nat) (v : Int × Int) : List Int := (ws.set i v.1).set (i + 1) v.2
theorem set2_len (ws : List Int) (i : Nat) (v : Int × Int) : (set2 ws i v).length = ws.length := by simp [set2]
set_option maxHeartbeats 1000000 in
theorem memSetValue_any {w : World} {b : Nat} {pre : List Value} {lim : Int} {ws : List Int} {post : List Value} {T : TypeId} {a : Option Addr} {c : Nat} (i : Nat) (v : Int × Int) (h : MB w b pre lim ws post T a c) (hi : i + 1 < ws.length) (hl : ws.length ≤ 1000) :
    Calls Tryz.prog 128 #[.pointer (some ⟨b, pre.length, none⟩), .int .i64 (i : Int), .agg #[.int .i64 v.1, .int .i64 v.2]] w fun e w' => e = .returned (.tuple #[]) ∧ MB w' b pre lim (set2 ws i v) post T a c ∧ Chg (ab a) w w' := by
  have hc0 : Chg [] w (w.alloc (.cells #[.int .i64 v.1, .int .i64 v.2] 121)) := (Chg.refl [] w).alloc _
  have h0 : MB (w.alloc (.cells #[.int .i64 v.1, .int .i64 v.2] 121)) b pre lim ws post T a c := h.chg hc0 (by simp) (by simp)
  have hb : Blk (w.alloc (.cells #[.int .i64 v.1, .int .i64 v.2] 121)) w.heap.size [.int .i64 v.1, .int .i64 v.2] 121 := Blk.new w [.int .i64 v.1, .int .i64 v.2] _
  have h1 := memSetWord_any i v.1 h0 (by omega)
  have hlt : ∀ x ∈ ab a, x < w.heap.size := own_lt h.own
  have zi : (i : Int) + 1 ≤ 1000 := by omega
  have H1 := hide h1; have HB := hide hb; have HC0 := hide hc0; have HLT := hide hlt; clear h1 hb h0 h hc0 hlt
  go_enter Tryz.func128, Tryz.ntmps128
  go_wp2_with fail
  refine (unhide H1).mono ?_
  rintro e w1 ⟨rfl, h2, k2⟩
  have c1 := ((unhide HB).chg k2 (fun hm => by have := unhide HLT _ hm; omega)).cell_of (i := 1) rfl
  have h3 := memSetWord_any (i + 1) v.2 h2 (by simpa using hi)
  have H3 := hide h3; have K2 := hide k2; clear h3 h2 k2
  go_wp2_with fail
  refine (unhide H3).mono ?_
  rintro e w3 ⟨rfl, h4, k4⟩
  have H4 := hide h4; have K4 := hide k4; clear h4 k4
  go_wp2
  go_end0
  exact ⟨rfl, unhide H4, ((unhide HC0).mono (by simp)).trans ((unhide K2).trans (unhide K4))⟩
set_option maxHeartbeats 1000000 in
theorem memSet_any {w : World} {b : Nat} {pre : List Value} {lim : Int} {ws : List Int} {post : List Value} {T : TypeId} {a : Option Addr} {c : Nat} (p : Nat) (i : Int) (v : Int × Int) {sz : Int} (h : MB w b pre lim ws post T a c) (hl : ws.length ≤ 1000) (hp : p ≤ 1000) {x : Int} (hx : wordAt ws (p : Int) = x) (h0 : 0 ≤ x) (hs : x % 65536 = sz) (hsz : sz ≤ 64) (hin : 0 ≤ i ∧ i < sz → p + 1 + 2 * i.toNat + 1 < ws.length) :
    Calls Tryz.prog 99 #[.pointer (some ⟨b, pre.length, none⟩), .int .i64 (p : Int), .int .i64 i, .agg #[.int .i64 v.1, .int .i64 v.2]] w fun e w' => e = .returned (.bool (decide (0 ≤ i ∧ i < sz))) ∧ MB w' b pre lim (if 0 ≤ i ∧ i < sz then set2 ws (p + 1 + 2 * i.toNat) v else ws) post T a c ∧ Chg (ab a) w w' := by
  have hc0 : Chg [] w (w.alloc (.cells #[.int .i64 v.1, .int .i64 v.2] 121)) := (Chg.refl [] w).alloc _
  have h0' : MB (w.alloc (.cells #[.int .i64 v.1, .int .i64 v.2] 121)) b pre lim ws post T a c := h.chg hc0 (by simp) (by simp)
  have h1 := memElement_any p i h0'.mem hl hp hx h0 hs hsz
  by_cases h2 : 0 ≤ i ∧ i < sz
  · rw [if_pos h2, show decide (0 ≤ i ∧ i < sz) = true from by simp; omega] at h1 ⊢
    have h3 := memSetValue_any (p + 1 + 2 * i.toNat) v h0' (hin h2) hl
    rw [show ((p + 1 + 2 * i.toNat : Nat) : Int) = (p : Int) + 1 + 2 * i by omega] at h3
    generalize (p : Int) + 1 + 2 * i = at' at *
    generalize set2 ws (p + 1 + 2 * i.toNat) v = ws' at *
    have H1 := hide h1; have H3 := hide h3; have HC0 := hide hc0; clear h1 h3 h hx hin h2 hc0 h0'
    go_enter Tryz.func99, Tryz.ntmps99
    go_wp2_with fail
    refine (unhide H1).mono ?_
    rintro e w1 ⟨rfl, rfl⟩
    go_wp2_with fail
    refine (unhide H3).mono ?_
    rintro e w2 ⟨rfl, h4, k4⟩
    have H4 := hide h4; have K4 := hide k4; clear h4 k4
    go_wp2
    go_ret
    exact ⟨rfl, unhide H4, ((unhide HC0).mono (by simp)).trans (unhide K4)⟩
  · rw [if_neg h2, show decide (0 ≤ i ∧ i < sz) = false from by simp; omega] at h1 ⊢
    have H1 := hide h1; have H0 := hide h0'; clear h1 h hx hin h2 h0'
    go_enter Tryz.func99, Tryz.ntmps99
    go_wp2_with fail
    refine (unhide H1).mono ?_
    rintro e w1 ⟨rfl, rfl⟩
    go_wp2
    go_ret
    exact ⟨rfl, unhide H0, hc0.mono (by simp)⟩
end Go.Proofs.YtfoncalkgmeklaaGreat

/- Values inward and outward. -/
namespace Go.Proofs.YtfoncalkgmeklaaGreat
open Go.RowKit
variable {fx : Fx}

set_option maxHeartbeats 1000000 in
theorem isValue_any (v : Int × Int) (w : World) :
    Calls Tryz.prog 97 #[.agg #[.int .i64 v.1, .int .i64 v.2]] w fun e w' => e = .returned (.bool (decide (v.1 = 0 ∨ v.1 = 1 ∨ v.1 = 2))) ∧ Chg [] w w' := by
  obtain ⟨k, n⟩ := v
  simp only
  by_cases h0 : k = 0
  · subst h0
    go_enter Tryz.func97, Tryz.ntmps97
    go_wp2
    go_ret
    exact ⟨by simp, (Chg.refl [] w).alloc _⟩
  · have e0 : (k == 0) = false := by simp [h0]
    by_cases h1 : k = 1
    · subst h1
      go_enter Tryz.func97, Tryz.ntmps97
      go_wp2
      go_ret
      exact ⟨by simp, (Chg.refl [] w).alloc _⟩
    · have e1 : (k == 1) = false := by simp [h1]
      by_cases h2 : k = 2
      · subst h2
        go_enter Tryz.func97, Tryz.ntmps97
        go_wp2
        go_ret
        exact ⟨by simp, (Chg.refl [] w).alloc _⟩
      · have e2 : (k == 2) = false := by simp [h2]
        have hd : decide (k = 0 ∨ k = 1 ∨ k = 2) = false := by simp [h0, h1, h2]
        rw [hd]
        clear h0 h1 h2 hd
        go_enter Tryz.func97, Tryz.ntmps97
        go_wp2
        go_ret
        exact ⟨rfl, (Chg.refl [] w).alloc _⟩

/-- A value as it stands in the words. -/
def R.inW (s : R) (v : Int × Int) : Int × Int := if v.1 = 0 then (0, 0) else if v.1 = 1 then (1, v.2) else match s.find? v.2 with | none => (0, 0) | some a => (2, placeOf s.objs (s.handles.getD a rhan0).obj s.row)
def R.inL (s : R) (v : Int × Int) : Bool := v.1 == 0 || v.1 == 1 || (s.find? v.2).isSome
set_option maxRecDepth 100000 in
set_option maxHeartbeats 1000000 in
theorem gripInward_any {w : World} {bh : Nat} {s : R} {F : List Nat} (v : Int × Int) (h : (G fx) w bh s F) (hd : s.dead = false) (ha : RAll s) (hx : v.2 ≤ 9223372036854775807) :
    Calls Tryz.prog 98 #[.pointer (some ⟨bh, 0, none⟩), .agg #[.int .i64 v.1, .int .i64 v.2]] w fun e w' => e = .returned (.tuple #[.agg #[.int .i64 (s.inW v).1, .int .i64 (s.inW v).2], .bool (s.inL v)]) ∧ Chg [] w w' := by
  obtain ⟨k, n⟩ := v
  have hc0 : Chg [] w ((w.alloc (.cells #[.int .i64 k, .int .i64 n] 33)).alloc (.cells #[.int .i64 0, .int .i64 0] 121)) := ((Chg.refl [] w).alloc _).alloc _
  unfold R.inW R.inL
  simp only at hx ⊢
  by_cases h0 : k = 0
  · subst h0
    simp only [if_true]
    clear h
    go_enter Tryz.func98, Tryz.ntmps98
    go_wp2
    exact bodyPost_ret (v := .tuple #[.agg #[.int .i64 0, .int .i64 0], .bool true]) (by simp [results, Tryz.results98, go_sem]) rfl ⟨by simp, hc0⟩
  · have e0 : (k == 0) = false := by simp [h0]
    rw [if_neg h0, e0]
    by_cases h1 : k = 1
    · subst h1
      simp only [if_true]
      clear h h0 e0
      go_enter Tryz.func98, Tryz.ntmps98
      go_wp2
      exact bodyPost_ret (v := .tuple #[.agg #[.int .i64 1, .int .i64 n], .bool true]) (by simp [results, Tryz.results98, go_sem]) rfl ⟨by simp, ((Chg.refl [] w).alloc _).alloc _⟩
    · have e1 : (k == 1) = false := by simp [h1]
      rw [if_neg h1, e1]
      clear h0 h1
      obtain ⟨sl, a, c, hmb, rfl, hl, hs⟩ := G_live h hd
      have hpl : Hid (∀ w', Chg [] w w' → Calls Tryz.prog 118 #[.pointer (some ⟨bh, 3, none⟩), .int .i64 n] w' fun e w'' => e = .returned (.tuple #[.int .i64 (slotPlace sl n).1, .bool (slotPlace sl n).2]) ∧ w'' = w') := fun w' k => slotsPlace_any n ((hmb.chg k (by simp) (by simp)).slots hl) hx
      have heq := slotPlace_eq ha hl hs n
      rw [heq] at hpl
      have hpl0 := hide (unhide hpl _ hc0.drew)
      clear hmb hs h hl heq hpl
      cases hf : s.find? n with
      | none =>
        rw [hf] at hpl0
        simp only at hpl0 ⊢
        go_enter Tryz.func98, Tryz.ntmps98
        go_wp2_with fail
        go_region_held3 (fun w' => w'.cell? ⟨w.heap.size, 1, none⟩ = some (.int .i64 n)) (first | go_keep | assumption) ((go_at_call 118; refine (unhide hpl0).mono ?_; rintro e w3 ⟨rfl, rfl⟩))
        go_wp2
        exact bodyPost_ret (v := .tuple #[.agg #[.int .i64 0, .int .i64 0], .bool false]) (by simp [results, Tryz.results98, go_sem]) rfl ⟨by simp, hc0.drew⟩
      | some q =>
        rw [hf] at hpl0
        simp only at hpl0 ⊢
        generalize placeOf s.objs (s.handles.getD q rhan0).obj s.row = p at *
        go_enter Tryz.func98, Tryz.ntmps98
        go_wp2_with fail
        go_region_held3 (fun w' => w'.cell? ⟨w.heap.size, 1, none⟩ = some (.int .i64 n)) (first | go_keep | assumption) ((go_at_call 118; refine (unhide hpl0).mono ?_; rintro e w3 ⟨rfl, rfl⟩))
        go_wp2
        exact bodyPost_ret (v := .tuple #[.agg #[.int .i64 2, .int .i64 p], .bool true]) (by simp [results, Tryz.results98, go_sem]) rfl ⟨by simp, (((Chg.refl [] w).alloc _).alloc _).drew⟩

/-! Outward -/
/-- The word of a value's second half. -/
def R.outW (s : R) (v : Int × Int) : Int := if v.1 = 2 then placeOf s.objs v.2.toNat s.row else v.2
/-- The program's heap behind a new handle of an object that it has. -/
theorem G_handle {w : World} {bh : Nat} {s : R} {sl : List Slot} {a : Option Addr} {c j o : Nat} {sc : Int} (hl : sl.length = 32) (hs : ∀ k x, sl[k]? = some x → SlotOk s k x) (hd : s.dead = false) (hf : s.free? = some j)
    (h : MB w bh [.bool false] s.limit s.words (holdCells fx (slotAdd sl (placeOf s.objs o s.row) sc) s.scopes) 67 a c) : (G fx) w bh (s.handle o sc).2.2 (bh :: ab a) := by
  rw [handle_eq hf]
  refine ⟨slotAdd sl (placeOf s.objs o s.row) sc, a, c, s.words, s.limit, s.scopes, ?_, rfl, by simpa [slotAdd] using hl, fun _ => ⟨rfl, rfl, rfl, ?_⟩⟩
  · show MB w bh [.bool s.dead] _ _ _ _ _ _
    rw [hd]; exact h
  · exact slots_handle (s := s) (c := sc) (o := o) hl hs hf rfl rfl (fun _ _ _ => rfl)
theorem cell_chgS {S : List Nat} {w w' : World} (k : Chg S w w') {a : Addr} {v : Value} (h : w.cell? a = some v) (hb : a.block ∉ S) : w'.cell? a = some v := by
  rw [k.cell (cell_lt h) hb]; exact h
set_option maxRecDepth 100000 in
set_option maxHeartbeats 2000000 in
theorem gripOutward_any {w : World} {bh : Nat} {s : R} {F : List Nat} (v : Int × Int) (h : (G fx) w bh s F) (hd : s.dead = false) {m : Nat} (hu : RUp m s) (hm : m ≤ 3298534883328) :
    Calls Tryz.prog 90 #[.pointer (some ⟨bh, 0, none⟩), .agg #[.int .i64 v.1, .int .i64 (s.outW v)]] w fun e w' => ∃ F', e = .returned (.tuple #[.agg #[.int .i64 (s.outer v).1.1, .int .i64 (s.outer v).1.2], .int .i64 (s.outer v).2.1]) ∧ (G fx) w' bh (s.outer v).2.2 F' ∧ Stp F w F' w' := by
  obtain ⟨k, n⟩ := v
  unfold R.outW R.outer
  simp only
  by_cases h2 : k = 2
  · subst h2
    rw [if_pos rfl, if_pos rfl]
    have hg0 := h
    obtain ⟨sl, a, c, hmb, rfl, hl, hs⟩ := G_live h hd
    have hblt := hmb.blk.lt
    have halt : ∀ x ∈ ab a, x < w.heap.size := own_lt hmb.own
    generalize hp : placeOf s.objs n.toNat s.row = p at *
    have hc0 : Chg [] w ((w.alloc (.cells #[.int .i64 2, .int .i64 p] 121)).alloc (.cells #[.int .i64 0, .int .i64 0] 33)) := ((Chg.refl [] w).alloc _).alloc _
    have hmb0 := hmb.chg hc0 (by simp) (by simp)
    have hb0 : Blk ((w.alloc (.cells #[.int .i64 2, .int .i64 p] 121)).alloc (.cells #[.int .i64 0, .int .i64 0] 33)) (w.heap.size + 1) [.int .i64 0, .int .i64 0] 33 := by
      have := Blk.new (w.alloc (.cells #[.int .i64 2, .int .i64 p] 121)) [.int .i64 0, .int .i64 0] 33
      rw [size_alloc] at this
      exact this
    cases hf : s.free? with
    | none =>
      rw [handle_none hf]
      simp only [show ¬ ((11 : Int) = 0) by omega, if_false]
      have hcall := newHandle_full (p := p) (sc := s.scopes) hmb0 hl (by rw [slotFree_ok hl hs, hf]; rfl)
      have hinn := slotsInner_mb (hmb.chg (((Chg.refl [] w).alloc (.cells #[.int .i64 2, .int .i64 p] 121)).alloc (.cells #[.int .i64 0, .int .i64 0] 33)) (by simp) (by simp)) hl
      generalize s.scopes = sc at *
      have HI := hide hinn; clear hinn
      have HC := hide hcall; have HG := hide (stays_G [] _ _ _ _ _ hg0 hc0 (by simp)); have HC0 := hide hc0; clear hcall hmb hmb0 hs h hg0 hb0 hc0
      go_enter Tryz.func90, Tryz.ntmps90
      go_wp2_with fail
      refine (unhide HI).mono ?_
      rintro e w9 ⟨rfl, h9⟩
      subst h9
      go_wp2_with fail
      refine (unhide HC).mono ?_
      rintro e w3 ⟨rfl, h3⟩
      subst h3
      go_wp2
      exact bodyPost_ret (v := .tuple #[.agg #[.int .i64 0, .int .i64 0], .int .i64 11]) (by simp [results, Tryz.results90, go_sem]) rfl ⟨_, rfl, unhide HG, ⟨(unhide HC0).mono (by simp), fun _ h => .inl h⟩⟩
    | some j =>
      have hj := free_lt hf
      have hfree : slotFree sl = j := by rw [slotFree_ok hl hs, hf]; rfl
      have hgk := (hs j _ (slots_get hl hj)).2.1
      have hpast := past_le s (j : Int)
      have hhl := hu.handles
      have hcall := newHandle_ok (p := p) (sc := s.scopes) hmb0 hl hfree hj hgk (by omega) (by omega)
      have hinn := slotsInner_mb (hmb.chg (((Chg.refl [] w).alloc (.cells #[.int .i64 2, .int .i64 p] 121)).alloc (.cells #[.int .i64 0, .int .i64 0] 33)) (by simp) (by simp)) hl
      have HI := hide hinn; clear hinn
      have hq := handle_eq hf n.toNat s.scopes
      have hG' : ∀ w' a' c', MB w' bh [.bool false] s.limit s.words (holdCells fx (slotAdd sl p s.scopes) s.scopes) 67 a' c' → (G fx) w' bh (s.handle n.toNat s.scopes).2.2 (bh :: ab a') := fun w' a' c' h' => G_handle hl hs hd hf (by rw [hp]; exact h')
      have h10 : (s.handle n.toNat s.scopes).2.1 = 0 := by rw [hq]
      have h11 : (s.handle n.toNat s.scopes).1 = 32 * s.past (j : Int) + j := by rw [hq]
      rw [if_pos h10]
      simp only
      rw [h11]
      generalize (s.handle n.toNat s.scopes).2.2 = s' at *
      generalize s.scopes = sc at *
      generalize (32 * s.past (j : Int) + j : Int) = hn at *
      have HC := hide hcall; have HG := hide hG'; have HC0 := hide hc0; have HB0 := hide hb0; have HBL := hide hblt; have HAL := hide halt; clear hcall hmb hmb0 hs h hg0 hq hG' h10 h11 hgk hb0 hc0 hblt halt
      go_enter Tryz.func90, Tryz.ntmps90
      go_wp2_with fail
      refine (unhide HI).mono ?_
      rintro e w9 ⟨rfl, h9⟩
      subst h9
      go_wp2_with fail
      refine (unhide HC).mono ?_
      rintro e w3 ⟨rfl, hm3, hc3⟩
      have HM3 := hide hm3; clear hm3
      have hb3 := (unhide HB0).chg hc3 (by have := unhide HBL; simp; omega)
      have q0 := hb3.cell_of (i := 0) rfl
      have q1 := hb3.cell_of (i := 1) rfl
      have f0 := hb3.frozen 0
      have f1 := hb3.frozen 1
      have hb4 := (hb3.setCell 0 (.int .i64 2)).setCell 1 (.int .i64 hn)
      have r0 := hb4.cell_of (i := 0) (v := .int .i64 2) rfl
      have r1 := hb4.cell_of (i := 1) (v := .int .i64 hn) rfl
      have k4 : Chg [w.heap.size + 1] w3 ((w3.setCell ⟨w.heap.size + 1, 0, none⟩ (.int .i64 2)).setCell ⟨w.heap.size + 1, 1, none⟩ (.int .i64 hn)) := ((Chg.refl _ w3).setCell (.inl (by simp)) _).setCell (.inl (by simp)) _
      have hm4 := (unhide HM3).chg k4 (by have := unhide HBL; simp; omega) (fun x hx => by have := unhide HAL x hx; simp; omega)
      have hst : Stp (bh :: ab a) w (bh :: ab a) ((w3.setCell ⟨w.heap.size + 1, 0, none⟩ (.int .i64 2)).setCell ⟨w.heap.size + 1, 1, none⟩ (.int .i64 hn)) :=
        ⟨Chg.trans_new (((unhide HC0).mono (by simp)).trans (hc3.mono (by simp))) k4 (fun x hx => by simp at hx; right; omega), fun _ h => .inl h⟩
      have R0 := hide r0; have R1 := hide r1; have HG4 := hide (unhide HG _ _ _ hm4); have HST := hide hst; clear hb3 hb4 r0 r1 k4 hm4 hst hc3
      go_wp2
      have r0 := unhide R0
      have r1 := unhide R1
      exact bodyPost_ret (v := .tuple #[.agg #[.int .i64 2, .int .i64 hn], .int .i64 0]) (by simp [results, Tryz.results90, go_sem, r0, r1]) rfl ⟨_, rfl, unhide HG4, unhide HST⟩
  · rw [if_neg h2, if_neg h2]
    have hne : (k != 2) = true := by simp [h2]
    have hc0 : Chg [] w ((w.alloc (.cells #[.int .i64 k, .int .i64 n] 121)).alloc (.cells #[.int .i64 k, .int .i64 n] 33)) := ((Chg.refl [] w).alloc _).alloc _
    have HG := hide (stays_G [] _ _ _ _ _ h hc0 (by simp)); have HC0 := hide hc0; clear h hc0 h2
    go_enter Tryz.func90, Tryz.ntmps90
    go_wp2
    exact bodyPost_ret (v := .tuple #[.agg #[.int .i64 k, .int .i64 n], .int .i64 0]) (by simp [results, Tryz.results90, go_sem]) rfl ⟨_, rfl, unhide HG, ⟨(unhide HC0).mono (by simp), fun _ h => .inl h⟩⟩
end Go.Proofs.YtfoncalkgmeklaaGreat

/- The words when an object's values turn. -/
namespace Go.Proofs.YtfoncalkgmeklaaGreat
open Go.RowKit
variable {fx : Fx}

theorem valWords_eq (s : R) (v : Int × Int) : valWords s v = [v.1, s.outW v] := rfl
theorem flat_at (s : R) : ∀ (l : List (Int × Int)) (j : Nat), j < l.length → (l.flatMap (valWords s)).getD (2 * j) 0 = (l.getD j (0, 0)).1 ∧ (l.flatMap (valWords s)).getD (2 * j + 1) 0 = s.outW (l.getD j (0, 0))
  | [], j, h => by simp at h
  | v :: r, 0, _ => by simp [valWords_eq, List.getD]
  | v :: r, j + 1, h => by
    have ih := flat_at s r j (by simpa using h)
    rw [List.flatMap_cons, valWords_eq]
    have e : 2 * (j + 1) = 2 * j + 2 := by omega
    rw [e]
    simpa [List.getD] using ih
theorem flat_set (s : R) : ∀ (l : List (Int × Int)) (j : Nat) (u : Int × Int), j < l.length → (l.set j u).flatMap (valWords s) = set2 (l.flatMap (valWords s)) (2 * j) (u.1, s.outW u)
  | [], j, u, h => by simp at h
  | v :: r, 0, u, _ => by simp [valWords_eq, set2]
  | v :: r, j + 1, u, h => by
    have ih := flat_set s r j u (by simpa using h)
    rw [List.set_cons_succ, List.flatMap_cons, List.flatMap_cons, ih, valWords_eq]
    have e : 2 * (j + 1) = 2 * j + 2 := by omega
    rw [e]
    simp [set2]
/-- How many words stand ahead of an object's values. -/
def headLen (o : RObj) : Nat := if o.kind = 3 then 2 else 1
theorem head_len (o : RObj) : (headWords o).length = headLen o := by unfold headWords headLen; split <;> simp
theorem objWords_form (s : R) (o : RObj) : objWords s o = headWords o ++ (o.vals.flatMap (valWords s) ++ (textWords o.text ++ List.replicate ((oWords o).toNat - (fullWords s o).length) 0)) := by
  unfold objWords fullWords
  simp
theorem mid_get {A X B : List Int} {j : Nat} (h : j < X.length) : (A ++ (X ++ B)).getD (A.length + j) 0 = X.getD j 0 := by
  simp only [List.getD]
  rw [List.getElem?_append_right (by omega), show A.length + j - A.length = j by omega, List.getElem?_append_left h]
theorem objWords_val (s : R) (o : RObj) {j : Nat} (hj : j < o.vals.length) : (objWords s o).getD (headLen o + 2 * j) 0 = (o.vals.getD j (0, 0)).1 ∧ (objWords s o).getD (headLen o + 2 * j + 1) 0 = s.outW (o.vals.getD j (0, 0)) := by
  have hf := flat_at s o.vals j hj
  have hl := valWords_len2 s o.vals
  rw [objWords_form, ← head_len o, mid_get (by omega), show (headWords o).length + 2 * j + 1 = (headWords o).length + (2 * j + 1) by omega, mid_get (by omega)]
  exact hf
theorem word_val {s : R} (ha : RAll s) {i : Nat} (hm : i ∈ s.row) {j : Nat} (hj : j < (s.objOf i).vals.length) :
    wordAt s.words (placeOf s.objs i s.row + ((headLen (s.objOf i) + 2 * j : Nat) : Int)) = ((s.objOf i).vals.getD j (0, 0)).1 ∧ wordAt s.words (placeOf s.objs i s.row + ((headLen (s.objOf i) + 2 * j + 1 : Nat) : Int)) = s.outW ((s.objOf i).vals.getD j (0, 0)) := by
  have ho := ha.ok.osh (objOf_mem (ha.ok.inv.rows i hm))
  have hfl := full_le s ho
  have hlen : (fullWords s (s.objOf i)).length = headLen (s.objOf i) + (2 * (s.objOf i).vals.length + (textWords (s.objOf i).text).length) := by
    unfold fullWords
    rw [List.length_append, List.length_append, head_len, valWords_len2]
  obtain ⟨h1, h2⟩ := objWords_val s (s.objOf i) hj
  rw [word_obj ha hm (by omega), word_obj ha hm (by omega)]
  exact ⟨h1, h2⟩

/-! One object of the row turns -/
theorem row_split {i : Nat} : ∀ {l : List Nat}, i ∈ l → ∃ r1 r2, l = r1 ++ i :: r2 ∧ i ∉ r1
  | x :: r, h => by
    by_cases hx : x = i
    · exact ⟨[], r, by simp [hx], by simp⟩
    · obtain ⟨r1, r2, e, hn⟩ := row_split (l := r) (by rcases List.mem_cons.1 h with h | h; exact absurd h.symm hx; exact h)
      exact ⟨x :: r1, r2, by simp [e], by simp [hn, Ne.symm hx]⟩
theorem place_split {s : R} (h : ROk s) {i : Nat} : ∀ {r1 r2 : List Nat}, i ∉ r1 → (∀ x ∈ r1, x < s.objs.length) → placeOf s.objs i (r1 ++ i :: r2) = ((r1.flatMap fun x => objWords s (s.objOf x)).length : Int)
  | [], r2, _, _ => by simp [placeOf]
  | x :: r, r2, hn, hl => by
    have hx := objWords_size s (h.osh (objOf_mem (hl x List.mem_cons_self)))
    have ih := place_split h (i := i) (r1 := r) (r2 := r2) (fun hm => hn (List.mem_cons_of_mem _ hm)) (fun y hy => hl y (List.mem_cons_of_mem _ hy))
    simp only [List.cons_append, placeOf, List.flatMap_cons, List.length_append]
    rw [if_neg (fun e => hn (by simp [e])), ih]
    have e0 : oWords (s.objs.getD x robj0) = oWords (s.objOf x) := rfl
    omega
theorem place_set {objs : List RObj} {o i : Nat} {ob : RObj} (hw : oWords ob = oWords (objs.getD o robj0)) : ∀ l, placeOf (objs.set o ob) i l = placeOf objs i l
  | [] => rfl
  | x :: r => by
    simp only [placeOf]
    rw [place_set hw r]
    have e : oWords ((objs.set o ob).getD x robj0) = oWords (objs.getD x robj0) := by
      simp only [List.getD, List.getElem?_set]
      by_cases h : o = x
      · subst h
        by_cases hx : o < objs.length
        · simp [hx, hw]
        · simp [hx]
      · simp [h]
    rw [e]
/-- The words when an object turns and takes as many words as before. -/
theorem words_setObj {s : R} (ha : RAll s) {o : Nat} (hm : o ∈ s.row) {ob : RObj} (hw : oWords ob = oWords (s.objOf o)) :
    ∃ A B, s.words = A ++ (objWords s (s.objOf o) ++ B) ∧ (s.setObj o ob).words = A ++ (objWords s ob ++ B) ∧ (A.length : Int) = placeOf s.objs o s.row := by
  obtain ⟨r1, r2, e, hn⟩ := row_split hm
  have hnd := ha.row.nodup
  rw [e] at hnd
  have hn2 : o ∉ r2 := by
    have := (List.nodup_append.1 hnd).2.1
    exact (List.nodup_cons.1 this).1
  have hlt := ha.ok.inv.rows
  have hpl : ∀ i, placeOf (s.setObj o ob).objs i (s.setObj o ob).row = placeOf s.objs i s.row := fun i => place_set hw s.row
  have hob : ∀ o' : RObj, objWords (s.setObj o ob) o' = objWords s o' := fun o' => objWords_same fun v _ _ => hpl _
  have hsame : ∀ r : List Nat, o ∉ r → (∀ x ∈ r, x < s.objs.length) → (r.flatMap fun x => objWords (s.setObj o ob) ((s.setObj o ob).objOf x)) = r.flatMap fun x => objWords s (s.objOf x) := by
    intro r hr hl
    refine flatMap_same fun x hx => ?_
    rw [hob, objOf_set (hl x hx), if_neg (fun (e' : x = o) => hr (e' ▸ hx))]
  refine ⟨r1.flatMap fun x => objWords s (s.objOf x), r2.flatMap fun x => objWords s (s.objOf x), ?_, ?_, ?_⟩
  · unfold R.words
    rw [e, List.flatMap_append, List.flatMap_cons]
  · unfold R.words
    show (s.row.flatMap _) = _
    rw [e, List.flatMap_append, List.flatMap_cons, hsame r1 hn (fun x hx => hlt x (by rw [e]; simp [hx])), hsame r2 hn2 (fun x hx => hlt x (by rw [e]; simp [hx])), hob, objOf_set (hlt o hm), if_pos rfl]
  · rw [e, place_split ha.ok hn (fun x hx => hlt x (by rw [e]; simp [hx]))]
theorem set_mid {A X B : List Int} {j : Nat} {v : Int} (h : j < X.length) : (A ++ (X ++ B)).set (A.length + j) v = A ++ (X.set j v ++ B) := by
  rw [List.set_append_right _ _ (by omega), show A.length + j - A.length = j by omega, List.set_append_left _ _ h]
theorem set2_mid {A X B : List Int} {j : Nat} {v : Int × Int} (h : j + 1 < X.length) : set2 (A ++ (X ++ B)) (A.length + j) v = A ++ (set2 X j v ++ B) := by
  unfold set2
  rw [set_mid (by omega), show A.length + j + 1 = A.length + (j + 1) by omega, set_mid (by simpa using h)]
/-- An object's words when one of its values turns. -/
theorem objWords_setVal (s : R) (o : RObj) {j : Nat} (u : Int × Int) (hj : j < o.vals.length) : objWords s { o with vals := o.vals.set j u } = set2 (objWords s o) (headLen o + 2 * j) (u.1, s.outW u) := by
  have hl := valWords_len2 s o.vals
  have e1 : headWords { o with vals := o.vals.set j u } = headWords o := by unfold headWords; simp
  have e2 : (fullWords s { o with vals := o.vals.set j u }).length = (fullWords s o).length := by
    unfold fullWords
    rw [e1]
    simp only [List.length_append, valWords_len2, List.length_set]
  rw [objWords_form, objWords_form, e1, e2, ← head_len o, set2_mid (by omega)]
  show headWords o ++ ((o.vals.set j u).flatMap (valWords s) ++ _) = _
  rw [flat_set s _ _ _ hj]
  rfl
/-- The program's heap when an object has turned. -/
theorem G_setObj {w : World} {bh : Nat} {s : R} {sl : List Slot} {a : Option Addr} {c o : Nat} {ob : RObj} (hl : sl.length = 32) (hs : ∀ k x, sl[k]? = some x → SlotOk s k x) (hd : s.dead = false) (hw : oWords ob = oWords (s.objOf o))
    (h : MB w bh [.bool false] s.limit (s.setObj o ob).words (holdCells fx sl s.scopes) 67 a c) : (G fx) w bh (s.setObj o ob) (bh :: ab a) := by
  refine ⟨sl, a, c, (s.setObj o ob).words, s.limit, s.scopes, ?_, rfl, hl, fun _ => ⟨rfl, rfl, rfl, ?_⟩⟩
  · show MB w bh [.bool s.dead] _ _ _ _ _ _
    rw [hd]; exact h
  · intro k x hx
    obtain ⟨h1, h2, h3⟩ := hs k x hx
    refine ⟨h1, h2, fun q hq => ?_⟩
    rw [(h3 q hq).1, (h3 q hq).2]
    exact ⟨(place_set hw s.row).symm, rfl⟩
/-- What goes inward is what the document lays into the object. -/
theorem inW_inner {s : R} {v : Int × Int} (hv : 0 ≤ v.1 ∧ v.1 ≤ 2) (hl : s.inL v = true) : s.inW v = ((s.inner v).1, s.outW (s.inner v)) := by
  have hc : v.1 = 0 ∨ v.1 = 1 ∨ v.1 = 2 := by omega
  obtain ⟨k, n⟩ := v
  simp only at hc
  rcases hc with rfl | rfl | rfl
  · simp [R.inW, R.inner, R.outW]
  · simp [R.inW, R.inner, R.outW]
  · unfold R.inL at hl
    simp at hl
    unfold R.inW R.inner R.outW
    cases hf : s.find? n with
    | none => simp [hf] at hl
    | some q => simp [posOf]
theorem inL_stale {s : R} {v : Int × Int} (hv : 0 ≤ v.1 ∧ v.1 ≤ 2) : s.inL v = !(v.1 == 2 && (s.find? v.2).isNone) := by
  have hc : v.1 = 0 ∨ v.1 = 1 ∨ v.1 = 2 := by omega
  unfold R.inL
  rcases hc with h | h | h <;> rw [h] <;> cases s.find? v.2 <;> simp
end Go.Proofs.YtfoncalkgmeklaaGreat

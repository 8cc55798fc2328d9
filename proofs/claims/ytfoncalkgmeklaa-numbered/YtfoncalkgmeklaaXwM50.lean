import Derived.Test.YtfoncalkgmeklaaXwM49

/- The book of handles: a step by the book. -/
namespace Go.Proofs.Ytfoncalkgmeklaa
open Go.RowKit

theorem free_low (s : R) : lowQ s.handles = match s.free? with | some k => (k : Int) | none => -1 := by
  have e : (fun (k : Nat) => (s.at? (k : Int)).isNone) = slotFreeQ s.handles := by
    funext k
    unfold slotFreeQ R.at?
    rw [Bool.eq_iff_iff]
    simp
    exact ⟨fun h x hx hl => (h x hx).resolve_left (by simp [hl]), fun h x hx => by cases hl : x.live; exact .inl rfl; exact .inr (h x hx hl)⟩
  unfold lowQ R.free?
  rw [e]
  rfl
theorem nums_nn {s : R} (ha : RAll s) : ∀ g ∈ s.handles, 0 ≤ g.num := fun g hg => (ha.ok.inv.nums g hg).1
/-- The program keeps the document, New aside. -/
structure KQ (G : World → Nat → R → List Nat → Prop) (J : R → Prop) : Prop where
  stays : Stays G
  keep : ∀ s o, J s → RAll s → o.Ok → J (s.stepQ o)
  step : ∀ bh s m o, J s → RAll s → RUp m s → m ≤ 1125899906842624 → o.Ok → PStep G bh s o
theorem KP.q {G : World → Nat → R → List Nat → Prop} {J : R → Prop} (h : KP G J) : KQ G J := ⟨h.stays, h.keep, h.step⟩
theorem KS.chgq {G : World → Nat → R → List Nat → Prop} {J : R → Prop} {w w' : World} {bh m : Nat} {s : R} {F S : List Nat} (hP : KQ G J) (h : KS G J w bh s F m) (k : Chg S w w') (hs : ∀ b ∈ F, b ∉ S) : KS G J w' bh s F m := ⟨hP.stays _ _ _ _ _ _ h.g k hs, fun b hb => Nat.lt_of_lt_of_le (h.lt b hb) k.size, h.j, h.all, h.up⟩
theorem KS.askq {G : World → Nat → R → List Nat → Prop} {J : R → Prop} {w : World} {bh m : Nat} {s : R} {F : List Nat} (hP : KQ G J) (h : KS G J w bh s F m) (hm : m ≤ 1125899906842624) (o : LOp) (ho : o.Ok) :
    Calls Try.prog 9 #[.pointer (some ⟨bh, 0, none⟩), o.val] w fun e w' => ∃ F', e = .returned (s.askQ o).val ∧ KS G J w' bh (s.stepQ o) F' (m + 1) ∧ Stp F w F' w' :=
  (ask_any hP.stays o (hP.step bh s m o h.j h.all h.up hm ho) w F h.g h.lt).mono fun _ _ ⟨F', e, g, l, st⟩ => ⟨F', e, ⟨g, l, hP.keep s o h.j h.all ho, h.all.step o, h.up.step o⟩, st⟩
/-- What a step by the book leaves. -/
def StepPost (G : World → Nat → R → List Nat → Prop) (J : R → Prop) (w0 w' : World) (bh bb : Nat) (s' : R) (m : Nat) (e : Int) : Prop :=
  ∃ F' na sa la nc sc lc, KS G J w' bh s' F' m ∧ Newer w0 w' F' ∧ (e ≠ 12 → s'.dead = false ∧ BK w0 w' bb s'.handles s'.scopes na sa la nc sc lc F')
set_option maxRecDepth 100000 in
set_option maxHeartbeats 8000000 in
theorem bstep_q {G : World → Nat → R → List Nat → Prop} {J : R → Prop} (hP : KQ G J) {w0 w : World} {bh bb m : Nat} {s : R} {F : List Nat} {na sa la : Option Addr} {nc sc lc : Nat} (hk : KS G J w bh s F m) (hm : m ≤ 4398046511104) (hd : s.dead = false) (hnw : Newer w0 w F) (hbk : BK w0 w bb s.handles s.scopes na sa la nc sc lc F) (o : LOp) (hok : o.Ok) :
    Calls Try.prog 15 #[.pointer (some ⟨bb, 0, none⟩), .pointer (some ⟨bh, 0, none⟩), o.val] w fun e w' => e = .returned (.tuple #[(s.askQ o).val, .bool true]) ∧ StepPost G J w0 w' bh bb (s.stepQ o) (m + 1) (s.askQ o).e := by
  have kb : Chg [] w ((w.alloc (.cells #[.int .i64 o.kind, .int .i64 o.x, .int .i64 o.y, .int .i64 o.k.1, .int .i64 o.k.2, .int .i64 o.v.1, .int .i64 o.v.2, .string o.s] 35)).alloc (.cells #[.int .i64 0, .int .i64 0, .bool false, .string ⟨#[]⟩, .int .i64 0, .int .i64 0] 32)) := ((Chg.refl [] w).alloc _).alloc _
  have hb0 : Blk ((w.alloc (.cells #[.int .i64 o.kind, .int .i64 o.x, .int .i64 o.y, .int .i64 o.k.1, .int .i64 o.k.2, .int .i64 o.v.1, .int .i64 o.v.2, .string o.s] 35)).alloc (.cells #[.int .i64 0, .int .i64 0, .bool false, .string ⟨#[]⟩, .int .i64 0, .int .i64 0] 32)) w.heap.size o.cells 35 := (Blk.new w o.cells 35).alloc _
  have hb1 : Blk ((w.alloc (.cells #[.int .i64 o.kind, .int .i64 o.x, .int .i64 o.y, .int .i64 o.k.1, .int .i64 o.k.2, .int .i64 o.v.1, .int .i64 o.v.2, .string o.s] 35)).alloc (.cells #[.int .i64 0, .int .i64 0, .bool false, .string ⟨#[]⟩, .int .i64 0, .int .i64 0] 32)) (w.heap.size + 1) [.int .i64 0, .int .i64 0, .bool false, .string ⟨#[]⟩, .int .i64 0, .int .i64 0] 32 := by
    have := Blk.new (w.alloc (.cells #[.int .i64 o.kind, .int .i64 o.x, .int .i64 o.y, .int .i64 o.k.1, .int .i64 o.k.2, .int .i64 o.v.1, .int .i64 o.v.2, .string o.s] 35)) [.int .i64 0, .int .i64 0, .bool false, .string ⟨#[]⟩, .int .i64 0, .int .i64 0] 32
    rw [size_alloc] at this
    exact this
  have hlt := hbk.lt
  have hFlt := hk.lt
  have hk1 := hk.chgq hP kb (by simp)
  have hnw1 := hnw.chg kb
  have hbk1 := hbk.quiet kb
  have hbs := book_step o hd hk.all
  have hask := hk1.askq hP (by omega) o hok
  have hall := hk.all
  have hdead : (s.askQ o).e ≠ 12 → (s.stepQ o).dead = false := fun he => dead_step o hd he
  have hfl := free_low s
  have hscs := hk.all.ok.inv.scopes
  have hhl : s.handles.length ≤ 8796093022207 := by have := hk.up.handles; omega
  have hall' := hk.all.step o
  have hup' := hk.up.step o
  have hhan := handles_any o (s.askQ o)
  have hcases : BookStep s o := hbs
  clear hbs
  unfold Ans.val at hask hhan
  unfold LOp.val at *
  cases hcases with
  | more h e kk mm =>
    have HW00 := hide (show w0.heap.size ≤ w.heap.size from hnw.1.size)
    have HK := hide hask; have HHAN := hide hhan; have HNW := hide hnw1; have HBK := hide hbk1; have HB0 := hide hb0; have HB1 := hide hb1; have HLT := hide hlt; have HFL := hide hFlt; have HDD := hide hdead; have HALL := hide hall; have HALL2 := hide hall'; have HUP2 := hide hup'; have HLOW := hide hfl
    clear hask hhan hnw1 hbk1 hb0 hb1 hlt hFlt hdead hall hall' hup' hfl hk hk1 hnw hbk kb
    generalize handlesQ o (s.askQ o) = hq at *
    obtain ⟨x, one⟩ := hq
    simp only at *
    subst h
    generalize han : s.askQ o = an at *
    generalize hst : s.stepQ o = s' at *
    have HAN := hide han; have HST := hide hst; clear han hst
    have be11 : (an.e == 11) = false := by simp [e]
    have be0 : (an.e == 0) = true := by simp [e]
    have bk1 : (o.kind == 16) = false := by simp [kk.1]
    have bk2 : (o.kind == 17) = false := by simp [kk.2.1]
    have bk3 : (o.kind == 20) = false := by simp [kk.2.2]
    obtain ⟨k, g, f1, f2, f3, f4, f5, f6, f7⟩ := mm
    have hl0 := unhide HLOW
    rw [f1] at hl0
    simp only at hl0
    have HL0 := hide hl0; have HK32 := hide (free_lt f1); have HXX := hide f2; have HG1 := hide f3; have HG2 := hide f4; have HG3 := hide f5; have HH := hide f6; have HSC := hide f7; clear e kk f1 f2 f3 f4 f5 f6 f7 hl0
    have o0 := (unhide HB0).cell_of (i := 0) (v := .int .i64 o.kind) rfl
    have o1 := (unhide HB0).cell_of (i := 1) (v := .int .i64 o.x) rfl
    have o2 := (unhide HB0).cell_of (i := 2) (v := .int .i64 o.y) rfl
    have o3 := (unhide HB0).cell_of (i := 3) (v := .int .i64 o.k.1) rfl
    have o4 := (unhide HB0).cell_of (i := 4) (v := .int .i64 o.k.2) rfl
    have o5 := (unhide HB0).cell_of (i := 5) (v := .int .i64 o.v.1) rfl
    have o6 := (unhide HB0).cell_of (i := 6) (v := .int .i64 o.v.2) rfl
    have o7 := (unhide HB0).cell_of (i := 7) (v := .string o.s) rfl
    go_enter Try.func15, Try.ntmps15
    go_wp2_with fail
    refine (unhide HK).mono ?_
    rintro e w4 ⟨F4, rfl, k4, st4⟩
    have n4 := (unhide HNW).stp st4
    have bk4 := (unhide HBK).stp st4
    have kc4 : Chg [] w4 (w4.alloc (.cells #[.int .i64 an.e, .int .i64 an.n, .bool an.b, .string an.s, .int .i64 an.v.1, .int .i64 an.v.2] 32)) := (Chg.refl [] w4).alloc _
    have hnF : ∀ x, w.heap.size ≤ x → x ∉ F := fun x hx hm => by have := unhide HFL x hm; omega
    have b04 := ((unhide HB0).chg st4.chg (hnF _ (Nat.le_refl _))).chg kc4 (by simp)
    have b14 := ((unhide HB1).chg st4.chg (hnF _ (Nat.le_succ _))).chg kc4 (by simp)
    have b24 : Blk (w4.alloc (.cells #[.int .i64 an.e, .int .i64 an.n, .bool an.b, .string an.s, .int .i64 an.v.1, .int .i64 an.v.2] 32)) w4.heap.size an.cells 32 := Blk.new w4 an.cells 32
    have hsz4 : w.heap.size + 1 < w4.heap.size := ((unhide HB1).chg st4.chg (hnF _ (Nat.le_succ _))).lt
    have HNF4 := hide (show w.heap.size + 1 ∉ F4 from fun hmm => by rcases st4.foot _ hmm with h8 | h8; exact hnF _ (Nat.le_succ _) h8; rw [size_alloc, size_alloc] at h8; omega)
    have HW0 := hide (show w0.heap.size ≤ w.heap.size + 1 from by have := unhide HW00; omega)
    have k5 := k4.chgq hP kc4 (by simp)
    have n5 := n4.chg kc4
    have bk5 := bk4.quiet kc4
    have K5 := hide k5; have N5 := hide n5; have BK5 := hide bk5; have B04 := hide b04; have B14 := hide b14; have B24 := hide b24; clear k5 n5 bk5 b04 b14 b24 k4 n4 bk4 st4 kc4 hnF o0 o1 o2 o3 o4 o5 o6 o7 HK HNW HBK HB0 HB1
    have o0 := (unhide B04).cell_of (i := 0) (v := .int .i64 o.kind) rfl
    have o1 := (unhide B04).cell_of (i := 1) (v := .int .i64 o.x) rfl
    have o2 := (unhide B04).cell_of (i := 2) (v := .int .i64 o.y) rfl
    have o3 := (unhide B04).cell_of (i := 3) (v := .int .i64 o.k.1) rfl
    have o4 := (unhide B04).cell_of (i := 4) (v := .int .i64 o.k.2) rfl
    have o5 := (unhide B04).cell_of (i := 5) (v := .int .i64 o.v.1) rfl
    have o6 := (unhide B04).cell_of (i := 6) (v := .int .i64 o.v.2) rfl
    have o7 := (unhide B04).cell_of (i := 7) (v := .string o.s) rfl
    have a0 := (unhide B24).cell_of (i := 0) (v := .int .i64 an.e) rfl
    have a1 := (unhide B24).cell_of (i := 1) (v := .int .i64 an.n) rfl
    have a2 := (unhide B24).cell_of (i := 2) (v := .bool an.b) rfl
    have a3 := (unhide B24).cell_of (i := 3) (v := .string an.s) rfl
    have a4 := (unhide B24).cell_of (i := 4) (v := .int .i64 an.v.1) rfl
    have a5 := (unhide B24).cell_of (i := 5) (v := .int .i64 an.v.2) rfl
    go_wp2_with fail
    refine (unhide HHAN _).mono ?_
    rintro e w6 ⟨rfl, kc6⟩
    have k6 := (unhide K5).chgq hP kc6 (by simp)
    have n6 := (unhide N5).chg kc6
    have bk6 := (unhide BK5).quiet kc6
    have b06 := (unhide B04).chg kc6 (by simp)
    have b16 := (unhide B14).chg kc6 (by simp)
    have b26 := (unhide B24).chg kc6 (by simp)
    have hlow := lowest_any bk6 (nums_nn (unhide HALL)) (by omega)
    have K6 := hide k6; have N6 := hide n6; have BK6 := hide bk6; have B06 := hide b06; have B16 := hide b16; have B26 := hide b26; have LOW := hide hlow; clear k6 n6 bk6 b06 b16 b26 hlow kc6 K5 N5 BK5 B04 B14 B24 o0 o1 o2 o3 o4 o5 o6 o7 a0 a1 a2 a3 a4 a5
    have o0 := (unhide B06).cell_of (i := 0) (v := .int .i64 o.kind) rfl
    have o1 := (unhide B06).cell_of (i := 1) (v := .int .i64 o.x) rfl
    have o2 := (unhide B06).cell_of (i := 2) (v := .int .i64 o.y) rfl
    have o3 := (unhide B06).cell_of (i := 3) (v := .int .i64 o.k.1) rfl
    have o4 := (unhide B06).cell_of (i := 4) (v := .int .i64 o.k.2) rfl
    have o5 := (unhide B06).cell_of (i := 5) (v := .int .i64 o.v.1) rfl
    have o6 := (unhide B06).cell_of (i := 6) (v := .int .i64 o.v.2) rfl
    have o7 := (unhide B06).cell_of (i := 7) (v := .string o.s) rfl
    have a0 := (unhide B26).cell_of (i := 0) (v := .int .i64 an.e) rfl
    have a1 := (unhide B26).cell_of (i := 1) (v := .int .i64 an.n) rfl
    have a2 := (unhide B26).cell_of (i := 2) (v := .bool an.b) rfl
    have a3 := (unhide B26).cell_of (i := 3) (v := .string an.s) rfl
    have a4 := (unhide B26).cell_of (i := 4) (v := .int .i64 an.v.1) rfl
    have a5 := (unhide B26).cell_of (i := 5) (v := .int .i64 an.v.2) rfl
    have hnote := note_any (unhide BK6) (nums_nn (unhide HALL)) (by omega) (by have := (unhide N6).1.size; exact this) (unhide K6).lt o x (unhide HL0) (unhide HK32) (unhide HXX) hscs (unhide HG1) (unhide HG2) (unhide HG3)
    unfold LOp.val at hnote
    have NOTE := hide hnote; clear hnote LOW
    go_wp2_with fail
    refine (unhide NOTE).mono ?_
    rintro e w8 ⟨rfl, na8, sa8, la8, nc8, sc8, lc8, bk8, kst8⟩
    have kc8 := kst8.chg
    clear kst8
    have k8 := (unhide K6).chgq hP kc8 (fun b hb hm => ((unhide BK6).out b hm).1 hb)
    have n8 := (unhide N6).chgS kc8 (fun b hb => ((unhide BK6).out b hb).2)
    have hni : ∀ y, w.heap.size ≤ y → y ∉ bb :: (ab na ++ (ab sa ++ ab la)) := fun y hy hm => by have := unhide HLT y hm; omega
    have b08 := (unhide B06).chg kc8 (hni _ (Nat.le_refl _))
    have b18 := (unhide B16).chg kc8 (hni _ (Nat.le_succ _))
    have b28 := (unhide B26).chg kc8 (hni _ (by omega))
    rw [← unhide HH] at bk8
    have hlow := lowest_any bk8 (nums_nn (unhide HALL2)) (by rw [unhide HH]; simp; omega)
    have K8 := hide k8; have N8 := hide n8; have BK8 := hide bk8; have B08 := hide b08; have B18 := hide b18; have B28 := hide b28; have LOW := hide hlow; clear k8 n8 bk8 b08 b18 b28 hlow kc8 hni K6 N6 BK6 B06 B16 B26 o0 o1 o2 o3 o4 o5 o6 o7 a0 a1 a2 a3 a4 a5 NOTE
    have o0 := (unhide B08).cell_of (i := 0) (v := .int .i64 o.kind) rfl
    have o1 := (unhide B08).cell_of (i := 1) (v := .int .i64 o.x) rfl
    have o2 := (unhide B08).cell_of (i := 2) (v := .int .i64 o.y) rfl
    have o3 := (unhide B08).cell_of (i := 3) (v := .int .i64 o.k.1) rfl
    have o4 := (unhide B08).cell_of (i := 4) (v := .int .i64 o.k.2) rfl
    have o5 := (unhide B08).cell_of (i := 5) (v := .int .i64 o.v.1) rfl
    have o6 := (unhide B08).cell_of (i := 6) (v := .int .i64 o.v.2) rfl
    have o7 := (unhide B08).cell_of (i := 7) (v := .string o.s) rfl
    have a0 := (unhide B28).cell_of (i := 0) (v := .int .i64 an.e) rfl
    have a1 := (unhide B28).cell_of (i := 1) (v := .int .i64 an.n) rfl
    have a2 := (unhide B28).cell_of (i := 2) (v := .bool an.b) rfl
    have a3 := (unhide B28).cell_of (i := 3) (v := .string an.s) rfl
    have a4 := (unhide B28).cell_of (i := 4) (v := .int .i64 an.v.1) rfl
    have a5 := (unhide B28).cell_of (i := 5) (v := .int .i64 an.v.2) rfl
    go_wp2_with fail
    refine (unhide LOW).mono ?_
    rintro e w7 ⟨rfl, h7⟩
    subst h7
    have HB8 := hide (show ∀ y ∈ bb :: (ab na8 ++ (ab sa8 ++ ab la8)), y ≠ w.heap.size + 1 from fun y hy e => by
      have ht := (unhide B18).ty
      rw [← e] at ht
      rcases List.mem_cons.1 hy with h1 | h1
      · rw [h1] at ht; exact ht.ne (T' := 47) (by decide) (unhide BK8).blk.ty
      · rcases List.mem_append.1 h1 with h2 | h2
        · exact ht.ne (T' := 3) (by decide) (owns_ty (unhide BK8).nums y h2)
        · rcases List.mem_append.1 h2 with h3 | h3
          · exact ht.ne (T' := 3) (by decide) (owns_ty (unhide BK8).scs y h3)
          · exact ht.ne (T' := 4) (by decide) (owns_ty (unhide BK8).live y h3))
    have z0 := (unhide B18).cell_of (i := 0) (v := .int .i64 0) rfl
    have z1 := (unhide B18).cell_of (i := 1) (v := .int .i64 0) rfl
    have z2 := (unhide B18).cell_of (i := 2) (v := .bool false) rfl
    have z3 := (unhide B18).cell_of (i := 3) (v := .string ⟨#[]⟩) rfl
    have z4 := (unhide B18).cell_of (i := 4) (v := .int .i64 0) rfl
    have z5 := (unhide B18).cell_of (i := 5) (v := .int .i64 0) rfl
    have zf0 := (unhide B18).frozen 0
    have zf1 := (unhide B18).frozen 1
    have zf2 := (unhide B18).frozen 2
    have zf3 := (unhide B18).frozen 3
    have zf4 := (unhide B18).frozen 4
    have zf5 := (unhide B18).frozen 5
    have kp := Ans.put_chg w7 (w.heap.size + 1) an
    have bp : Blk (an.put w7 (w.heap.size + 1)) (w.heap.size + 1) an.cells 32 := Ans.put_blk (c := ⟨0, 0, false, ⟨#[]⟩, (0, 0)⟩) (unhide B18)
    have r0 := bp.cell_of (i := 0) (v := .int .i64 an.e) rfl
    have r1 := bp.cell_of (i := 1) (v := .int .i64 an.n) rfl
    have r2 := bp.cell_of (i := 2) (v := .bool an.b) rfl
    have r3 := bp.cell_of (i := 3) (v := .string an.s) rfl
    have r4 := bp.cell_of (i := 4) (v := .int .i64 an.v.1) rfl
    have r5 := bp.cell_of (i := 5) (v := .int .i64 an.v.2) rfl
    have hfin : StepPost G J w0 (an.put w7 (w.heap.size + 1)) bh bb s' (m + 1) an.e := by
      have hnF : w.heap.size + 1 ∉ F4 := unhide HNF4
      refine ⟨F4, na8, sa8, la8, nc8, sc8, lc8, (unhide K8).chgq hP kp (fun b hb hm => hnF (by simp at hm; rw [← hm]; exact hb)), (unhide N8).chgS kp (fun x hx => by simp at hx; rw [hx]; exact unhide HW0), fun he => ⟨unhide HDD he, ?_⟩⟩
      have := (unhide BK8).chg kp (fun y hy hm => by simp at hm; have hb := (unhide BK8).out y hy; exact unhide HB8 y hy hm)
      rw [unhide HSC]
      exact this
    have R0 := hide r0; have R1 := hide r1; have R2 := hide r2; have R3 := hide r3; have R4 := hide r4; have R5 := hide r5; have HFIN := hide hfin; clear bp kp r0 r1 r2 r3 r4 r5 hfin
    unfold Ans.put at R0 R1 R2 R3 R4 R5 HFIN

    go_wp2
    have r0 := unhide R0
    have r1 := unhide R1
    have r2 := unhide R2
    have r3 := unhide R3
    have r4 := unhide R4
    have r5 := unhide R5
    exact bodyPost_ret (v := .tuple #[.agg #[.int .i64 an.e, .int .i64 an.n, .bool an.b, .string an.s, .int .i64 an.v.1, .int .i64 an.v.2], .bool true]) (by simp [results, Try.results15, go_sem, r0, r1, r2, r3, r4, r5]) rfl ⟨rfl, unhide HFIN⟩

  | mem h e =>
    have HW00 := hide (show w0.heap.size ≤ w.heap.size from hnw.1.size)
    have HK := hide hask; have HHAN := hide hhan; have HNW := hide hnw1; have HBK := hide hbk1; have HB0 := hide hb0; have HB1 := hide hb1; have HLT := hide hlt; have HFL := hide hFlt; have HDD := hide hdead; have HALL := hide hall; have HALL2 := hide hall'; have HUP2 := hide hup'; have HLOW := hide hfl
    clear hask hhan hnw1 hbk1 hb0 hb1 hlt hFlt hdead hall hall' hup' hfl hk hk1 hnw hbk kb
    generalize handlesQ o (s.askQ o) = hq at *
    obtain ⟨x, one⟩ := hq
    simp only at *
    subst h
    generalize han : s.askQ o = an at *
    generalize hst : s.stepQ o = s' at *
    have HAN := hide han; have HST := hide hst; clear han hst
    have be11 : (an.e == 11) = false := by simp [e]
    have be0 : (an.e == 0) = false := by simp [e]
    have HE := hide e; clear e
    have o0 := (unhide HB0).cell_of (i := 0) (v := .int .i64 o.kind) rfl
    have o1 := (unhide HB0).cell_of (i := 1) (v := .int .i64 o.x) rfl
    have o2 := (unhide HB0).cell_of (i := 2) (v := .int .i64 o.y) rfl
    have o3 := (unhide HB0).cell_of (i := 3) (v := .int .i64 o.k.1) rfl
    have o4 := (unhide HB0).cell_of (i := 4) (v := .int .i64 o.k.2) rfl
    have o5 := (unhide HB0).cell_of (i := 5) (v := .int .i64 o.v.1) rfl
    have o6 := (unhide HB0).cell_of (i := 6) (v := .int .i64 o.v.2) rfl
    have o7 := (unhide HB0).cell_of (i := 7) (v := .string o.s) rfl
    go_enter Try.func15, Try.ntmps15
    go_wp2_with fail
    refine (unhide HK).mono ?_
    rintro e w4 ⟨F4, rfl, k4, st4⟩
    have n4 := (unhide HNW).stp st4
    have bk4 := (unhide HBK).stp st4
    have kc4 : Chg [] w4 (w4.alloc (.cells #[.int .i64 an.e, .int .i64 an.n, .bool an.b, .string an.s, .int .i64 an.v.1, .int .i64 an.v.2] 32)) := (Chg.refl [] w4).alloc _
    have hnF : ∀ x, w.heap.size ≤ x → x ∉ F := fun x hx hm => by have := unhide HFL x hm; omega
    have b04 := ((unhide HB0).chg st4.chg (hnF _ (Nat.le_refl _))).chg kc4 (by simp)
    have b14 := ((unhide HB1).chg st4.chg (hnF _ (Nat.le_succ _))).chg kc4 (by simp)
    have b24 : Blk (w4.alloc (.cells #[.int .i64 an.e, .int .i64 an.n, .bool an.b, .string an.s, .int .i64 an.v.1, .int .i64 an.v.2] 32)) w4.heap.size an.cells 32 := Blk.new w4 an.cells 32
    have hsz4 : w.heap.size + 1 < w4.heap.size := ((unhide HB1).chg st4.chg (hnF _ (Nat.le_succ _))).lt
    have HNF4 := hide (show w.heap.size + 1 ∉ F4 from fun hmm => by rcases st4.foot _ hmm with h8 | h8; exact hnF _ (Nat.le_succ _) h8; rw [size_alloc, size_alloc] at h8; omega)
    have HW0 := hide (show w0.heap.size ≤ w.heap.size + 1 from by have := unhide HW00; omega)
    have k5 := k4.chgq hP kc4 (by simp)
    have n5 := n4.chg kc4
    have bk5 := bk4.quiet kc4
    have K5 := hide k5; have N5 := hide n5; have BK5 := hide bk5; have B04 := hide b04; have B14 := hide b14; have B24 := hide b24; clear k5 n5 bk5 b04 b14 b24 k4 n4 bk4 st4 kc4 hnF o0 o1 o2 o3 o4 o5 o6 o7 HK HNW HBK HB0 HB1
    have o0 := (unhide B04).cell_of (i := 0) (v := .int .i64 o.kind) rfl
    have o1 := (unhide B04).cell_of (i := 1) (v := .int .i64 o.x) rfl
    have o2 := (unhide B04).cell_of (i := 2) (v := .int .i64 o.y) rfl
    have o3 := (unhide B04).cell_of (i := 3) (v := .int .i64 o.k.1) rfl
    have o4 := (unhide B04).cell_of (i := 4) (v := .int .i64 o.k.2) rfl
    have o5 := (unhide B04).cell_of (i := 5) (v := .int .i64 o.v.1) rfl
    have o6 := (unhide B04).cell_of (i := 6) (v := .int .i64 o.v.2) rfl
    have o7 := (unhide B04).cell_of (i := 7) (v := .string o.s) rfl
    have a0 := (unhide B24).cell_of (i := 0) (v := .int .i64 an.e) rfl
    have a1 := (unhide B24).cell_of (i := 1) (v := .int .i64 an.n) rfl
    have a2 := (unhide B24).cell_of (i := 2) (v := .bool an.b) rfl
    have a3 := (unhide B24).cell_of (i := 3) (v := .string an.s) rfl
    have a4 := (unhide B24).cell_of (i := 4) (v := .int .i64 an.v.1) rfl
    have a5 := (unhide B24).cell_of (i := 5) (v := .int .i64 an.v.2) rfl
    go_wp2_with fail
    refine (unhide HHAN _).mono ?_
    rintro e w6 ⟨rfl, kc6⟩
    have k6 := (unhide K5).chgq hP kc6 (by simp)
    have n6 := (unhide N5).chg kc6
    have bk6 := (unhide BK5).quiet kc6
    have b06 := (unhide B04).chg kc6 (by simp)
    have b16 := (unhide B14).chg kc6 (by simp)
    have b26 := (unhide B24).chg kc6 (by simp)
    have hlow := lowest_any bk6 (nums_nn (unhide HALL)) (by omega)
    have K6 := hide k6; have N6 := hide n6; have BK6 := hide bk6; have B06 := hide b06; have B16 := hide b16; have B26 := hide b26; have LOW := hide hlow; clear k6 n6 bk6 b06 b16 b26 hlow kc6 K5 N5 BK5 B04 B14 B24 o0 o1 o2 o3 o4 o5 o6 o7 a0 a1 a2 a3 a4 a5
    have o0 := (unhide B06).cell_of (i := 0) (v := .int .i64 o.kind) rfl
    have o1 := (unhide B06).cell_of (i := 1) (v := .int .i64 o.x) rfl
    have o2 := (unhide B06).cell_of (i := 2) (v := .int .i64 o.y) rfl
    have o3 := (unhide B06).cell_of (i := 3) (v := .int .i64 o.k.1) rfl
    have o4 := (unhide B06).cell_of (i := 4) (v := .int .i64 o.k.2) rfl
    have o5 := (unhide B06).cell_of (i := 5) (v := .int .i64 o.v.1) rfl
    have o6 := (unhide B06).cell_of (i := 6) (v := .int .i64 o.v.2) rfl
    have o7 := (unhide B06).cell_of (i := 7) (v := .string o.s) rfl
    have a0 := (unhide B26).cell_of (i := 0) (v := .int .i64 an.e) rfl
    have a1 := (unhide B26).cell_of (i := 1) (v := .int .i64 an.n) rfl
    have a2 := (unhide B26).cell_of (i := 2) (v := .bool an.b) rfl
    have a3 := (unhide B26).cell_of (i := 3) (v := .string an.s) rfl
    have a4 := (unhide B26).cell_of (i := 4) (v := .int .i64 an.v.1) rfl
    have a5 := (unhide B26).cell_of (i := 5) (v := .int .i64 an.v.2) rfl
    go_wp2_with fail
    refine (unhide LOW).mono ?_
    rintro e w7 ⟨rfl, h7⟩
    subst h7
    have z0 := (unhide B16).cell_of (i := 0) (v := .int .i64 0) rfl
    have z1 := (unhide B16).cell_of (i := 1) (v := .int .i64 0) rfl
    have z2 := (unhide B16).cell_of (i := 2) (v := .bool false) rfl
    have z3 := (unhide B16).cell_of (i := 3) (v := .string ⟨#[]⟩) rfl
    have z4 := (unhide B16).cell_of (i := 4) (v := .int .i64 0) rfl
    have z5 := (unhide B16).cell_of (i := 5) (v := .int .i64 0) rfl
    have zf0 := (unhide B16).frozen 0
    have zf1 := (unhide B16).frozen 1
    have zf2 := (unhide B16).frozen 2
    have zf3 := (unhide B16).frozen 3
    have zf4 := (unhide B16).frozen 4
    have zf5 := (unhide B16).frozen 5
    have kp := Ans.put_chg w7 (w.heap.size + 1) an
    have bp : Blk (an.put w7 (w.heap.size + 1)) (w.heap.size + 1) an.cells 32 := Ans.put_blk (c := ⟨0, 0, false, ⟨#[]⟩, (0, 0)⟩) (unhide B16)
    have r0 := bp.cell_of (i := 0) (v := .int .i64 an.e) rfl
    have r1 := bp.cell_of (i := 1) (v := .int .i64 an.n) rfl
    have r2 := bp.cell_of (i := 2) (v := .bool an.b) rfl
    have r3 := bp.cell_of (i := 3) (v := .string an.s) rfl
    have r4 := bp.cell_of (i := 4) (v := .int .i64 an.v.1) rfl
    have r5 := bp.cell_of (i := 5) (v := .int .i64 an.v.2) rfl
    have hfin : StepPost G J w0 (an.put w7 (w.heap.size + 1)) bh bb s' (m + 1) an.e := by
      have hnF : w.heap.size + 1 ∉ F4 := unhide HNF4
      refine ⟨F4, na, sa, la, nc, sc, lc, (unhide K6).chgq hP kp (fun b hb hm => hnF (by simp at hm; rw [← hm]; exact hb)), (unhide N6).chgS kp (fun x hx => by simp at hx; rw [hx]; exact unhide HW0), fun he => ⟨unhide HDD he, ?_⟩⟩
      exact absurd (unhide HE) he
    have R0 := hide r0; have R1 := hide r1; have R2 := hide r2; have R3 := hide r3; have R4 := hide r4; have R5 := hide r5; have HFIN := hide hfin; clear bp kp r0 r1 r2 r3 r4 r5 hfin
    unfold Ans.put at R0 R1 R2 R3 R4 R5 HFIN

    go_wp2
    have r0 := unhide R0
    have r1 := unhide R1
    have r2 := unhide R2
    have r3 := unhide R3
    have r4 := unhide R4
    have r5 := unhide R5
    exact bodyPost_ret (v := .tuple #[.agg #[.int .i64 an.e, .int .i64 an.n, .bool an.b, .string an.s, .int .i64 an.v.1, .int .i64 an.v.2], .bool true]) (by simp [results, Try.results15, go_sem, r0, r1, r2, r3, r4, r5]) rfl ⟨rfl, unhide HFIN⟩

  | full h e f c =>
    have HW00 := hide (show w0.heap.size ≤ w.heap.size from hnw.1.size)
    have HK := hide hask; have HHAN := hide hhan; have HNW := hide hnw1; have HBK := hide hbk1; have HB0 := hide hb0; have HB1 := hide hb1; have HLT := hide hlt; have HFL := hide hFlt; have HDD := hide hdead; have HALL := hide hall; have HALL2 := hide hall'; have HUP2 := hide hup'; have HLOW := hide hfl
    clear hask hhan hnw1 hbk1 hb0 hb1 hlt hFlt hdead hall hall' hup' hfl hk hk1 hnw hbk kb
    generalize handlesQ o (s.askQ o) = hq at *
    obtain ⟨x, one⟩ := hq
    simp only at *
    subst h
    generalize han : s.askQ o = an at *
    generalize hst : s.stepQ o = s' at *
    have HAN := hide han; have HST := hide hst; clear han hst
    have be11 : (an.e == 11) = true := by simp [e]
    have be0 : (an.e == 0) = false := by simp [e]
    have hl0 := unhide HLOW
    rw [f] at hl0
    simp only at hl0
    have HC := hide c; have HL0 := hide hl0; clear e c f hl0
    have o0 := (unhide HB0).cell_of (i := 0) (v := .int .i64 o.kind) rfl
    have o1 := (unhide HB0).cell_of (i := 1) (v := .int .i64 o.x) rfl
    have o2 := (unhide HB0).cell_of (i := 2) (v := .int .i64 o.y) rfl
    have o3 := (unhide HB0).cell_of (i := 3) (v := .int .i64 o.k.1) rfl
    have o4 := (unhide HB0).cell_of (i := 4) (v := .int .i64 o.k.2) rfl
    have o5 := (unhide HB0).cell_of (i := 5) (v := .int .i64 o.v.1) rfl
    have o6 := (unhide HB0).cell_of (i := 6) (v := .int .i64 o.v.2) rfl
    have o7 := (unhide HB0).cell_of (i := 7) (v := .string o.s) rfl
    go_enter Try.func15, Try.ntmps15
    go_wp2_with fail
    refine (unhide HK).mono ?_
    rintro e w4 ⟨F4, rfl, k4, st4⟩
    have n4 := (unhide HNW).stp st4
    have bk4 := (unhide HBK).stp st4
    have kc4 : Chg [] w4 (w4.alloc (.cells #[.int .i64 an.e, .int .i64 an.n, .bool an.b, .string an.s, .int .i64 an.v.1, .int .i64 an.v.2] 32)) := (Chg.refl [] w4).alloc _
    have hnF : ∀ x, w.heap.size ≤ x → x ∉ F := fun x hx hm => by have := unhide HFL x hm; omega
    have b04 := ((unhide HB0).chg st4.chg (hnF _ (Nat.le_refl _))).chg kc4 (by simp)
    have b14 := ((unhide HB1).chg st4.chg (hnF _ (Nat.le_succ _))).chg kc4 (by simp)
    have b24 : Blk (w4.alloc (.cells #[.int .i64 an.e, .int .i64 an.n, .bool an.b, .string an.s, .int .i64 an.v.1, .int .i64 an.v.2] 32)) w4.heap.size an.cells 32 := Blk.new w4 an.cells 32
    have hsz4 : w.heap.size + 1 < w4.heap.size := ((unhide HB1).chg st4.chg (hnF _ (Nat.le_succ _))).lt
    have HNF4 := hide (show w.heap.size + 1 ∉ F4 from fun hmm => by rcases st4.foot _ hmm with h8 | h8; exact hnF _ (Nat.le_succ _) h8; rw [size_alloc, size_alloc] at h8; omega)
    have HW0 := hide (show w0.heap.size ≤ w.heap.size + 1 from by have := unhide HW00; omega)
    have k5 := k4.chgq hP kc4 (by simp)
    have n5 := n4.chg kc4
    have bk5 := bk4.quiet kc4
    have K5 := hide k5; have N5 := hide n5; have BK5 := hide bk5; have B04 := hide b04; have B14 := hide b14; have B24 := hide b24; clear k5 n5 bk5 b04 b14 b24 k4 n4 bk4 st4 kc4 hnF o0 o1 o2 o3 o4 o5 o6 o7 HK HNW HBK HB0 HB1
    have o0 := (unhide B04).cell_of (i := 0) (v := .int .i64 o.kind) rfl
    have o1 := (unhide B04).cell_of (i := 1) (v := .int .i64 o.x) rfl
    have o2 := (unhide B04).cell_of (i := 2) (v := .int .i64 o.y) rfl
    have o3 := (unhide B04).cell_of (i := 3) (v := .int .i64 o.k.1) rfl
    have o4 := (unhide B04).cell_of (i := 4) (v := .int .i64 o.k.2) rfl
    have o5 := (unhide B04).cell_of (i := 5) (v := .int .i64 o.v.1) rfl
    have o6 := (unhide B04).cell_of (i := 6) (v := .int .i64 o.v.2) rfl
    have o7 := (unhide B04).cell_of (i := 7) (v := .string o.s) rfl
    have a0 := (unhide B24).cell_of (i := 0) (v := .int .i64 an.e) rfl
    have a1 := (unhide B24).cell_of (i := 1) (v := .int .i64 an.n) rfl
    have a2 := (unhide B24).cell_of (i := 2) (v := .bool an.b) rfl
    have a3 := (unhide B24).cell_of (i := 3) (v := .string an.s) rfl
    have a4 := (unhide B24).cell_of (i := 4) (v := .int .i64 an.v.1) rfl
    have a5 := (unhide B24).cell_of (i := 5) (v := .int .i64 an.v.2) rfl
    go_wp2_with fail
    refine (unhide HHAN _).mono ?_
    rintro e w6 ⟨rfl, kc6⟩
    have k6 := (unhide K5).chgq hP kc6 (by simp)
    have n6 := (unhide N5).chg kc6
    have bk6 := (unhide BK5).quiet kc6
    have b06 := (unhide B04).chg kc6 (by simp)
    have b16 := (unhide B14).chg kc6 (by simp)
    have b26 := (unhide B24).chg kc6 (by simp)
    have hlow := lowest_any bk6 (nums_nn (unhide HALL)) (by omega)
    have K6 := hide k6; have N6 := hide n6; have BK6 := hide bk6; have B06 := hide b06; have B16 := hide b16; have B26 := hide b26; have LOW := hide hlow; clear k6 n6 bk6 b06 b16 b26 hlow kc6 K5 N5 BK5 B04 B14 B24 o0 o1 o2 o3 o4 o5 o6 o7 a0 a1 a2 a3 a4 a5
    have o0 := (unhide B06).cell_of (i := 0) (v := .int .i64 o.kind) rfl
    have o1 := (unhide B06).cell_of (i := 1) (v := .int .i64 o.x) rfl
    have o2 := (unhide B06).cell_of (i := 2) (v := .int .i64 o.y) rfl
    have o3 := (unhide B06).cell_of (i := 3) (v := .int .i64 o.k.1) rfl
    have o4 := (unhide B06).cell_of (i := 4) (v := .int .i64 o.k.2) rfl
    have o5 := (unhide B06).cell_of (i := 5) (v := .int .i64 o.v.1) rfl
    have o6 := (unhide B06).cell_of (i := 6) (v := .int .i64 o.v.2) rfl
    have o7 := (unhide B06).cell_of (i := 7) (v := .string o.s) rfl
    have a0 := (unhide B26).cell_of (i := 0) (v := .int .i64 an.e) rfl
    have a1 := (unhide B26).cell_of (i := 1) (v := .int .i64 an.n) rfl
    have a2 := (unhide B26).cell_of (i := 2) (v := .bool an.b) rfl
    have a3 := (unhide B26).cell_of (i := 3) (v := .string an.s) rfl
    have a4 := (unhide B26).cell_of (i := 4) (v := .int .i64 an.v.1) rfl
    have a5 := (unhide B26).cell_of (i := 5) (v := .int .i64 an.v.2) rfl
    rw [unhide HL0] at LOW
    go_wp2_with fail
    refine (unhide LOW).mono ?_
    rintro e w7 ⟨rfl, h7⟩
    subst h7
    have z0 := (unhide B16).cell_of (i := 0) (v := .int .i64 0) rfl
    have z1 := (unhide B16).cell_of (i := 1) (v := .int .i64 0) rfl
    have z2 := (unhide B16).cell_of (i := 2) (v := .bool false) rfl
    have z3 := (unhide B16).cell_of (i := 3) (v := .string ⟨#[]⟩) rfl
    have z4 := (unhide B16).cell_of (i := 4) (v := .int .i64 0) rfl
    have z5 := (unhide B16).cell_of (i := 5) (v := .int .i64 0) rfl
    have zf0 := (unhide B16).frozen 0
    have zf1 := (unhide B16).frozen 1
    have zf2 := (unhide B16).frozen 2
    have zf3 := (unhide B16).frozen 3
    have zf4 := (unhide B16).frozen 4
    have zf5 := (unhide B16).frozen 5
    have kp := Ans.put_chg w7 (w.heap.size + 1) an
    have bp : Blk (an.put w7 (w.heap.size + 1)) (w.heap.size + 1) an.cells 32 := Ans.put_blk (c := ⟨0, 0, false, ⟨#[]⟩, (0, 0)⟩) (unhide B16)
    have r0 := bp.cell_of (i := 0) (v := .int .i64 an.e) rfl
    have r1 := bp.cell_of (i := 1) (v := .int .i64 an.n) rfl
    have r2 := bp.cell_of (i := 2) (v := .bool an.b) rfl
    have r3 := bp.cell_of (i := 3) (v := .string an.s) rfl
    have r4 := bp.cell_of (i := 4) (v := .int .i64 an.v.1) rfl
    have r5 := bp.cell_of (i := 5) (v := .int .i64 an.v.2) rfl
    have hfin : StepPost G J w0 (an.put w7 (w.heap.size + 1)) bh bb s' (m + 1) an.e := by
      have hnF : w.heap.size + 1 ∉ F4 := unhide HNF4
      refine ⟨F4, na, sa, la, nc, sc, lc, (unhide K6).chgq hP kp (fun b hb hm => hnF (by simp at hm; rw [← hm]; exact hb)), (unhide N6).chgS kp (fun x hx => by simp at hx; rw [hx]; exact unhide HW0), fun he => ⟨unhide HDD he, ?_⟩⟩
      have := (unhide BK6).chg kp (fun x hx hm => by simp at hm; have := unhide HLT x hx; omega)
      rw [(unhide HC).han, (unhide HC).sco]
      exact this
    have R0 := hide r0; have R1 := hide r1; have R2 := hide r2; have R3 := hide r3; have R4 := hide r4; have R5 := hide r5; have HFIN := hide hfin; clear bp kp r0 r1 r2 r3 r4 r5 hfin
    unfold Ans.put at R0 R1 R2 R3 R4 R5 HFIN

    go_wp2
    have r0 := unhide R0
    have r1 := unhide R1
    have r2 := unhide R2
    have r3 := unhide R3
    have r4 := unhide R4
    have r5 := unhide R5
    exact bodyPost_ret (v := .tuple #[.agg #[.int .i64 an.e, .int .i64 an.n, .bool an.b, .string an.s, .int .i64 an.v.1, .int .i64 an.v.2], .bool true]) (by simp [results, Try.results15, go_sem, r0, r1, r2, r3, r4, r5]) rfl ⟨rfl, unhide HFIN⟩

  | none h e kk c =>
    have HW00 := hide (show w0.heap.size ≤ w.heap.size from hnw.1.size)
    have HK := hide hask; have HHAN := hide hhan; have HNW := hide hnw1; have HBK := hide hbk1; have HB0 := hide hb0; have HB1 := hide hb1; have HLT := hide hlt; have HFL := hide hFlt; have HDD := hide hdead; have HALL := hide hall; have HALL2 := hide hall'; have HUP2 := hide hup'; have HLOW := hide hfl
    clear hask hhan hnw1 hbk1 hb0 hb1 hlt hFlt hdead hall hall' hup' hfl hk hk1 hnw hbk kb
    generalize handlesQ o (s.askQ o) = hq at *
    obtain ⟨x, one⟩ := hq
    simp only at *
    subst h
    generalize han : s.askQ o = an at *
    generalize hst : s.stepQ o = s' at *
    have HAN := hide han; have HST := hide hst; clear han hst
    have be11 : (an.e == 11) = false := by simp [e.1]
    have HC := hide c; have HKK := hide kk; clear e c kk
    have o0 := (unhide HB0).cell_of (i := 0) (v := .int .i64 o.kind) rfl
    have o1 := (unhide HB0).cell_of (i := 1) (v := .int .i64 o.x) rfl
    have o2 := (unhide HB0).cell_of (i := 2) (v := .int .i64 o.y) rfl
    have o3 := (unhide HB0).cell_of (i := 3) (v := .int .i64 o.k.1) rfl
    have o4 := (unhide HB0).cell_of (i := 4) (v := .int .i64 o.k.2) rfl
    have o5 := (unhide HB0).cell_of (i := 5) (v := .int .i64 o.v.1) rfl
    have o6 := (unhide HB0).cell_of (i := 6) (v := .int .i64 o.v.2) rfl
    have o7 := (unhide HB0).cell_of (i := 7) (v := .string o.s) rfl
    go_enter Try.func15, Try.ntmps15
    go_wp2_with fail
    refine (unhide HK).mono ?_
    rintro e w4 ⟨F4, rfl, k4, st4⟩
    have n4 := (unhide HNW).stp st4
    have bk4 := (unhide HBK).stp st4
    have kc4 : Chg [] w4 (w4.alloc (.cells #[.int .i64 an.e, .int .i64 an.n, .bool an.b, .string an.s, .int .i64 an.v.1, .int .i64 an.v.2] 32)) := (Chg.refl [] w4).alloc _
    have hnF : ∀ x, w.heap.size ≤ x → x ∉ F := fun x hx hm => by have := unhide HFL x hm; omega
    have b04 := ((unhide HB0).chg st4.chg (hnF _ (Nat.le_refl _))).chg kc4 (by simp)
    have b14 := ((unhide HB1).chg st4.chg (hnF _ (Nat.le_succ _))).chg kc4 (by simp)
    have b24 : Blk (w4.alloc (.cells #[.int .i64 an.e, .int .i64 an.n, .bool an.b, .string an.s, .int .i64 an.v.1, .int .i64 an.v.2] 32)) w4.heap.size an.cells 32 := Blk.new w4 an.cells 32
    have hsz4 : w.heap.size + 1 < w4.heap.size := ((unhide HB1).chg st4.chg (hnF _ (Nat.le_succ _))).lt
    have HNF4 := hide (show w.heap.size + 1 ∉ F4 from fun hmm => by rcases st4.foot _ hmm with h8 | h8; exact hnF _ (Nat.le_succ _) h8; rw [size_alloc, size_alloc] at h8; omega)
    have HW0 := hide (show w0.heap.size ≤ w.heap.size + 1 from by have := unhide HW00; omega)
    have k5 := k4.chgq hP kc4 (by simp)
    have n5 := n4.chg kc4
    have bk5 := bk4.quiet kc4
    have K5 := hide k5; have N5 := hide n5; have BK5 := hide bk5; have B04 := hide b04; have B14 := hide b14; have B24 := hide b24; clear k5 n5 bk5 b04 b14 b24 k4 n4 bk4 st4 kc4 hnF o0 o1 o2 o3 o4 o5 o6 o7 HK HNW HBK HB0 HB1
    have o0 := (unhide B04).cell_of (i := 0) (v := .int .i64 o.kind) rfl
    have o1 := (unhide B04).cell_of (i := 1) (v := .int .i64 o.x) rfl
    have o2 := (unhide B04).cell_of (i := 2) (v := .int .i64 o.y) rfl
    have o3 := (unhide B04).cell_of (i := 3) (v := .int .i64 o.k.1) rfl
    have o4 := (unhide B04).cell_of (i := 4) (v := .int .i64 o.k.2) rfl
    have o5 := (unhide B04).cell_of (i := 5) (v := .int .i64 o.v.1) rfl
    have o6 := (unhide B04).cell_of (i := 6) (v := .int .i64 o.v.2) rfl
    have o7 := (unhide B04).cell_of (i := 7) (v := .string o.s) rfl
    have a0 := (unhide B24).cell_of (i := 0) (v := .int .i64 an.e) rfl
    have a1 := (unhide B24).cell_of (i := 1) (v := .int .i64 an.n) rfl
    have a2 := (unhide B24).cell_of (i := 2) (v := .bool an.b) rfl
    have a3 := (unhide B24).cell_of (i := 3) (v := .string an.s) rfl
    have a4 := (unhide B24).cell_of (i := 4) (v := .int .i64 an.v.1) rfl
    have a5 := (unhide B24).cell_of (i := 5) (v := .int .i64 an.v.2) rfl
    go_wp2_with fail
    refine (unhide HHAN _).mono ?_
    rintro e w6 ⟨rfl, kc6⟩
    have k6 := (unhide K5).chgq hP kc6 (by simp)
    have n6 := (unhide N5).chg kc6
    have bk6 := (unhide BK5).quiet kc6
    have b06 := (unhide B04).chg kc6 (by simp)
    have b16 := (unhide B14).chg kc6 (by simp)
    have b26 := (unhide B24).chg kc6 (by simp)
    have hlow := lowest_any bk6 (nums_nn (unhide HALL)) (by omega)
    have K6 := hide k6; have N6 := hide n6; have BK6 := hide bk6; have B06 := hide b06; have B16 := hide b16; have B26 := hide b26; have LOW := hide hlow; clear k6 n6 bk6 b06 b16 b26 hlow kc6 K5 N5 BK5 B04 B14 B24 o0 o1 o2 o3 o4 o5 o6 o7 a0 a1 a2 a3 a4 a5
    have o0 := (unhide B06).cell_of (i := 0) (v := .int .i64 o.kind) rfl
    have o1 := (unhide B06).cell_of (i := 1) (v := .int .i64 o.x) rfl
    have o2 := (unhide B06).cell_of (i := 2) (v := .int .i64 o.y) rfl
    have o3 := (unhide B06).cell_of (i := 3) (v := .int .i64 o.k.1) rfl
    have o4 := (unhide B06).cell_of (i := 4) (v := .int .i64 o.k.2) rfl
    have o5 := (unhide B06).cell_of (i := 5) (v := .int .i64 o.v.1) rfl
    have o6 := (unhide B06).cell_of (i := 6) (v := .int .i64 o.v.2) rfl
    have o7 := (unhide B06).cell_of (i := 7) (v := .string o.s) rfl
    have a0 := (unhide B26).cell_of (i := 0) (v := .int .i64 an.e) rfl
    have a1 := (unhide B26).cell_of (i := 1) (v := .int .i64 an.n) rfl
    have a2 := (unhide B26).cell_of (i := 2) (v := .bool an.b) rfl
    have a3 := (unhide B26).cell_of (i := 3) (v := .string an.s) rfl
    have a4 := (unhide B26).cell_of (i := 4) (v := .int .i64 an.v.1) rfl
    have a5 := (unhide B26).cell_of (i := 5) (v := .int .i64 an.v.2) rfl
    have hgo : ∀ {Q : Prop}, ((an.e == 0) = false → Q) → ((an.e == 0) = true → (o.kind == 16) = false → (o.kind == 17) = false → (o.kind == 20) = false → Q) → Q := fun h1 h2 => by
      by_cases h0 : an.e = 0
      · have := unhide HKK h0
        exact h2 (by simp [h0]) (by simp [this.1]) (by simp [this.2.1]) (by simp [this.2.2])
      · exact h1 (by simp [h0])
    go_wp2_with fail
    refine (unhide LOW).mono ?_
    rintro e w7 ⟨rfl, h7⟩
    subst h7
    have z0 := (unhide B16).cell_of (i := 0) (v := .int .i64 0) rfl
    have z1 := (unhide B16).cell_of (i := 1) (v := .int .i64 0) rfl
    have z2 := (unhide B16).cell_of (i := 2) (v := .bool false) rfl
    have z3 := (unhide B16).cell_of (i := 3) (v := .string ⟨#[]⟩) rfl
    have z4 := (unhide B16).cell_of (i := 4) (v := .int .i64 0) rfl
    have z5 := (unhide B16).cell_of (i := 5) (v := .int .i64 0) rfl
    have zf0 := (unhide B16).frozen 0
    have zf1 := (unhide B16).frozen 1
    have zf2 := (unhide B16).frozen 2
    have zf3 := (unhide B16).frozen 3
    have zf4 := (unhide B16).frozen 4
    have zf5 := (unhide B16).frozen 5
    have kp := Ans.put_chg w7 (w.heap.size + 1) an
    have bp : Blk (an.put w7 (w.heap.size + 1)) (w.heap.size + 1) an.cells 32 := Ans.put_blk (c := ⟨0, 0, false, ⟨#[]⟩, (0, 0)⟩) (unhide B16)
    have r0 := bp.cell_of (i := 0) (v := .int .i64 an.e) rfl
    have r1 := bp.cell_of (i := 1) (v := .int .i64 an.n) rfl
    have r2 := bp.cell_of (i := 2) (v := .bool an.b) rfl
    have r3 := bp.cell_of (i := 3) (v := .string an.s) rfl
    have r4 := bp.cell_of (i := 4) (v := .int .i64 an.v.1) rfl
    have r5 := bp.cell_of (i := 5) (v := .int .i64 an.v.2) rfl
    have hfin : StepPost G J w0 (an.put w7 (w.heap.size + 1)) bh bb s' (m + 1) an.e := by
      have hnF : w.heap.size + 1 ∉ F4 := unhide HNF4
      refine ⟨F4, na, sa, la, nc, sc, lc, (unhide K6).chgq hP kp (fun b hb hm => hnF (by simp at hm; rw [← hm]; exact hb)), (unhide N6).chgS kp (fun x hx => by simp at hx; rw [hx]; exact unhide HW0), fun he => ⟨unhide HDD he, ?_⟩⟩
      have := (unhide BK6).chg kp (fun x hx hm => by simp at hm; have := unhide HLT x hx; omega)
      rw [(unhide HC).han, (unhide HC).sco]
      exact this
    have R0 := hide r0; have R1 := hide r1; have R2 := hide r2; have R3 := hide r3; have R4 := hide r4; have R5 := hide r5; have HFIN := hide hfin; clear bp kp r0 r1 r2 r3 r4 r5 hfin
    unfold Ans.put at R0 R1 R2 R3 R4 R5 HFIN

    refine hgo (fun be0 => ?_) (fun be0 q1 q2 q3 => ?_)
    all_goals clear hgo
    all_goals go_wp2
    all_goals have r0 := unhide R0
    all_goals have r1 := unhide R1
    all_goals have r2 := unhide R2
    all_goals have r3 := unhide R3
    all_goals have r4 := unhide R4
    all_goals have r5 := unhide R5
    all_goals exact bodyPost_ret (v := .tuple #[.agg #[.int .i64 an.e, .int .i64 an.n, .bool an.b, .string an.s, .int .i64 an.v.1, .int .i64 an.v.2], .bool true]) (by simp [results, Try.results15, go_sem, r0, r1, r2, r3, r4, r5]) rfl ⟨rfl, unhide HFIN⟩

  | opens h e kk n a b =>
    have HW00 := hide (show w0.heap.size ≤ w.heap.size from hnw.1.size)
    have HK := hide hask; have HHAN := hide hhan; have HNW := hide hnw1; have HBK := hide hbk1; have HB0 := hide hb0; have HB1 := hide hb1; have HLT := hide hlt; have HFL := hide hFlt; have HDD := hide hdead; have HALL := hide hall; have HALL2 := hide hall'; have HUP2 := hide hup'; have HLOW := hide hfl
    clear hask hhan hnw1 hbk1 hb0 hb1 hlt hFlt hdead hall hall' hup' hfl hk hk1 hnw hbk kb
    generalize handlesQ o (s.askQ o) = hq at *
    obtain ⟨x, one⟩ := hq
    simp only at *
    subst h
    generalize han : s.askQ o = an at *
    generalize hst : s.stepQ o = s' at *
    have HAN := hide han; have HST := hide hst; clear han hst
    have be11 : (an.e == 11) = false := by simp [e]
    have be0 : (an.e == 0) = true := by simp [e]
    have bk1 : (o.kind == 16) = true := by simp [kk]
    have bnn : (an.n == s.scopes + 1) = true := by simp [n]
    have HHA := hide a; have HHB := hide b; clear e kk n a b
    have o0 := (unhide HB0).cell_of (i := 0) (v := .int .i64 o.kind) rfl
    have o1 := (unhide HB0).cell_of (i := 1) (v := .int .i64 o.x) rfl
    have o2 := (unhide HB0).cell_of (i := 2) (v := .int .i64 o.y) rfl
    have o3 := (unhide HB0).cell_of (i := 3) (v := .int .i64 o.k.1) rfl
    have o4 := (unhide HB0).cell_of (i := 4) (v := .int .i64 o.k.2) rfl
    have o5 := (unhide HB0).cell_of (i := 5) (v := .int .i64 o.v.1) rfl
    have o6 := (unhide HB0).cell_of (i := 6) (v := .int .i64 o.v.2) rfl
    have o7 := (unhide HB0).cell_of (i := 7) (v := .string o.s) rfl
    go_enter Try.func15, Try.ntmps15
    go_wp2_with fail
    refine (unhide HK).mono ?_
    rintro e w4 ⟨F4, rfl, k4, st4⟩
    have n4 := (unhide HNW).stp st4
    have bk4 := (unhide HBK).stp st4
    have kc4 : Chg [] w4 (w4.alloc (.cells #[.int .i64 an.e, .int .i64 an.n, .bool an.b, .string an.s, .int .i64 an.v.1, .int .i64 an.v.2] 32)) := (Chg.refl [] w4).alloc _
    have hnF : ∀ x, w.heap.size ≤ x → x ∉ F := fun x hx hm => by have := unhide HFL x hm; omega
    have b04 := ((unhide HB0).chg st4.chg (hnF _ (Nat.le_refl _))).chg kc4 (by simp)
    have b14 := ((unhide HB1).chg st4.chg (hnF _ (Nat.le_succ _))).chg kc4 (by simp)
    have b24 : Blk (w4.alloc (.cells #[.int .i64 an.e, .int .i64 an.n, .bool an.b, .string an.s, .int .i64 an.v.1, .int .i64 an.v.2] 32)) w4.heap.size an.cells 32 := Blk.new w4 an.cells 32
    have hsz4 : w.heap.size + 1 < w4.heap.size := ((unhide HB1).chg st4.chg (hnF _ (Nat.le_succ _))).lt
    have HNF4 := hide (show w.heap.size + 1 ∉ F4 from fun hmm => by rcases st4.foot _ hmm with h8 | h8; exact hnF _ (Nat.le_succ _) h8; rw [size_alloc, size_alloc] at h8; omega)
    have HW0 := hide (show w0.heap.size ≤ w.heap.size + 1 from by have := unhide HW00; omega)
    have k5 := k4.chgq hP kc4 (by simp)
    have n5 := n4.chg kc4
    have bk5 := bk4.quiet kc4
    have K5 := hide k5; have N5 := hide n5; have BK5 := hide bk5; have B04 := hide b04; have B14 := hide b14; have B24 := hide b24; clear k5 n5 bk5 b04 b14 b24 k4 n4 bk4 st4 kc4 hnF o0 o1 o2 o3 o4 o5 o6 o7 HK HNW HBK HB0 HB1
    have o0 := (unhide B04).cell_of (i := 0) (v := .int .i64 o.kind) rfl
    have o1 := (unhide B04).cell_of (i := 1) (v := .int .i64 o.x) rfl
    have o2 := (unhide B04).cell_of (i := 2) (v := .int .i64 o.y) rfl
    have o3 := (unhide B04).cell_of (i := 3) (v := .int .i64 o.k.1) rfl
    have o4 := (unhide B04).cell_of (i := 4) (v := .int .i64 o.k.2) rfl
    have o5 := (unhide B04).cell_of (i := 5) (v := .int .i64 o.v.1) rfl
    have o6 := (unhide B04).cell_of (i := 6) (v := .int .i64 o.v.2) rfl
    have o7 := (unhide B04).cell_of (i := 7) (v := .string o.s) rfl
    have a0 := (unhide B24).cell_of (i := 0) (v := .int .i64 an.e) rfl
    have a1 := (unhide B24).cell_of (i := 1) (v := .int .i64 an.n) rfl
    have a2 := (unhide B24).cell_of (i := 2) (v := .bool an.b) rfl
    have a3 := (unhide B24).cell_of (i := 3) (v := .string an.s) rfl
    have a4 := (unhide B24).cell_of (i := 4) (v := .int .i64 an.v.1) rfl
    have a5 := (unhide B24).cell_of (i := 5) (v := .int .i64 an.v.2) rfl
    go_wp2_with fail
    refine (unhide HHAN _).mono ?_
    rintro e w6 ⟨rfl, kc6⟩
    have k6 := (unhide K5).chgq hP kc6 (by simp)
    have n6 := (unhide N5).chg kc6
    have bk6 := (unhide BK5).quiet kc6
    have b06 := (unhide B04).chg kc6 (by simp)
    have b16 := (unhide B14).chg kc6 (by simp)
    have b26 := (unhide B24).chg kc6 (by simp)
    have hlow := lowest_any bk6 (nums_nn (unhide HALL)) (by omega)
    have K6 := hide k6; have N6 := hide n6; have BK6 := hide bk6; have B06 := hide b06; have B16 := hide b16; have B26 := hide b26; have LOW := hide hlow; clear k6 n6 bk6 b06 b16 b26 hlow kc6 K5 N5 BK5 B04 B14 B24 o0 o1 o2 o3 o4 o5 o6 o7 a0 a1 a2 a3 a4 a5
    have o0 := (unhide B06).cell_of (i := 0) (v := .int .i64 o.kind) rfl
    have o1 := (unhide B06).cell_of (i := 1) (v := .int .i64 o.x) rfl
    have o2 := (unhide B06).cell_of (i := 2) (v := .int .i64 o.y) rfl
    have o3 := (unhide B06).cell_of (i := 3) (v := .int .i64 o.k.1) rfl
    have o4 := (unhide B06).cell_of (i := 4) (v := .int .i64 o.k.2) rfl
    have o5 := (unhide B06).cell_of (i := 5) (v := .int .i64 o.v.1) rfl
    have o6 := (unhide B06).cell_of (i := 6) (v := .int .i64 o.v.2) rfl
    have o7 := (unhide B06).cell_of (i := 7) (v := .string o.s) rfl
    have a0 := (unhide B26).cell_of (i := 0) (v := .int .i64 an.e) rfl
    have a1 := (unhide B26).cell_of (i := 1) (v := .int .i64 an.n) rfl
    have a2 := (unhide B26).cell_of (i := 2) (v := .bool an.b) rfl
    have a3 := (unhide B26).cell_of (i := 3) (v := .string an.s) rfl
    have a4 := (unhide B26).cell_of (i := 4) (v := .int .i64 an.v.1) rfl
    have a5 := (unhide B26).cell_of (i := 5) (v := .int .i64 an.v.2) rfl
    go_wp2_with fail
    refine (unhide LOW).mono ?_
    rintro e w7 ⟨rfl, h7⟩
    subst h7
    obtain ⟨_, _, _, c35⟩ := (unhide BK6).cells
    have f35 := (unhide BK6).blk.frozen 35
    go_wp2_with fail
    go_quiet (fail)
    have kc8 : Chg [bb] w7 ((w7.setCell ⟨bb, 35, none⟩ (.int .i64 (s.scopes + 1))).drewN nq) := ((Chg.refl _ w7).setCell (.inl (by simp)) _).drewN _
    have bk8 := ((unhide BK6).setOpen (s.scopes + 1)).quiet ((Chg.refl [] _).drewN nq)
    have k8 := (unhide K6).chgq hP kc8 (fun b hb hm => ((unhide BK6).out b (by simp at hm; rw [hm]; exact List.mem_cons_self)).1 hb)
    have n8 := (unhide N6).chgS kc8 (fun b hb => ((unhide BK6).out b (by simp at hb; rw [hb]; exact List.mem_cons_self)).2)
    have hbbl := unhide HLT bb List.mem_cons_self
    have b08 := (unhide B06).chg kc8 (by simp; omega)
    have b18 := (unhide B16).chg kc8 (by simp; omega)
    have b28 := (unhide B26).chg kc8 (by simp; omega)
    generalize (w7.setCell ⟨bb, 35, none⟩ (.int .i64 (s.scopes + 1))).drewN nq = w8 at *
    rw [← unhide HHB, ← unhide HHA] at bk8
    have K8 := hide k8; have N8 := hide n8; have BK8 := hide bk8; have B08 := hide b08; have B18 := hide b18; have B28 := hide b28; clear k8 n8 bk8 b08 b18 b28 kc8 K6 N6 BK6 B06 B16 B26 o0 o1 o2 o3 o4 o5 o6 o7 a0 a1 a2 a3 a4 a5 c35 f35
    have o0 := (unhide B08).cell_of (i := 0) (v := .int .i64 o.kind) rfl
    have o1 := (unhide B08).cell_of (i := 1) (v := .int .i64 o.x) rfl
    have o2 := (unhide B08).cell_of (i := 2) (v := .int .i64 o.y) rfl
    have o3 := (unhide B08).cell_of (i := 3) (v := .int .i64 o.k.1) rfl
    have o4 := (unhide B08).cell_of (i := 4) (v := .int .i64 o.k.2) rfl
    have o5 := (unhide B08).cell_of (i := 5) (v := .int .i64 o.v.1) rfl
    have o6 := (unhide B08).cell_of (i := 6) (v := .int .i64 o.v.2) rfl
    have o7 := (unhide B08).cell_of (i := 7) (v := .string o.s) rfl
    have a0 := (unhide B28).cell_of (i := 0) (v := .int .i64 an.e) rfl
    have a1 := (unhide B28).cell_of (i := 1) (v := .int .i64 an.n) rfl
    have a2 := (unhide B28).cell_of (i := 2) (v := .bool an.b) rfl
    have a3 := (unhide B28).cell_of (i := 3) (v := .string an.s) rfl
    have a4 := (unhide B28).cell_of (i := 4) (v := .int .i64 an.v.1) rfl
    have a5 := (unhide B28).cell_of (i := 5) (v := .int .i64 an.v.2) rfl
    have z0 := (unhide B18).cell_of (i := 0) (v := .int .i64 0) rfl
    have z1 := (unhide B18).cell_of (i := 1) (v := .int .i64 0) rfl
    have z2 := (unhide B18).cell_of (i := 2) (v := .bool false) rfl
    have z3 := (unhide B18).cell_of (i := 3) (v := .string ⟨#[]⟩) rfl
    have z4 := (unhide B18).cell_of (i := 4) (v := .int .i64 0) rfl
    have z5 := (unhide B18).cell_of (i := 5) (v := .int .i64 0) rfl
    have zf0 := (unhide B18).frozen 0
    have zf1 := (unhide B18).frozen 1
    have zf2 := (unhide B18).frozen 2
    have zf3 := (unhide B18).frozen 3
    have zf4 := (unhide B18).frozen 4
    have zf5 := (unhide B18).frozen 5
    have kp := Ans.put_chg w8 (w.heap.size + 1) an
    have bp : Blk (an.put w8 (w.heap.size + 1)) (w.heap.size + 1) an.cells 32 := Ans.put_blk (c := ⟨0, 0, false, ⟨#[]⟩, (0, 0)⟩) (unhide B18)
    have r0 := bp.cell_of (i := 0) (v := .int .i64 an.e) rfl
    have r1 := bp.cell_of (i := 1) (v := .int .i64 an.n) rfl
    have r2 := bp.cell_of (i := 2) (v := .bool an.b) rfl
    have r3 := bp.cell_of (i := 3) (v := .string an.s) rfl
    have r4 := bp.cell_of (i := 4) (v := .int .i64 an.v.1) rfl
    have r5 := bp.cell_of (i := 5) (v := .int .i64 an.v.2) rfl
    have hfin : StepPost G J w0 (an.put w8 (w.heap.size + 1)) bh bb s' (m + 1) an.e := by
      have hnF : w.heap.size + 1 ∉ F4 := unhide HNF4
      refine ⟨F4, na, sa, la, nc, sc, lc, (unhide K8).chgq hP kp (fun b hb hm => hnF (by simp at hm; rw [← hm]; exact hb)), (unhide N8).chgS kp (fun x hx => by simp at hx; rw [hx]; exact unhide HW0), fun he => ⟨unhide HDD he, ?_⟩⟩
      exact (unhide BK8).chg kp (fun x hx hm => by simp at hm; have := unhide HLT x hx; omega)
    have R0 := hide r0; have R1 := hide r1; have R2 := hide r2; have R3 := hide r3; have R4 := hide r4; have R5 := hide r5; have HFIN := hide hfin; clear bp kp r0 r1 r2 r3 r4 r5 hfin
    unfold Ans.put at R0 R1 R2 R3 R4 R5 HFIN

    go_wp2
    have r0 := unhide R0
    have r1 := unhide R1
    have r2 := unhide R2
    have r3 := unhide R3
    have r4 := unhide R4
    have r5 := unhide R5
    exact bodyPost_ret (v := .tuple #[.agg #[.int .i64 an.e, .int .i64 an.n, .bool an.b, .string an.s, .int .i64 an.v.1, .int .i64 an.v.2], .bool true]) (by simp [results, Try.results15, go_sem, r0, r1, r2, r3, r4, r5]) rfl ⟨rfl, unhide HFIN⟩

  | ends h e kk a b =>
    have HW00 := hide (show w0.heap.size ≤ w.heap.size from hnw.1.size)
    have HK := hide hask; have HHAN := hide hhan; have HNW := hide hnw1; have HBK := hide hbk1; have HB0 := hide hb0; have HB1 := hide hb1; have HLT := hide hlt; have HFL := hide hFlt; have HDD := hide hdead; have HALL := hide hall; have HALL2 := hide hall'; have HUP2 := hide hup'; have HLOW := hide hfl
    clear hask hhan hnw1 hbk1 hb0 hb1 hlt hFlt hdead hall hall' hup' hfl hk hk1 hnw hbk kb
    generalize handlesQ o (s.askQ o) = hq at *
    obtain ⟨x, one⟩ := hq
    simp only at *
    subst h
    generalize han : s.askQ o = an at *
    generalize hst : s.stepQ o = s' at *
    have HAN := hide han; have HST := hide hst; clear han hst
    have be11 : (an.e == 11) = false := by simp [e]
    have be0 : (an.e == 0) = true := by simp [e]
    have bk1 : (o.kind == 16) = false := by rcases kk with h | h <;> simp [h]
    have hgo : ∀ (Q : Prop), ((o.kind == 17) = true → True → Q) → ((o.kind == 17) = false → (o.kind == 20) = true → Q) → Q := fun Q h1 h2 => by
      rcases kk with h | h
      · exact h1 (by simp [h]) trivial
      · exact h2 (by simp [h]) (by simp [h])
    have HGO := hide hgo; have HHA := hide a; have HHB := hide b; clear e kk a b hgo
    have o0 := (unhide HB0).cell_of (i := 0) (v := .int .i64 o.kind) rfl
    have o1 := (unhide HB0).cell_of (i := 1) (v := .int .i64 o.x) rfl
    have o2 := (unhide HB0).cell_of (i := 2) (v := .int .i64 o.y) rfl
    have o3 := (unhide HB0).cell_of (i := 3) (v := .int .i64 o.k.1) rfl
    have o4 := (unhide HB0).cell_of (i := 4) (v := .int .i64 o.k.2) rfl
    have o5 := (unhide HB0).cell_of (i := 5) (v := .int .i64 o.v.1) rfl
    have o6 := (unhide HB0).cell_of (i := 6) (v := .int .i64 o.v.2) rfl
    have o7 := (unhide HB0).cell_of (i := 7) (v := .string o.s) rfl
    go_enter Try.func15, Try.ntmps15
    go_wp2_with fail
    refine (unhide HK).mono ?_
    rintro e w4 ⟨F4, rfl, k4, st4⟩
    have n4 := (unhide HNW).stp st4
    have bk4 := (unhide HBK).stp st4
    have kc4 : Chg [] w4 (w4.alloc (.cells #[.int .i64 an.e, .int .i64 an.n, .bool an.b, .string an.s, .int .i64 an.v.1, .int .i64 an.v.2] 32)) := (Chg.refl [] w4).alloc _
    have hnF : ∀ x, w.heap.size ≤ x → x ∉ F := fun x hx hm => by have := unhide HFL x hm; omega
    have b04 := ((unhide HB0).chg st4.chg (hnF _ (Nat.le_refl _))).chg kc4 (by simp)
    have b14 := ((unhide HB1).chg st4.chg (hnF _ (Nat.le_succ _))).chg kc4 (by simp)
    have b24 : Blk (w4.alloc (.cells #[.int .i64 an.e, .int .i64 an.n, .bool an.b, .string an.s, .int .i64 an.v.1, .int .i64 an.v.2] 32)) w4.heap.size an.cells 32 := Blk.new w4 an.cells 32
    have hsz4 : w.heap.size + 1 < w4.heap.size := ((unhide HB1).chg st4.chg (hnF _ (Nat.le_succ _))).lt
    have HNF4 := hide (show w.heap.size + 1 ∉ F4 from fun hmm => by rcases st4.foot _ hmm with h8 | h8; exact hnF _ (Nat.le_succ _) h8; rw [size_alloc, size_alloc] at h8; omega)
    have HW0 := hide (show w0.heap.size ≤ w.heap.size + 1 from by have := unhide HW00; omega)
    have k5 := k4.chgq hP kc4 (by simp)
    have n5 := n4.chg kc4
    have bk5 := bk4.quiet kc4
    have K5 := hide k5; have N5 := hide n5; have BK5 := hide bk5; have B04 := hide b04; have B14 := hide b14; have B24 := hide b24; clear k5 n5 bk5 b04 b14 b24 k4 n4 bk4 st4 kc4 hnF o0 o1 o2 o3 o4 o5 o6 o7 HK HNW HBK HB0 HB1
    have o0 := (unhide B04).cell_of (i := 0) (v := .int .i64 o.kind) rfl
    have o1 := (unhide B04).cell_of (i := 1) (v := .int .i64 o.x) rfl
    have o2 := (unhide B04).cell_of (i := 2) (v := .int .i64 o.y) rfl
    have o3 := (unhide B04).cell_of (i := 3) (v := .int .i64 o.k.1) rfl
    have o4 := (unhide B04).cell_of (i := 4) (v := .int .i64 o.k.2) rfl
    have o5 := (unhide B04).cell_of (i := 5) (v := .int .i64 o.v.1) rfl
    have o6 := (unhide B04).cell_of (i := 6) (v := .int .i64 o.v.2) rfl
    have o7 := (unhide B04).cell_of (i := 7) (v := .string o.s) rfl
    have a0 := (unhide B24).cell_of (i := 0) (v := .int .i64 an.e) rfl
    have a1 := (unhide B24).cell_of (i := 1) (v := .int .i64 an.n) rfl
    have a2 := (unhide B24).cell_of (i := 2) (v := .bool an.b) rfl
    have a3 := (unhide B24).cell_of (i := 3) (v := .string an.s) rfl
    have a4 := (unhide B24).cell_of (i := 4) (v := .int .i64 an.v.1) rfl
    have a5 := (unhide B24).cell_of (i := 5) (v := .int .i64 an.v.2) rfl
    go_wp2_with fail
    refine (unhide HHAN _).mono ?_
    rintro e w6 ⟨rfl, kc6⟩
    have k6 := (unhide K5).chgq hP kc6 (by simp)
    have n6 := (unhide N5).chg kc6
    have bk6 := (unhide BK5).quiet kc6
    have b06 := (unhide B04).chg kc6 (by simp)
    have b16 := (unhide B14).chg kc6 (by simp)
    have b26 := (unhide B24).chg kc6 (by simp)
    have hlow := lowest_any bk6 (nums_nn (unhide HALL)) (by omega)
    have K6 := hide k6; have N6 := hide n6; have BK6 := hide bk6; have B06 := hide b06; have B16 := hide b16; have B26 := hide b26; have LOW := hide hlow; clear k6 n6 bk6 b06 b16 b26 hlow kc6 K5 N5 BK5 B04 B14 B24 o0 o1 o2 o3 o4 o5 o6 o7 a0 a1 a2 a3 a4 a5
    have o0 := (unhide B06).cell_of (i := 0) (v := .int .i64 o.kind) rfl
    have o1 := (unhide B06).cell_of (i := 1) (v := .int .i64 o.x) rfl
    have o2 := (unhide B06).cell_of (i := 2) (v := .int .i64 o.y) rfl
    have o3 := (unhide B06).cell_of (i := 3) (v := .int .i64 o.k.1) rfl
    have o4 := (unhide B06).cell_of (i := 4) (v := .int .i64 o.k.2) rfl
    have o5 := (unhide B06).cell_of (i := 5) (v := .int .i64 o.v.1) rfl
    have o6 := (unhide B06).cell_of (i := 6) (v := .int .i64 o.v.2) rfl
    have o7 := (unhide B06).cell_of (i := 7) (v := .string o.s) rfl
    have a0 := (unhide B26).cell_of (i := 0) (v := .int .i64 an.e) rfl
    have a1 := (unhide B26).cell_of (i := 1) (v := .int .i64 an.n) rfl
    have a2 := (unhide B26).cell_of (i := 2) (v := .bool an.b) rfl
    have a3 := (unhide B26).cell_of (i := 3) (v := .string an.s) rfl
    have a4 := (unhide B26).cell_of (i := 4) (v := .int .i64 an.v.1) rfl
    have a5 := (unhide B26).cell_of (i := 5) (v := .int .i64 an.v.2) rfl
    go_wp2_with fail
    refine (unhide LOW).mono ?_
    rintro e w7 ⟨rfl, h7⟩
    subst h7
    have hends := ends_book (unhide BK6) (by omega) o hscs
    unfold LOp.val at hends
    have ENDS := hide hends; clear hends
    refine unhide HGO _ (fun q1 q2 => ?_) (fun q1 q2 => ?_)
    all_goals clear HGO
    · go_wp2_with fail
      refine (unhide ENDS).mono ?_
      rintro e w8 ⟨rfl, bk8, kc8⟩
      have hsub : ∀ y ∈ bb :: ab la, y ∈ bb :: (ab na ++ (ab sa ++ ab la)) := fun y hy => by rcases List.mem_cons.1 hy with h | h; simp [h]; simp [h]
      have k8 := (unhide K6).chgq hP kc8 (fun b hb hm => ((unhide BK6).out b (hsub b hm)).1 hb)
      have n8 := (unhide N6).chgS kc8 (fun b hb => ((unhide BK6).out b (hsub b hb)).2)
      have hni : ∀ y, w.heap.size ≤ y → y ∉ bb :: ab la := fun y hy hm => by have := unhide HLT y (hsub y hm); omega
      have b08 := (unhide B06).chg kc8 (hni _ (Nat.le_refl _))
      have b18 := (unhide B16).chg kc8 (hni _ (Nat.le_succ _))
      have b28 := (unhide B26).chg kc8 (hni _ (by omega))
      rw [← unhide HHB, ← unhide HHA] at bk8
      have K8 := hide k8; have N8 := hide n8; have BK8 := hide bk8; have B08 := hide b08; have B18 := hide b18; have B28 := hide b28; clear k8 n8 bk8 b08 b18 b28 kc8 hni hsub K6 N6 BK6 B06 B16 B26 o0 o1 o2 o3 o4 o5 o6 o7 a0 a1 a2 a3 a4 a5 ENDS
      have o0 := (unhide B08).cell_of (i := 0) (v := .int .i64 o.kind) rfl
      have o1 := (unhide B08).cell_of (i := 1) (v := .int .i64 o.x) rfl
      have o2 := (unhide B08).cell_of (i := 2) (v := .int .i64 o.y) rfl
      have o3 := (unhide B08).cell_of (i := 3) (v := .int .i64 o.k.1) rfl
      have o4 := (unhide B08).cell_of (i := 4) (v := .int .i64 o.k.2) rfl
      have o5 := (unhide B08).cell_of (i := 5) (v := .int .i64 o.v.1) rfl
      have o6 := (unhide B08).cell_of (i := 6) (v := .int .i64 o.v.2) rfl
      have o7 := (unhide B08).cell_of (i := 7) (v := .string o.s) rfl
      have a0 := (unhide B28).cell_of (i := 0) (v := .int .i64 an.e) rfl
      have a1 := (unhide B28).cell_of (i := 1) (v := .int .i64 an.n) rfl
      have a2 := (unhide B28).cell_of (i := 2) (v := .bool an.b) rfl
      have a3 := (unhide B28).cell_of (i := 3) (v := .string an.s) rfl
      have a4 := (unhide B28).cell_of (i := 4) (v := .int .i64 an.v.1) rfl
      have a5 := (unhide B28).cell_of (i := 5) (v := .int .i64 an.v.2) rfl
      have z0 := (unhide B18).cell_of (i := 0) (v := .int .i64 0) rfl
      have z1 := (unhide B18).cell_of (i := 1) (v := .int .i64 0) rfl
      have z2 := (unhide B18).cell_of (i := 2) (v := .bool false) rfl
      have z3 := (unhide B18).cell_of (i := 3) (v := .string ⟨#[]⟩) rfl
      have z4 := (unhide B18).cell_of (i := 4) (v := .int .i64 0) rfl
      have z5 := (unhide B18).cell_of (i := 5) (v := .int .i64 0) rfl
      have zf0 := (unhide B18).frozen 0
      have zf1 := (unhide B18).frozen 1
      have zf2 := (unhide B18).frozen 2
      have zf3 := (unhide B18).frozen 3
      have zf4 := (unhide B18).frozen 4
      have zf5 := (unhide B18).frozen 5
      have kp := Ans.put_chg w8 (w.heap.size + 1) an
      have bp : Blk (an.put w8 (w.heap.size + 1)) (w.heap.size + 1) an.cells 32 := Ans.put_blk (c := ⟨0, 0, false, ⟨#[]⟩, (0, 0)⟩) (unhide B18)
      have r0 := bp.cell_of (i := 0) (v := .int .i64 an.e) rfl
      have r1 := bp.cell_of (i := 1) (v := .int .i64 an.n) rfl
      have r2 := bp.cell_of (i := 2) (v := .bool an.b) rfl
      have r3 := bp.cell_of (i := 3) (v := .string an.s) rfl
      have r4 := bp.cell_of (i := 4) (v := .int .i64 an.v.1) rfl
      have r5 := bp.cell_of (i := 5) (v := .int .i64 an.v.2) rfl
      have hfin : StepPost G J w0 (an.put w8 (w.heap.size + 1)) bh bb s' (m + 1) an.e := by
        have hnF : w.heap.size + 1 ∉ F4 := unhide HNF4
        refine ⟨F4, na, sa, la, nc, sc, lc, (unhide K8).chgq hP kp (fun b hb hm => hnF (by simp at hm; rw [← hm]; exact hb)), (unhide N8).chgS kp (fun x hx => by simp at hx; rw [hx]; exact unhide HW0), fun he => ⟨unhide HDD he, ?_⟩⟩
        exact (unhide BK8).chg kp (fun x hx hm => by simp at hm; have := unhide HLT x hx; omega)
      have R0 := hide r0; have R1 := hide r1; have R2 := hide r2; have R3 := hide r3; have R4 := hide r4; have R5 := hide r5; have HFIN := hide hfin; clear bp kp r0 r1 r2 r3 r4 r5 hfin
      unfold Ans.put at R0 R1 R2 R3 R4 R5 HFIN

      go_wp2
      have r0 := unhide R0
      have r1 := unhide R1
      have r2 := unhide R2
      have r3 := unhide R3
      have r4 := unhide R4
      have r5 := unhide R5
      exact bodyPost_ret (v := .tuple #[.agg #[.int .i64 an.e, .int .i64 an.n, .bool an.b, .string an.s, .int .i64 an.v.1, .int .i64 an.v.2], .bool true]) (by simp [results, Try.results15, go_sem, r0, r1, r2, r3, r4, r5]) rfl ⟨rfl, unhide HFIN⟩

    · go_wp2_with fail
      refine (unhide ENDS).mono ?_
      rintro e w8 ⟨rfl, bk8, kc8⟩
      have hsub : ∀ y ∈ bb :: ab la, y ∈ bb :: (ab na ++ (ab sa ++ ab la)) := fun y hy => by rcases List.mem_cons.1 hy with h | h; simp [h]; simp [h]
      have k8 := (unhide K6).chgq hP kc8 (fun b hb hm => ((unhide BK6).out b (hsub b hm)).1 hb)
      have n8 := (unhide N6).chgS kc8 (fun b hb => ((unhide BK6).out b (hsub b hb)).2)
      have hni : ∀ y, w.heap.size ≤ y → y ∉ bb :: ab la := fun y hy hm => by have := unhide HLT y (hsub y hm); omega
      have b08 := (unhide B06).chg kc8 (hni _ (Nat.le_refl _))
      have b18 := (unhide B16).chg kc8 (hni _ (Nat.le_succ _))
      have b28 := (unhide B26).chg kc8 (hni _ (by omega))
      rw [← unhide HHB, ← unhide HHA] at bk8
      have K8 := hide k8; have N8 := hide n8; have BK8 := hide bk8; have B08 := hide b08; have B18 := hide b18; have B28 := hide b28; clear k8 n8 bk8 b08 b18 b28 kc8 hni hsub K6 N6 BK6 B06 B16 B26 o0 o1 o2 o3 o4 o5 o6 o7 a0 a1 a2 a3 a4 a5 ENDS
      have o0 := (unhide B08).cell_of (i := 0) (v := .int .i64 o.kind) rfl
      have o1 := (unhide B08).cell_of (i := 1) (v := .int .i64 o.x) rfl
      have o2 := (unhide B08).cell_of (i := 2) (v := .int .i64 o.y) rfl
      have o3 := (unhide B08).cell_of (i := 3) (v := .int .i64 o.k.1) rfl
      have o4 := (unhide B08).cell_of (i := 4) (v := .int .i64 o.k.2) rfl
      have o5 := (unhide B08).cell_of (i := 5) (v := .int .i64 o.v.1) rfl
      have o6 := (unhide B08).cell_of (i := 6) (v := .int .i64 o.v.2) rfl
      have o7 := (unhide B08).cell_of (i := 7) (v := .string o.s) rfl
      have a0 := (unhide B28).cell_of (i := 0) (v := .int .i64 an.e) rfl
      have a1 := (unhide B28).cell_of (i := 1) (v := .int .i64 an.n) rfl
      have a2 := (unhide B28).cell_of (i := 2) (v := .bool an.b) rfl
      have a3 := (unhide B28).cell_of (i := 3) (v := .string an.s) rfl
      have a4 := (unhide B28).cell_of (i := 4) (v := .int .i64 an.v.1) rfl
      have a5 := (unhide B28).cell_of (i := 5) (v := .int .i64 an.v.2) rfl
      have z0 := (unhide B18).cell_of (i := 0) (v := .int .i64 0) rfl
      have z1 := (unhide B18).cell_of (i := 1) (v := .int .i64 0) rfl
      have z2 := (unhide B18).cell_of (i := 2) (v := .bool false) rfl
      have z3 := (unhide B18).cell_of (i := 3) (v := .string ⟨#[]⟩) rfl
      have z4 := (unhide B18).cell_of (i := 4) (v := .int .i64 0) rfl
      have z5 := (unhide B18).cell_of (i := 5) (v := .int .i64 0) rfl
      have zf0 := (unhide B18).frozen 0
      have zf1 := (unhide B18).frozen 1
      have zf2 := (unhide B18).frozen 2
      have zf3 := (unhide B18).frozen 3
      have zf4 := (unhide B18).frozen 4
      have zf5 := (unhide B18).frozen 5
      have kp := Ans.put_chg w8 (w.heap.size + 1) an
      have bp : Blk (an.put w8 (w.heap.size + 1)) (w.heap.size + 1) an.cells 32 := Ans.put_blk (c := ⟨0, 0, false, ⟨#[]⟩, (0, 0)⟩) (unhide B18)
      have r0 := bp.cell_of (i := 0) (v := .int .i64 an.e) rfl
      have r1 := bp.cell_of (i := 1) (v := .int .i64 an.n) rfl
      have r2 := bp.cell_of (i := 2) (v := .bool an.b) rfl
      have r3 := bp.cell_of (i := 3) (v := .string an.s) rfl
      have r4 := bp.cell_of (i := 4) (v := .int .i64 an.v.1) rfl
      have r5 := bp.cell_of (i := 5) (v := .int .i64 an.v.2) rfl
      have hfin : StepPost G J w0 (an.put w8 (w.heap.size + 1)) bh bb s' (m + 1) an.e := by
        have hnF : w.heap.size + 1 ∉ F4 := unhide HNF4
        refine ⟨F4, na, sa, la, nc, sc, lc, (unhide K8).chgq hP kp (fun b hb hm => hnF (by simp at hm; rw [← hm]; exact hb)), (unhide N8).chgS kp (fun x hx => by simp at hx; rw [hx]; exact unhide HW0), fun he => ⟨unhide HDD he, ?_⟩⟩
        exact (unhide BK8).chg kp (fun x hx hm => by simp at hm; have := unhide HLT x hx; omega)
      have R0 := hide r0; have R1 := hide r1; have R2 := hide r2; have R3 := hide r3; have R4 := hide r4; have R5 := hide r5; have HFIN := hide hfin; clear bp kp r0 r1 r2 r3 r4 r5 hfin
      unfold Ans.put at R0 R1 R2 R3 R4 R5 HFIN

      go_wp2
      have r0 := unhide R0
      have r1 := unhide R1
      have r2 := unhide R2
      have r3 := unhide R3
      have r4 := unhide R4
      have r5 := unhide R5
      exact bodyPost_ret (v := .tuple #[.agg #[.int .i64 an.e, .int .i64 an.n, .bool an.b, .string an.s, .int .i64 an.v.1, .int .i64 an.v.2], .bool true]) (by simp [results, Try.results15, go_sem, r0, r1, r2, r3, r4, r5]) rfl ⟨rfl, unhide HFIN⟩


theorem bstep_any {G : World → Nat → R → List Nat → Prop} {J : R → Prop} (hP : KP G J) {w0 w : World} {bh bb m : Nat} {s : R} {F : List Nat} {na sa la : Option Addr} {nc sc lc : Nat} (hk : KS G J w bh s F m) (hm : m ≤ 4398046511104) (hd : s.dead = false) (hnw : Newer w0 w F) (hbk : BK w0 w bb s.handles s.scopes na sa la nc sc lc F) (o : LOp) (hok : o.Ok) :
    Calls Try.prog 15 #[.pointer (some ⟨bb, 0, none⟩), .pointer (some ⟨bh, 0, none⟩), o.val] w fun e w' => e = .returned (.tuple #[(s.askQ o).val, .bool true]) ∧ StepPost G J w0 w' bh bb (s.stepQ o) (m + 1) (s.askQ o).e := bstep_q hP.q hk hm hd hnw hbk o hok
end Go.Proofs.Ytfoncalkgmeklaa

/- The book of handles at the end: just the live ones are handles. -/
namespace Go.Proofs.Ytfoncalkgmeklaa
open Go.RowKit

theorem kind_live {s : R} (hd : s.dead = false) (ha : RAll s) {i : Nat} {g : RHan} (hg : s.handles[i]? = some g) : (s.kindQ g.num).2 = if g.live then 0 else 4 := by
  have hl := look1_eq s g.num
  rw [hd] at hl
  simp only [Bool.false_eq_true, if_false] at hl
  have hz : (s.kindQ g.num).2 = (s.look1 g.num).2 := by unfold R.kindQ; split <;> simp_all
  rw [hz]
  cases hlv : g.live with
  | true =>
    have ha' := at_of_live ha.num hg hlv
    have hr := RNum.live ha.num hg hlv
    have hf : s.find? g.num = some i := by rw [find_slot ha.ok.inv ha.num, if_pos ⟨(ha.ok.inv.nums g (List.mem_of_getElem? hg)).1, hr⟩, ha']
    rw [hf] at hl
    rw [hl]
    rfl
  | false =>
    cases hf : s.find? g.num with
    | none =>
      rw [hf] at hl
      rw [hl]
      rfl
    | some q =>
      obtain ⟨g', hg', hlv', hn'⟩ := find_some hf
      have := num_once ha.num hg' hg hn'
      subst this
      rw [hg] at hg'
      cases hg'
      rw [hlv] at hlv'
      cases hlv'
theorem place_live {s : R} (hd : s.dead = false) (x : Int) : (s.placeQ x).2 = if (s.handles.any fun g => g.live && g.num == x) then 0 else 4 := by
  have hl := look1_eq s x
  rw [hd] at hl
  simp only [Bool.false_eq_true, if_false] at hl
  have hz : (s.placeQ x).2 = (s.look1 x).2 := by unfold R.placeQ; split <;> simp_all
  rw [hz]
  cases hf : s.find? x with
  | none =>
    rw [hf] at hl
    have : (s.handles.any fun g => g.live && g.num == x) = false := by
      unfold R.find? at hf
      rw [List.findIdx?_eq_none_iff] at hf
      rw [List.any_eq_false]
      intro g hg
      have := hf g hg
      simp only [this]
      simp
    rw [this, hl]
    rfl
  | some q =>
    rw [hf] at hl
    obtain ⟨g, hg, h1, h2⟩ := find_some hf
    have : (s.handles.any fun g => g.live && g.num == x) = true := List.any_eq_true.2 ⟨g, List.mem_of_getElem? hg, by simp [h1, h2]⟩
    rw [this, hl]
    rfl
theorem any_take2 {hs : List RHan} {i : Nat} {x : Int} {h : RHan} (e : hs[i]? = some h) : ((hs.take (i + 1)).any fun g => g.live && g.num == x) = (((hs.take i).any fun g => g.live && g.num == x) || (h.live && h.num == x)) := by
  obtain ⟨hlt, rfl⟩ := List.getElem?_eq_some_iff.1 e
  rw [List.take_succ_eq_append_getElem hlt, List.any_append]
  simp
set_option maxRecDepth 100000 in
set_option maxHeartbeats 8000000 in
theorem stale_any {G : World → Nat → R → List Nat → Prop} {J : R → Prop} (hP : KP G J) {w0 w : World} {bh bb m : Nat} {s : R} {F : List Nat} {na sa la : Option Addr} {nc sc lc : Nat} (hk : KS G J w bh s F m) (hm : m ≤ 4398046511104) (hd : s.dead = false) (hnw : Newer w0 w F) (hbk : BK w0 w bb s.handles s.scopes na sa la nc sc lc F) (x : Int) (hx : I64 x) :
    Calls Try.prog 16 #[.pointer (some ⟨bb, 0, none⟩), .pointer (some ⟨bh, 0, none⟩), .int .i64 x] w fun e w' => e = .returned (.bool true) ∧ Chg [] w0 w' := by
  have hln : (s.handles.map RHan.num).length = s.handles.length := by simp
  have hll : (s.handles.map RHan.live).length = s.handles.length := by simp
  have hhl : s.handles.length ≤ 8796093022207 := by have := hk.up.handles; omega
  have hall := hk.all
  have hnum : ∀ g ∈ s.handles, I64 g.num := fun g hg => by
    have := hall.ok.inv.nums g hg
    exact ⟨by omega, by omega⟩
  have HK := hide hk; have HNW := hide hnw; have HBK := hide hbk; have HD := hide hd; have HALL := hide hall; have HX := hide hx; have HNUM := hide hnum; clear hk hnw hbk hd hall hx hnum
  go_enter Try.func16, Try.ntmps16
  go_wp2_with fail
  go_loopw [7, 8, 9] (fun i _ _ wr => ∃ (k : Nat) (F' : List Nat), k ≤ s.handles.length ∧ i = .int .i64 k ∧ KS G J wr bh s F' m ∧ Newer w0 wr F' ∧ BK w0 wr bb s.handles s.scopes na sa la nc sc lc F') (fun i _ _ _ => s.handles.length - (intOf i).toNat)
  case atStart => exact ⟨0, F, Nat.zero_le _, rfl, unhide HK, unhide HNW, unhide HBK⟩
  case round =>
    obtain ⟨k, F', hkl, rfl, hks, hn, hb⟩ := hrel
    clear HK HNW HBK
    obtain ⟨c0, _, c2, _⟩ := hb.cells
    rw [hln] at c0
    rw [hll] at c2
    by_cases hlt : k < s.handles.length
    · obtain ⟨g, hg⟩ : ∃ g, s.handles[k]? = some g := ⟨_, List.getElem?_eq_getElem hlt⟩
      obtain ⟨gn, hgn, q1⟩ := hb.numAt (i := k) (by rw [hln]; exact hlt)
      rw [show (s.handles.map RHan.num).getD k 0 = g.num from by simp [List.getD, hg]] at q1
      have hlook := kind_live (unhide HD) (unhide HALL) hg
      have hcall := hks.kind hP (by omega) g.num (unhide HNUM g (List.mem_of_getElem? hg)) (a := (s.kindQ g.num).1) (er := (s.kindQ g.num).2) rfl
      rw [hlook] at hcall
      have hlive : ∀ w' F'', BK w0 w' bb s.handles s.scopes na sa la nc sc lc F'' → w'.cell? ⟨bb, 2, none⟩ = some (.slice la s.handles.length lc) ∧ ∃ gl, la = some ⟨gl, 0, none⟩ ∧ w'.cell? ⟨gl, k, none⟩ = some (.bool g.live) := fun w' F'' hb' => by
        obtain ⟨_, _, d2, _⟩ := hb'.cells
        rw [hll] at d2
        obtain ⟨gl, e1, q2, _⟩ := hb'.liveAt (i := k) (by rw [hll]; exact hlt)
        refine ⟨d2, gl, e1, ?_⟩
        rw [q2]; simp [List.getD, hg]
      have zk : (k : Int) < (s.handles.length : Int) := by omega
      subst hgn
      generalize (s.kindQ g.num).1 = kq at *
      generalize g.num = gnum at *
      generalize g.live = glv at *
      have HCALL := hide hcall; have HN := hide hn; have HB := hide hb; have HLIVE := hide hlive; clear hcall hn hb hlive hks hlook hg c2
      go_wp2_with fail
      refine (unhide HCALL).mono ?_
      rintro e w4 ⟨F4, rfl, k4, st4⟩
      have n4 := (unhide HN).stp st4
      have b4 := (unhide HB).stp st4
      obtain ⟨d2, gl, hgl, q2⟩ := unhide HLIVE w4 F4 b4
      subst hgl
      have K4 := hide k4; have N4 := hide n4; have B4 := hide b4; clear k4 n4 b4 st4 c0 q1
      cases glv with
      | true =>
        simp only [if_true]
        go_wp2
        go_roundw
        case rel => exact ⟨k + 1, F4, by omega, by go_num, unhide K4, unhide N4, unhide B4⟩
        case measure => simp [intOf]; omega
      | false =>
        simp only [Bool.false_eq_true, if_false]
        go_wp2
        go_roundw
        case rel => exact ⟨k + 1, F4, by omega, by go_num, unhide K4, unhide N4, unhide B4⟩
        case measure => simp [intOf]; omega
    · have hke : k = s.handles.length := by omega
      subst hke
      have hcell : ∀ i h', s.handles[i]? = some h' → ∃ gn gl, na = some ⟨gn, 0, none⟩ ∧ la = some ⟨gl, 0, none⟩ ∧ wr.cell? ⟨gn, i, none⟩ = some (.int .i64 h'.num) ∧ wr.cell? ⟨gl, i, none⟩ = some (.bool h'.live) := fun i h' e => by
        have hi := (List.getElem?_eq_some_iff.1 e).1
        obtain ⟨gn, e1, q1⟩ := hb.numAt (i := i) (by rw [hln]; exact hi)
        obtain ⟨gl, e2, q2, _⟩ := hb.liveAt (i := i) (by rw [hll]; exact hi)
        refine ⟨gn, gl, e1, e2, ?_, ?_⟩
        · rw [q1]; simp [List.getD, e]
        · rw [q2]; simp [List.getD, e]
      have hcall := hks.place hP (by omega) x (unhide HX) (a := (s.placeQ x).1) (er := (s.placeQ x).2) rfl
      rw [place_live (unhide HD) x] at hcall
      have HCALL := hide hcall; have HN := hide hn; have HC := hide hcell; clear hcall hn hb hks hcell
      generalize (s.placeQ x).1 = pq at *
      go_wp2_with fail
      generalize wr = wo at *
      go_loopw [10, 11] (fun fr i wq => ∃ i' : Nat, i' ≤ s.handles.length ∧ i = .int .i64 i' ∧ fr = .bool ((s.handles.take i').any fun g => g.live && g.num == x) ∧ wq = wo) (fun _ i _ => s.handles.length - (intOf i).toNat)
      case atStart => exact ⟨0, Nat.zero_le _, rfl, by simp, rfl⟩
      case round =>
        obtain ⟨i, hi, rfl, rfl, rfl⟩ := hrel
        by_cases hil : i < s.handles.length
        · obtain ⟨g, hg⟩ : ∃ g, s.handles[i]? = some g := ⟨_, List.getElem?_eq_getElem hil⟩
          obtain ⟨gn, gl, rfl, rfl, q1, q2⟩ := unhide HC i g hg
          have hat := any_take2 (x := x) hg
          have zi : (i : Int) < (s.handles.length : Int) := by omega
          generalize ((s.handles.take i).any fun g => g.live && g.num == x) = b at *
          have HAT := hide hat; clear hat hg
          cases b with
          | true =>
            go_wp2
            go_roundw
            case rel => exact ⟨i + 1, by omega, by go_num, by rw [unhide HAT]; simp, by first | rfl | trivial⟩
            case measure => simp [intOf]; omega
          | false =>
            obtain ⟨gnum, gsc, gob, glv⟩ := g
            simp only at *
            cases glv with
            | false =>
              go_wp2
              go_roundw
              case rel => exact ⟨i + 1, by omega, by go_num, by rw [unhide HAT]; simp, by first | rfl | trivial⟩
              case measure => simp [intOf]; omega
            | true =>
              by_cases hek : gnum = x
              · have hb : (gnum == x) = true := by simp [hek]
                have HEK := hide hek; clear hek
                go_wp2
                go_roundw
                case rel => exact ⟨i + 1, by omega, by go_num, by rw [unhide HAT, unhide HEK]; simp, by first | rfl | trivial⟩
                case measure => simp [intOf]; omega
              · have hb : (gnum == x) = false := by simp [hek]
                go_wp2
                go_roundw
                case rel => exact ⟨i + 1, by omega, by go_num, by rw [unhide HAT]; simp [hek], by first | rfl | trivial⟩
                case measure => simp [intOf]; omega
        · have hie : i = s.handles.length := by omega
          subst hie
          rw [List.take_length]
          generalize (s.handles.any fun g => g.live && g.num == x) = b at *
          cases b with
          | true =>
            simp only [if_true] at HCALL
            go_wp2_with fail
            refine (unhide HCALL).mono ?_
            rintro e w5 ⟨F5, rfl, k5, st5⟩
            have n5 := (unhide HN).stp st5
            have N5 := hide n5; clear n5 k5 st5
            go_wp2
            go_ret
            exact ⟨rfl, (unhide N5).1⟩
          | false =>
            simp only [Bool.false_eq_true, if_false] at HCALL
            go_wp2_with fail
            refine (unhide HCALL).mono ?_
            rintro e w5 ⟨F5, rfl, k5, st5⟩
            have n5 := (unhide HN).stp st5
            have N5 := hide n5; clear n5 k5 st5
            go_wp2
            go_ret
            exact ⟨rfl, (unhide N5).1⟩
end Go.Proofs.Ytfoncalkgmeklaa

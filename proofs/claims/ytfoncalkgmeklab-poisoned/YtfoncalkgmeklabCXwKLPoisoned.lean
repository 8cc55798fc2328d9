/- gripkeep.Poisoned, of a program that keeps the document. -/
import Derived.Test.YtfoncalkgmeklabXwM51
import Derived.Test.YtfoncalkgmeklabXwM43
import Derived.Test.YtfoncalkgmeklabXwM47
import Derived.Test.YtfoncalkgmeklabXwM42
namespace Go.Proofs.Ytfoncalkgmeklab
open Go.RowKit

def bigOp : LOp := ⟨1, 16, 0, (0, 0), (0, 0), ⟨#[]⟩⟩
theorem big_ok : bigOp.Ok := ⟨⟨by simp [bigOp], by simp [bigOp]⟩, ⟨by simp [bigOp], by simp [bigOp]⟩, i64_0, ⟨i64_0, i64_0⟩, ⟨i64_0, i64_0⟩, empty_le⟩
def LOp.at (o : LOp) (k : Int) : LOp := { o with kind := k }
theorem at_ok {o : LOp} (h : o.Ok) {k : Int} (h0 : 1 ≤ k) (h1 : k ≤ 23) : (o.at k).Ok := ⟨⟨by simp [LOp.at]; omega, by simp [LOp.at]; omega⟩, h.x, h.y, h.k, h.v, h.s⟩
set_option maxRecDepth 100000 in
set_option maxHeartbeats 4000000 in
theorem walk_poisoned {w : World} {G : World → Nat → R → List Nat → Prop} {J : R → Prop} (hP : KP G J) (l : Int) (_ : I64 l) (a : Option Addr) (n c : Nat) (fs : List Bool) (_ : n ≤ c) (hl : fs.length = n) (hf : FlagsAt w a fs) (_ : n ≤ 140737488351232) (o : LOp) (hok : o.Ok) :
    Calls Try.prog 6 #[.int .i64 l, .slice a n c, o.val] w fun e w' => e = .returned (.bool true) ∧ Chg [] w w' := by
  unfold LOp.val
  have HL := hide hl; have HF := hide hf; have HOK := hide hok
  clear hl hf hok
  have kb0 : Chg [] w (w.alloc (.cells #[.int .i64 o.kind, .int .i64 o.x, .int .i64 o.y, .int .i64 o.k.1, .int .i64 o.k.2, .int .i64 o.v.1, .int .i64 o.v.2, .string o.s] 50)) := (Chg.refl [] w).alloc _
  have hb0 : Blk (w.alloc (.cells #[.int .i64 o.kind, .int .i64 o.x, .int .i64 o.y, .int .i64 o.k.1, .int .i64 o.k.2, .int .i64 o.v.1, .int .i64 o.v.2, .string o.s] 50)) w.heap.size [.int .i64 o.kind, .int .i64 o.x, .int .i64 o.y, .int .i64 o.k.1, .int .i64 o.k.2, .int .i64 o.v.1, .int .i64 o.v.2, .string o.s] 50 := Blk.new w [.int .i64 o.kind, .int .i64 o.x, .int .i64 o.y, .int .i64 o.k.1, .int .i64 o.k.2, .int .i64 o.v.1, .int .i64 o.v.2, .string o.s] _
  have KB0 := hide kb0; have HB0 := hide hb0; clear kb0 hb0
  by_cases hb : l < 1 ∨ 512 < l ∨ 64 < n
  · have HB := hide hb; clear hb
    go_enter Try.func6, Try.ntmps6
    go_wp2_with fail
    refine (kbegin_bad hP l a n c _ (unhide HB)).mono ?_
    rintro e w1 ⟨rfl, hc⟩
    have HC := hide hc; clear hc
    go_wp2
    go_ret
    exact ⟨rfl, (unhide KB0).trans (unhide HC)⟩
  · have h1 : 1 ≤ l := by omega
    have h2 : l ≤ 512 := by omega
    have h3 : n ≤ 64 := by omega
    clear hb
    go_enter Try.func6, Try.ntmps6
    go_wp2_with fail
    refine (kbegin_ok hP l a n c fs _ h1 h2 h3 (unhide HL) ((unhide HF).chg (unhide KB0))).mono ?_
    rintro e w1 ⟨bh, F1, rfl, k1, n1⟩
    have hpi : PI l 0 (R.init l fs) := ⟨k1.all, rfl, rfl, rfl, rfl, rfl⟩
    have hbo : Beside w1 w.heap.size o.cells 50 F1 := ⟨(unhide HB0).chg n1.1 (by simp), fun hm => by have := n1.2 _ hm; rw [size_alloc] at this; omega⟩
    have hk2 : Chg [] w1 (w1.alloc (.cells #[.int .i64 1, .int .i64 16, .int .i64 0, .int .i64 0, .int .i64 0, .int .i64 0, .int .i64 0, .string ⟨#[]⟩] 50)) := (Chg.refl [] w1).alloc _
    have hbg : Beside (w1.alloc (.cells #[.int .i64 1, .int .i64 16, .int .i64 0, .int .i64 0, .int .i64 0, .int .i64 0, .int .i64 0, .string ⟨#[]⟩] 50)) w1.heap.size bigOp.cells 50 F1 := ⟨Blk.new w1 bigOp.cells 50, fun hm => by have := k1.lt _ hm; omega⟩
    have hlt1 : w.heap.size < w1.heap.size := hbo.1.lt
    have hbo2 := hbo.chg hk2
    have k2 := k1.chg hP hk2 (by simp)
    have n2 : Newer w (w1.alloc (.cells #[.int .i64 1, .int .i64 16, .int .i64 0, .int .i64 0, .int .i64 0, .int .i64 0, .int .i64 0, .string ⟨#[]⟩] 50)) F1 := ⟨((unhide KB0).trans n1.1).trans hk2, fun b hb => Nat.le_trans (unhide KB0).size (n1.2 b hb)⟩
    have K2 := hide k2; have N2 := hide n2; have HPI := hide hpi; have HBO := hide hbo2; have HBG := hide hbg; clear k1 n1 hpi hbo hk2 hbg hbo2 k2 n2
    obtain ⟨q, hq⟩ : ∃ q : Nat, l / 33 = (q : Int) := ⟨(l / 33).toNat, by omega⟩
    have hq16 : q ≤ 15 := by omega
    have hql : 33 * (q : Int) ≤ l ∧ l < 33 * ((q : Int) + 1) := by omega
    have hdiv : Int.tdiv l 33 = (q : Int) := by rw [Int.tdiv_eq_ediv_of_nonneg (by omega)]; exact hq
    clear hq
    go_wp2_with fail
    generalize w1.heap.size = bg at *
    generalize hbo0 : w.heap.size = bo at *
    generalize w1.alloc (.cells #[.int .i64 1, .int .i64 16, .int .i64 0, .int .i64 0, .int .i64 0, .int .i64 0, .int .i64 0, .string ⟨#[]⟩] 50) = w2 at *
    go_loopw [10, 11] (fun i _ wr => ∃ (k : Nat) (s : R) (F : List Nat), k ≤ q ∧ i = .int .i64 k ∧ KS G J wr bh s F k ∧ PI l k s ∧ Newer w wr F ∧ Beside wr bo o.cells 50 F ∧ Beside wr bg bigOp.cells 50 F) (fun i _ _ => q - (intOf i).toNat)
    case atStart => exact ⟨0, _, F1, Nat.zero_le _, rfl, unhide K2, unhide HPI, unhide N2, unhide HBO, unhide HBG⟩
    case round =>
      obtain ⟨k, s, F, hk, rfl, hks, hpi, hnw, hbo, hbg⟩ := hrel
      clear K2 N2 HPI HBO HBG
      have hcnt := count_any 1 16 wr (by omega) (by omega)
      rw [show countQ 1 16 = 33 from rfl] at hcnt
      have g0 := hbg.1.cell_of (i := 0) (v := .int .i64 1) rfl
      have g1 := hbg.1.cell_of (i := 1) (v := .int .i64 16) rfl
      have g2 := hbg.1.cell_of (i := 2) (v := .int .i64 0) rfl
      have g3 := hbg.1.cell_of (i := 3) (v := .int .i64 0) rfl
      have g4 := hbg.1.cell_of (i := 4) (v := .int .i64 0) rfl
      have g5 := hbg.1.cell_of (i := 5) (v := .int .i64 0) rfl
      have g6 := hbg.1.cell_of (i := 6) (v := .int .i64 0) rfl
      have g7 := hbg.1.cell_of (i := 7) (v := .string ⟨#[]⟩) rfl
      have hask := hks.ask hP (by omega) bigOp big_ok
      have eQ : s.askQ bigOp = ⟨(s.arrayQ 16).2.1, (s.arrayQ 16).1, false, ⟨#[]⟩, (0, 0)⟩ := rfl
      have eS : s.stepQ bigOp = (s.arrayQ 16).2.2 := rfl
      rw [eQ, eS] at hask
      unfold Ans.val LOp.val bigOp at hask
      dsimp only at hask
      by_cases hlt : k < q
      · obtain ⟨r1, r2, r3⟩ := hpi.next (by omega) (by omega)
        rw [r1, r2] at hask
        have zk : (k : Int) < (q : Int) := by omega
        generalize (s.arrayQ 16).2.2 = s' at *
        have HC := hide hcnt; have HASK := hide hask; have R3 := hide r3; have NW := hide hnw; have BO := hide hbo; have BG := hide hbg; clear hcnt hask r3 hnw hbo hbg hks hpi r1 r2 eQ eS
        go_wp2_with fail
        refine (unhide HC).mono ?_
        rintro e w3 ⟨rfl, rfl⟩
        go_wp2_with fail
        refine (unhide HASK).mono ?_
        rintro e w4 ⟨F4, rfl, k4, st4⟩
        have kb : Chg [] w4 (w4.alloc (.cells #[.int .i64 0, .int .i64 (k : Int), .bool false, .string ⟨#[]⟩, .int .i64 0, .int .i64 0] 47)) := (Chg.refl [] w4).alloc _
        have n5 := ((unhide NW).stp st4).chg kb
        have bo5 := ((unhide BO).stp st4).chg kb
        have bg5 := ((unhide BG).stp st4).chg kb
        have k5 := k4.chg hP kb (by simp)
        have K5 := hide k5; have N5 := hide n5; have BO5 := hide bo5; have BG5 := hide bg5; clear kb n5 bo5 bg5 k5 k4 st4 g0 g1 g2 g3 g4 g5 g6 g7
        go_wp2
        go_roundw
        case rel =>
          have hr : ∃ (k' : Nat) (s : R) (F : List Nat), k' ≤ q ∧ Value.int .i64 ((k : Int) + 1) = .int .i64 k' ∧ KS G J (w4.alloc (.cells #[.int .i64 0, .int .i64 (k : Int), .bool false, .string ⟨#[]⟩, .int .i64 0, .int .i64 0] 47)) bh s F k' ∧ PI l k' s ∧ Newer w (w4.alloc (.cells #[.int .i64 0, .int .i64 (k : Int), .bool false, .string ⟨#[]⟩, .int .i64 0, .int .i64 0] 47)) F ∧ Beside (w4.alloc (.cells #[.int .i64 0, .int .i64 (k : Int), .bool false, .string ⟨#[]⟩, .int .i64 0, .int .i64 0] 47)) bo o.cells 50 F ∧ Beside (w4.alloc (.cells #[.int .i64 0, .int .i64 (k : Int), .bool false, .string ⟨#[]⟩, .int .i64 0, .int .i64 0] 47)) bg bigOp.cells 50 F :=
            ⟨k + 1, s', F4, by omega, by go_num, unhide K5, unhide R3, unhide N5, unhide BO5, unhide BG5⟩
          first | exact hr | ((repeat apply Exists.intro); exact ⟨hr, rfl⟩)
        case measure => simp [intOf]; omega
      · have hkq : k = q := by omega
        subst hkq
        obtain ⟨r1, r2, r3⟩ := hpi.last (by omega) (by omega)
        rw [r1, r2] at hask
        have zk : ¬ (k : Int) < (k : Int) := by omega
        generalize (s.arrayQ 16).2.2 = s' at *
        have HC := hide hcnt; have HASK := hide hask; have R3 := hide r3; have NW := hide hnw; have BO := hide hbo; clear hcnt hask r3 hnw hbo hbg hks hpi r1 r2 eQ eS
        go_wp2_with fail
        refine (unhide HC).mono ?_
        rintro e w3 ⟨rfl, rfl⟩
        go_wp2_with fail
        refine (unhide HASK).mono ?_
        rintro e w4 ⟨F4, rfl, k4, st4⟩
        have kb : Chg [] w4 (w4.alloc (.cells #[.int .i64 12, .int .i64 0, .bool false, .string ⟨#[]⟩, .int .i64 0, .int .i64 0] 47)) := (Chg.refl [] w4).alloc _
        have n5 := ((unhide NW).stp st4).chg kb
        have bo5 := ((unhide BO).stp st4).chg kb
        have k5 := k4.chg hP kb (by simp)
        have ba5 : Beside (w4.alloc (.cells #[.int .i64 12, .int .i64 0, .bool false, .string ⟨#[]⟩, .int .i64 0, .int .i64 0] 47)) w4.heap.size (Ans.none 12).cells 47 F4 := ⟨Blk.new w4 (Ans.none 12).cells _, fun hm => by have := k4.lt _ hm; omega⟩
        have HBW := hide (Nat.le_of_eq hbo0)
        have hbb : bo ≠ w4.heap.size := fun e => by have := ((unhide BO).stp st4).1.lt; omega
        have hwb : w.heap.size ≤ w4.heap.size := by have := ((unhide NW).stp st4).1.size; omega
        have c0 := ba5.1.cell_of (i := 0) (v := .int .i64 12) rfl
        have c1 := ba5.1.cell_of (i := 1) (v := .int .i64 0) rfl
        have c2 := ba5.1.cell_of (i := 2) (v := .bool false) rfl
        have c3 := ba5.1.cell_of (i := 3) (v := .string ⟨#[]⟩) rfl
        have c4 := ba5.1.cell_of (i := 4) (v := .int .i64 0) rfl
        have c5 := ba5.1.cell_of (i := 5) (v := .int .i64 0) rfl
        have K5 := hide k5; have N5 := hide n5; have BO5 := hide bo5; have BA5 := hide ba5; clear kb n5 bo5 ba5 k5 k4 st4 g0 g1 g2 g3 g4 g5 g6 g7
        go_wp2_with fail
        generalize w4.heap.size = ba at *
        generalize w4.alloc (.cells #[.int .i64 12, .int .i64 0, .bool false, .string ⟨#[]⟩, .int .i64 0, .int .i64 0] 47) = w5 at *
        refine (nothing_yes 12 _).mono ?_
        rintro e w6 ⟨rfl, hc6⟩
        have n6 := (unhide N5).chg hc6
        have bo6 := (unhide BO5).chg hc6
        have ba6 := (unhide BA5).chg hc6
        have k6 := (unhide K5).chg hP hc6 (by simp)
        have K6 := hide k6; have N6 := hide n6; have BO6 := hide bo6; have BA6 := hide ba6; clear n6 bo6 ba6 k6 hc6 c0 c1 c2 c3 c4 c5 K5 N5 BO5 BA5
        go_wp2_with fail
        go_loopw [8, 13] (fun v i wr => ∃ (j : Nat) (s : R) (F : List Nat) (kd : Int) (an : Ans), 1 ≤ j ∧ j ≤ 24 ∧ v = .bool true ∧ i = .int .i64 j ∧ KS G J wr bh s F (20 + j) ∧ s.dead = true ∧ Newer w wr F ∧ Beside wr bo (o.at kd).cells 50 F ∧ Beside wr ba an.cells 47 F) (fun _ i _ => 24 - (intOf i).toNat)
        case atStart => exact ⟨1, s', F4, o.kind, Ans.none 12, by omega, by omega, rfl, rfl, (unhide K6).mono (by omega), unhide R3, unhide N6, unhide BO6, unhide BA6⟩
        case round =>
          obtain ⟨j, t, F, kd, an, hj1, hj2, rfl, rfl, hks, hdt, hnw, hbo, hba⟩ := hrel
          clear K6 N6 BO6 BA6
          by_cases hj : j ≤ 23
          · have zj : (j : Int) ≤ 23 := by omega
            have zj1 : 1 ≤ (j : Int) := by omega
            have ksc : Chg [bo] wr (wr.setCell ⟨bo, 0, none⟩ (.int .i64 (j : Int))) := (Chg.refl _ wr).setCell (.inl (by simp)) _
            have b0 := hbo.1.cell_of (i := 0) (v := .int .i64 kd) rfl
            have f0 := hbo.1.frozen 0
            have hbo1 : Beside (wr.setCell ⟨bo, 0, none⟩ (.int .i64 (j : Int))) bo (o.at (j : Int)).cells 50 F := ⟨hbo.1.setCell 0 (.int .i64 (j : Int)), hbo.2⟩
            have hks1 := hks.chg hP ksc (fun b hb hm => hbo.2 (by simp at hm; rw [← hm]; exact hb))
            have hnw1 : Newer w (wr.setCell ⟨bo, 0, none⟩ (.int .i64 (j : Int))) F := ⟨hnw.1.setCell (.inr (unhide HBW)) _, hnw.2⟩
            have hba1 : Beside (wr.setCell ⟨bo, 0, none⟩ (.int .i64 (j : Int))) ba an.cells 47 F := ⟨hba.1.chg ksc (by simp; exact fun e => hbb e.symm), hba.2⟩
            have s0 := hbo1.1.cell_of (i := 0) (v := .int .i64 (j : Int)) rfl
            have s1 := hbo1.1.cell_of (i := 1) (v := .int .i64 o.x) rfl
            have s2 := hbo1.1.cell_of (i := 2) (v := .int .i64 o.y) rfl
            have s3 := hbo1.1.cell_of (i := 3) (v := .int .i64 o.k.1) rfl
            have s4 := hbo1.1.cell_of (i := 4) (v := .int .i64 o.k.2) rfl
            have s5 := hbo1.1.cell_of (i := 5) (v := .int .i64 o.v.1) rfl
            have s6 := hbo1.1.cell_of (i := 6) (v := .int .i64 o.v.2) rfl
            have s7 := hbo1.1.cell_of (i := 7) (v := .string o.s) rfl
            have hask := hks1.ask hP (by omega) (o.at (j : Int)) (at_ok (unhide HOK) zj1 zj)
            have hda := dead_ask hdt (o.at (j : Int)) ⟨zj1, zj⟩
            have hds := dead_stays hdt (o.at (j : Int))
            rw [hda.1] at hask
            unfold Ans.val LOp.val LOp.at at hask
            dsimp only [Ans.none] at hask
            have HASK := hide hask; have HDS := hide hds; have NW1 := hide hnw1; have BO1 := hide hbo1; have BA1 := hide hba1; clear hask hds hnw1 hbo1 hba1 hks hks1 hdt hnw hbo hba hda ksc
            go_wp2_with fail
            refine (unhide HASK).mono ?_
            rintro e w7 ⟨F7, rfl, k7, st7⟩
            have n7 := (unhide NW1).stp st7
            have bo7 := (unhide BO1).stp st7
            have ba7 := (unhide BA1).stp st7
            have kp := Ans.put_chg w7 ba (Ans.none 2)
            have d0 := ba7.1.cell_of (i := 0) (v := .int .i64 an.e) rfl
            have d1 := ba7.1.cell_of (i := 1) (v := .int .i64 an.n) rfl
            have d2 := ba7.1.cell_of (i := 2) (v := .bool an.b) rfl
            have d3 := ba7.1.cell_of (i := 3) (v := .string an.s) rfl
            have d4 := ba7.1.cell_of (i := 4) (v := .int .i64 an.v.1) rfl
            have d5 := ba7.1.cell_of (i := 5) (v := .int .i64 an.v.2) rfl
            have fr0 := ba7.1.frozen 0
            have fr1 := ba7.1.frozen 1
            have fr2 := ba7.1.frozen 2
            have fr3 := ba7.1.frozen 3
            have fr4 := ba7.1.frozen 4
            have fr5 := ba7.1.frozen 5
            have bap : Beside ((Ans.none 2).put w7 ba) ba (Ans.none 2).cells 47 F7 := ⟨Ans.put_blk ba7.1, ba7.2⟩
            have k8 := k7.chg hP kp (fun b hb hm => ba7.2 (by simp at hm; rw [← hm]; exact hb))
            have n8 : Newer w ((Ans.none 2).put w7 ba) F7 := ⟨n7.1.trans_new kp (fun b hb => by simp at hb; rw [hb]; exact .inr hwb), n7.2⟩
            have bo8 : Beside ((Ans.none 2).put w7 ba) bo (o.at (j : Int)).cells 50 F7 := ⟨bo7.1.chg kp (by simp; exact hbb), bo7.2⟩
            have v0 := bap.1.cell_of (i := 0) (v := .int .i64 2) rfl
            have v1 := bap.1.cell_of (i := 1) (v := .int .i64 0) rfl
            have v2 := bap.1.cell_of (i := 2) (v := .bool false) rfl
            have v3 := bap.1.cell_of (i := 3) (v := .string ⟨#[]⟩) rfl
            have v4 := bap.1.cell_of (i := 4) (v := .int .i64 0) rfl
            have v5 := bap.1.cell_of (i := 5) (v := .int .i64 0) rfl
            unfold Ans.put Ans.none at v0 v1 v2 v3 v4 v5
            dsimp only at v0 v1 v2 v3 v4 v5
            have K8 := hide k8; have N8 := hide n8; have BO8 := hide bo8; have BAP := hide bap; clear k8 n8 bo8 bap k7 n7 bo7 ba7 kp st7 s0 s1 s2 s3 s4 s5 s6 s7 b0 f0
            go_wp2_with fail
            refine (nothing_yes 2 _).mono ?_
            rintro e w9 ⟨rfl, hc9⟩
            have n9 := (unhide N8).chg hc9
            have bo9 := (unhide BO8).chg hc9
            have ba9 := (unhide BAP).chg hc9
            have k9 := (unhide K8).chg hP hc9 (by simp)
            have K9 := hide k9; have N9 := hide n9; have BO9 := hide bo9; have BA9 := hide ba9; clear n9 bo9 ba9 k9 hc9 v0 v1 v2 v3 v4 v5 d0 d1 d2 d3 d4 d5 fr0 fr1 fr2 fr3 fr4 fr5
            go_wp2
            go_roundw
            case rel => exact ⟨j + 1, _, F7, (j : Int), Ans.none 2, by omega, by omega, rfl, by go_num, unhide K9, unhide HDS, unhide N9, unhide BO9, unhide BA9⟩
            case measure => simp [intOf]; omega
          · have zj : ¬ (j : Int) ≤ 23 := by omega
            have NW := hide hnw; clear hnw hks hbo hba
            go_wp2
            go_ret
            exact ⟨rfl, (unhide NW).1⟩
end Go.Proofs.Ytfoncalkgmeklab

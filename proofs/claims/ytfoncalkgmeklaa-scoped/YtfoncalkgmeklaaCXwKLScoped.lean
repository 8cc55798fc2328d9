/- gripkeep.Scoped, of a program that keeps the document. -/
import Derived.Test.YtfoncalkgmeklaaCXwKLNumbered
import Derived.Test.YtfoncalkgmeklaaCXwKKinds
namespace Go.Proofs.Ytfoncalkgmeklaa
open Go.RowKit

theorem sc_init (l : Int) (fs : List Bool) : Sc (R.init l fs) := fun g hg => by simp [R.init] at hg
theorem Lst.elder {w0 w1 w : World} {a : Option Addr} {n c : Nat} {l : List Int} {F : List Nat} (h : Lst w1 w a n c l F) (hw : w0.heap.size ≤ w1.heap.size) : Lst w0 w a n c l F := ⟨h.own, h.len, fun x hx => ⟨(h.out x hx).1, Nat.le_trans hw (h.out x hx).2⟩⟩
theorem Lst.cellAt {w0 w : World} {a : Option Addr} {n c : Nat} {l : List Int} {F : List Nat} (h : Lst w0 w a n c l F) {i : Nat} {x : Int} (hi : l[i]? = some x) : ∃ g, a = some ⟨g, 0, none⟩ ∧ w.cell? ⟨g, i, none⟩ = some (.int .i64 x) := by
  have hlt := (List.getElem?_eq_some_iff.1 hi).1
  obtain ⟨g, e, _, hc⟩ := owns_at h.own (by rw [← h.len]; omega)
  exact ⟨g, e, hc i _ (by simp [ints, hi])⟩
def openOp (x : Int) : LOp := ⟨17, x, 0, (0, 0), (0, 0), ⟨#[]⟩⟩
set_option maxRecDepth 100000 in
set_option maxHeartbeats 16000000 in
theorem walk_scoped {w : World} {G : World → Nat → R → List Nat → Prop} {J : R → Prop} (hP : KP G J) (l : Int) (_ : I64 l) (a : Option Addr) (n c : Nat) (fs : List Bool) (_ : n ≤ c) (hl : fs.length = n) (hf : FlagsAt w a fs) (_ : n ≤ 140737488351232)
    (sa : Option Addr) (sn sc : Nat) (ops : List LOp) (hsn : ops.length = sn) (hok : ∀ o ∈ ops, o.Ok) (hop : OpsAt w sa ops) (hsb : sn ≤ 1954687338211)
    (ta : Option Addr) (tn tc : Nat) (tps : List LOp) (htn : tps.length = tn) (htok : ∀ o ∈ tps, o.Ok) (htp : OpsAt w ta tps) (htb : tn ≤ 1954687338211) :
    Calls Try.prog 6 #[.int .i64 l, .slice a n c, .slice sa sn sc, .slice ta tn tc] w fun e w' => e = .returned (.bool true) ∧ Chg [] w w' := by
  have HL := hide hl; have HF := hide hf; have HSN := hide hsn; have HOK := hide hok; have HOP := hide hop; have HTN := hide htn; have HTOK := hide htok; have HTP := hide htp
  clear hl hf hsn hok hop htn htok htp
  by_cases hb : l < 1 ∨ 512 < l ∨ 64 < n
  · have HB := hide hb; clear hb
    go_enter Try.func6, Try.ntmps6
    go_wp2_with fail
    refine (kbegin_bad hP l a n c w (unhide HB)).mono ?_
    rintro e w1 ⟨rfl, hc⟩
    have HC := hide hc; clear hc
    go_wp2
    go_ret
    exact ⟨rfl, unhide HC⟩
  · have h1 : 1 ≤ l := by omega
    have h2 : l ≤ 512 := by omega
    have h3 : n ≤ 64 := by omega
    clear hb
    go_enter Try.func6, Try.ntmps6
    go_wp2_with fail
    refine (kbegin_ok hP l a n c fs w h1 h2 h3 (unhide HL) (unhide HF)).mono ?_
    rintro e w1 ⟨bh, F1, rfl, k1, n1⟩
    have kb : Chg [] w1 (w1.alloc (.cells #[.slice none 0 0, .slice none 0 0, .slice none 0 0, .int .i64 0, .int .i64 0, .int .i64 0, .int .i64 0, .int .i64 0, .int .i64 0, .int .i64 0, .int .i64 0, .int .i64 0, .int .i64 0, .int .i64 0, .int .i64 0, .int .i64 0, .int .i64 0, .int .i64 0, .int .i64 0, .int .i64 0, .int .i64 0, .int .i64 0, .int .i64 0, .int .i64 0, .int .i64 0, .int .i64 0, .int .i64 0, .int .i64 0, .int .i64 0, .int .i64 0, .int .i64 0, .int .i64 0, .int .i64 0, .int .i64 0, .int .i64 0, .int .i64 0] 47)) := (Chg.refl [] w1).alloc _
    have bk := book_new (w0 := w) k1.lt n1.1.size
    have k2 := k1.chg hP kb (by simp)
    have n2 := n1.chg kb
    have K2 := hide k2; have N2 := hide n2; have BK2 := hide bk; clear k1 n1 kb bk k2 n2
    go_wp2_with fail
    generalize w1.alloc (.cells #[.slice none 0 0, .slice none 0 0, .slice none 0 0, .int .i64 0, .int .i64 0, .int .i64 0, .int .i64 0, .int .i64 0, .int .i64 0, .int .i64 0, .int .i64 0, .int .i64 0, .int .i64 0, .int .i64 0, .int .i64 0, .int .i64 0, .int .i64 0, .int .i64 0, .int .i64 0, .int .i64 0, .int .i64 0, .int .i64 0, .int .i64 0, .int .i64 0, .int .i64 0, .int .i64 0, .int .i64 0, .int .i64 0, .int .i64 0, .int .i64 0, .int .i64 0, .int .i64 0, .int .i64 0, .int .i64 0, .int .i64 0, .int .i64 0] 47) = w2 at *
    generalize w1.heap.size = bb at *
    go_loopw [12, 13, 14] (fun i _ _ wr => ∃ (k : Nat) (s : R) (F : List Nat) (na sa' la : Option Addr) (nc sc' lc : Nat), i = .int .i64 k ∧ k ≤ sn ∧ KS G J wr bh s F k ∧ Newer w wr F ∧ s.dead = false ∧ BK w wr bb s.handles s.scopes na sa' la nc sc' lc F ∧ Sc s) (fun i _ _ _ => sn - (intOf i).toNat)
    case atStart => exact ⟨0, R.init l fs, F1, none, none, none, 0, 0, 0, rfl, Nat.zero_le _, unhide K2, unhide N2, rfl, unhide BK2, sc_init l fs⟩
    case round =>
      obtain ⟨k, s, F, na, sa', la, nc, sc', lc, rfl, hk, hks, hnw, hd, hbk, hsc⟩ := hrel
      clear K2 N2 BK2
      by_cases hlt : k < sn
      · obtain ⟨o, ho⟩ : ∃ o, ops[k]? = some o := ⟨_, List.getElem?_eq_getElem (by rw [unhide HSN]; exact hlt)⟩
        have hoo := unhide HOK o (List.mem_of_getElem? ho)
        obtain ⟨sb, soff, hsa, hsbw, hcel⟩ := unhide HOP (by rw [unhide HSN]; omega)
        subst hsa
        have hc8 : ∀ (w' : World), Chg [] w w' → ∀ i v, o.cells[i]? = some v → w'.cell? ⟨sb, soff + k * 8 + i, none⟩ = some v := fun w' h i v hv => by rw [h.cell hsbw (by simp)]; exact hcel k o ho i v hv
        have zk : (k : Int) < (sn : Int) := by omega
        have s0 := hc8 wr hnw.1 0 _ rfl
        have s1 := hc8 wr hnw.1 1 _ rfl
        have s2 := hc8 wr hnw.1 2 _ rfl
        have s3 := hc8 wr hnw.1 3 _ rfl
        have s4 := hc8 wr hnw.1 4 _ rfl
        have s5 := hc8 wr hnw.1 5 _ rfl
        have s6 := hc8 wr hnw.1 6 _ rfl
        have s7 := hc8 wr hnw.1 7 _ rfl
        rw [Nat.add_zero] at s0
        have hstep := bstep_any hP hks (by omega) hd hnw hbk o hoo
        have hscs : (s.askQ o).e ≠ 12 → Sc (s.stepQ o) := fun he => sc_step o hd hks.all he hsc
        generalize s.askQ o = an at *
        generalize s.stepQ o = s' at *
        unfold Ans.val LOp.val at hstep
        have HSTEP := hide hstep; have HSCS := hide hscs; clear hstep hscs hsc hks hnw hd hbk hc8 hcel hsbw ho hoo
        go_wp2_with fail
        refine (unhide HSTEP).mono ?_
        rintro e w4 ⟨rfl, F4, na4, sa4, la4, nc4, sc4, lc4, k4, n4, b4⟩
        have kb : Chg [] w4 (w4.alloc (.cells #[.int .i64 an.e, .int .i64 an.n, .bool an.b, .string an.s, .int .i64 an.v.1, .int .i64 an.v.2] 32)) := (Chg.refl [] w4).alloc _
        have hb5 : Blk (w4.alloc (.cells #[.int .i64 an.e, .int .i64 an.n, .bool an.b, .string an.s, .int .i64 an.v.1, .int .i64 an.v.2] 32)) w4.heap.size an.cells 32 := Blk.new w4 an.cells 32
        have a0 := hb5.cell_of (i := 0) (v := .int .i64 an.e) rfl
        have k5 := k4.chg hP kb (by simp)
        have n5 := n4.chg kb
        have b5 : an.e ≠ 12 → s'.dead = false ∧ BK w (w4.alloc (.cells #[.int .i64 an.e, .int .i64 an.n, .bool an.b, .string an.s, .int .i64 an.v.1, .int .i64 an.v.2] 32)) bb s'.handles s'.scopes na4 sa4 la4 nc4 sc4 lc4 F4 := fun he => ⟨(b4 he).1, (b4 he).2.quiet kb⟩
        have K5 := hide k5; have N5 := hide n5; have B5 := hide b5; clear k5 n5 b5 k4 n4 b4 kb hb5 s0 s1 s2 s3 s4 s5 s6 s7
        by_cases he : an.e = 12
        · have be : (an.e == 12) = true := by simp [he]
          clear he
          go_wp2
          go_ret
          exact ⟨rfl, (unhide N5).1⟩
        · have be : (an.e == 12) = false := by simp [he]
          obtain ⟨hd5, hbk5⟩ := unhide B5 he
          have HD5 := hide hd5; have HBK5 := hide hbk5; have HSC5 := hide (unhide HSCS he); clear hd5 hbk5 B5
          go_wp2
          go_roundw
          case rel => exact ⟨k + 1, s', F4, na4, sa4, la4, nc4, sc4, lc4, by go_num, by omega, unhide K5, unhide N5, unhide HD5, unhide HBK5, unhide HSC5⟩
          case measure => simp [intOf]; omega
      · have hke : k = sn := by omega
        subst hke
        have hln : (s.handles.map RHan.num).length = s.handles.length := by simp
        have hall := hks.all
        have hhl : s.handles.length ≤ 8796093022207 := by have := hks.up.handles; omega
        obtain ⟨hs0, hs16⟩ := hall.ok.inv.scopes
        obtain ⟨c0, _, _, _⟩ := hbk.cells
        rw [hln] at c0
        have hblt := hbk.lt
        have hcall := kinds_any hP hks (by omega) hbk
        have HNW := hide hnw; have HBK := hide hbk; have HD := hide hd; have HSC := hide hsc; have HALL := hide hall; have HC := hide hcall; have HBLT := hide hblt; clear hnw hbk hd hsc hall hcall hks hblt
        go_wp2_with fail
        refine (unhide HC).mono ?_
        rintro e w3 ⟨F3, a3, c3, rfl, k3, st3, l3⟩
        have n3 := (unhide HNW).stp st3
        have b3 := (unhide HBK).stp st3
        have hap : ∀ x ∈ bb :: (ab na ++ (ab sa' ++ ab la)), x ∉ ab a3 := fun x hx hm => by
          have q1 := unhide HBLT x hx
          have q2 := (l3.out x hm).2
          omega
        have l3' := l3.elder (unhide HNW).1.size
        have HAP := hide hap; have K3 := hide k3; have N3 := hide n3; have B3 := hide b3; have L3 := hide l3'; clear hap k3 n3 b3 l3 l3' st3 c0 HC HNW HBK HBLT
        by_cases h16 : s.scopes = 16
        · have eo : s.openQ = (0, 10, s) := by unfold R.openQ; rw [if_neg (by rw [unhide HD]; simp), if_pos h16]
          go_wp2_with fail
          refine ((unhide K3).opens hP (by omega) eo).mono ?_
          rintro e w4 ⟨F4, rfl, k4, st4⟩
          have n4 := (unhide N3).stp st4
          obtain ⟨_, _, _, c35⟩ := ((unhide B3).stp st4).cells
          rw [h16] at c35
          have N4 := hide n4; clear n4 k4 st4 eo h16
          go_wp2
          go_ret
          exact ⟨rfl, (unhide N4).1⟩
        · have eo : s.openQ = (s.scopes + 1, 0, { s with scopes := s.scopes + 1 }) := by unfold R.openQ; rw [if_neg (by rw [unhide HD]; simp), if_neg h16]
          go_wp2_with fail
          refine ((unhide K3).opens hP (by omega) eo).mono ?_
          rintro e w4 ⟨F4, rfl, k4, st4⟩
          have n4 := (unhide N3).stp st4
          have b4 := (unhide B3).stp st4
          have l4 := (unhide L3).stp st4
          obtain ⟨_, _, _, c35⟩ := b4.cells
          have f35 := b4.blk.frozen 35
          have K4 := hide k4; have N4 := hide n4; have B4 := hide b4; have L4 := hide l4; clear k4 n4 b4 l4 st4 K3 N3 B3 L3 eo
          go_wp2_with fail
          have kc5 : Chg [bb] w4 (w4.setCell ⟨bb, 35, none⟩ (.int .i64 (s.scopes + 1))) := (Chg.refl _ w4).setCell (.inl (by simp)) _
          have b5 := (unhide B4).setOpen (s.scopes + 1)
          have k5 := (unhide K4).chg hP kc5 (fun b hb hm => ((unhide B4).out b (by simp at hm; rw [hm]; exact List.mem_cons_self)).1 hb)
          have n5 := (unhide N4).chgS kc5 (fun b hb => ((unhide B4).out b (by simp at hb; rw [hb]; exact List.mem_cons_self)).2)
          have l5 := (unhide L4).chg kc5 (fun x hx hm => unhide HAP bb List.mem_cons_self (by simp at hm; rw [← hm]; exact hx))
          generalize w4.setCell ⟨bb, 35, none⟩ (.int .i64 (s.scopes + 1)) = w5 at *
          have k6 := k5.beside l5
          have n6 := n5.beside (S := ab a3) (fun x hx => (l5.out x hx).2)
          have b6 := b5.beside (S := ab a3) (unhide HAP)
          have i6 : Inn s { s with scopes := s.scopes + 1 } := ⟨⟨[], by simp⟩, rfl, Kin.objs rfl⟩
          have d6 : ({ s with scopes := s.scopes + 1 } : R).dead = false := unhide HD
          generalize hls : (s.handles.map fun g => kq s g.num) = ls at *
          have HLS := hide hls
          have K6 := hide k6; have N6 := hide n6; have B6 := hide b6; have I6 := hide i6; have D6 := hide d6; clear k6 n6 b6 i6 d6 k5 n5 b5 l5 kc5 c35 f35 K4 N4 B4 L4 HAP hls
          go_loopw [19, 20, 21, 22] (fun i _ _ _ wq => ∃ (j : Nat) (s2 : R) (F2 : List Nat) (na2 sa2 la2 : Option Addr) (nc2 sc2 lc2 : Nat), i = .int .i64 j ∧ j ≤ tn ∧ KS (Bes G w a3 s.handles.length c3 ls) J wq bh s2 F2 (k + 1 + j) ∧ Newer w wq F2 ∧ s2.dead = false ∧ BK w wq bb s2.handles s2.scopes na2 sa2 la2 nc2 sc2 lc2 F2 ∧ Inn s s2) (fun i _ _ _ _ => tn - (intOf i).toNat)
          case atStart => exact ⟨0, { s with scopes := s.scopes + 1 }, F4 ++ ab a3, na, sa', la, nc, sc', lc, rfl, Nat.zero_le _, unhide K6, unhide N6, unhide D6, unhide B6, unhide I6⟩
          case round =>
            obtain ⟨j, s2, F2, na2, sa2, la2, nc2, sc2, lc2, rfl, hj, hks, hnw, hd, hbk, hin⟩ := hrel
            clear K6 N6 B6 I6 D6
            rename_i wq _
            by_cases hjt : j < tn
            · obtain ⟨o, ho⟩ : ∃ o, tps[j]? = some o := ⟨_, List.getElem?_eq_getElem (by rw [unhide HTN]; exact hjt)⟩
              have hoo := unhide HTOK o (List.mem_of_getElem? ho)
              obtain ⟨sb, soff, hsa, hsbw, hcel⟩ := unhide HTP (by rw [unhide HTN]; omega)
              subst hsa
              have hc8 : ∀ (w' : World), Chg [] w w' → ∀ i v, o.cells[i]? = some v → w'.cell? ⟨sb, soff + j * 8 + i, none⟩ = some v := fun w' h i v hv => by rw [h.cell hsbw (by simp)]; exact hcel j o ho i v hv
              have zk : (j : Int) < (tn : Int) := by omega
              have s0 := hc8 _ hnw.1 0 _ rfl
              have s1 := hc8 _ hnw.1 1 _ rfl
              have s2' := hc8 _ hnw.1 2 _ rfl
              have s3 := hc8 _ hnw.1 3 _ rfl
              have s4 := hc8 _ hnw.1 4 _ rfl
              have s5 := hc8 _ hnw.1 5 _ rfl
              have s6 := hc8 _ hnw.1 6 _ rfl
              have s7 := hc8 _ hnw.1 7 _ rfl
              rw [Nat.add_zero] at s0
              by_cases hsk : o.kind = 16 ∨ o.kind = 17 ∨ o.kind = 20
              · have HKS := hide (hks.mono (m' := k + 1 + (j + 1)) (by omega)); have HNW := hide hnw; have HD2 := hide hd; have HBK := hide hbk; have HIN := hide hin; clear hks hnw hd hbk hin hc8 hcel hsbw ho hoo
                rcases hsk with hsk | hsk | hsk
                · have e1 : (o.kind == 16) = true := by simp [hsk]
                  clear hsk
                  go_wp2
                  go_roundw
                  case rel => exact ⟨j + 1, s2, F2, na2, sa2, la2, nc2, sc2, lc2, by go_num, by omega, unhide HKS, unhide HNW, unhide HD2, unhide HBK, unhide HIN⟩
                  case measure => simp [intOf]; omega
                · have e1 : (o.kind == 16) = false := by simp [hsk]
                  have e2 : (o.kind == 17) = true := by simp [hsk]
                  clear hsk
                  go_wp2
                  go_roundw
                  case rel => exact ⟨j + 1, s2, F2, na2, sa2, la2, nc2, sc2, lc2, by go_num, by omega, unhide HKS, unhide HNW, unhide HD2, unhide HBK, unhide HIN⟩
                  case measure => simp [intOf]; omega
                · have e1 : (o.kind == 16) = false := by simp [hsk]
                  have e2 : (o.kind == 17) = false := by simp [hsk]
                  have e3 : (o.kind == 20) = true := by simp [hsk]
                  clear hsk
                  go_wp2
                  go_roundw
                  case rel => exact ⟨j + 1, s2, F2, na2, sa2, la2, nc2, sc2, lc2, by go_num, by omega, unhide HKS, unhide HNW, unhide HD2, unhide HBK, unhide HIN⟩
                  case measure => simp [intOf]; omega
              · have e1 : (o.kind == 16) = false := by simp; omega
                have e2 : (o.kind == 17) = false := by simp; omega
                have e3 : (o.kind == 20) = false := by simp; omega
                have hstep := bstep_q (kq_bes hP.q) hks (by omega) hd hnw hbk o hoo
                have hins : (s2.askQ o).e ≠ 12 → Inn s (s2.stepQ o) := fun he => inn_step hin o hd hks.all (by omega) he
                generalize s2.askQ o = an at *
                generalize s2.stepQ o = s' at *
                unfold Ans.val LOp.val at hstep
                have HSTEP := hide hstep; have HINS := hide hins; clear hstep hins hin hks hnw hd hbk hc8 hcel hsbw ho hoo hsk
                go_wp2_with fail
                refine (unhide HSTEP).mono ?_
                rintro e w7 ⟨rfl, F7, na7, sa7, la7, nc7, sc7, lc7, k7, n7, b7⟩
                have kb : Chg [] w7 (w7.alloc (.cells #[.int .i64 an.e, .int .i64 an.n, .bool an.b, .string an.s, .int .i64 an.v.1, .int .i64 an.v.2] 32)) := (Chg.refl [] w7).alloc _
                have hb8 : Blk (w7.alloc (.cells #[.int .i64 an.e, .int .i64 an.n, .bool an.b, .string an.s, .int .i64 an.v.1, .int .i64 an.v.2] 32)) w7.heap.size an.cells 32 := Blk.new w7 an.cells 32
                have a0 := hb8.cell_of (i := 0) (v := .int .i64 an.e) rfl
                have k8 := k7.chgq (kq_bes hP.q) kb (by simp)
                have n8 := n7.chg kb
                have b8 : an.e ≠ 12 → s'.dead = false ∧ BK w (w7.alloc (.cells #[.int .i64 an.e, .int .i64 an.n, .bool an.b, .string an.s, .int .i64 an.v.1, .int .i64 an.v.2] 32)) bb s'.handles s'.scopes na7 sa7 la7 nc7 sc7 lc7 F7 := fun he => ⟨(b7 he).1, (b7 he).2.quiet kb⟩
                have K8 := hide k8; have N8 := hide n8; have B8 := hide b8; clear k8 n8 b8 k7 n7 b7 kb hb8 s0 s1 s2' s3 s4 s5 s6 s7
                by_cases he : an.e = 12
                · have be : (an.e == 12) = true := by simp [he]
                  clear he
                  go_wp2
                  go_ret
                  exact ⟨rfl, (unhide N8).1⟩
                · have be : (an.e == 12) = false := by simp [he]
                  obtain ⟨hd8, hbk8⟩ := unhide B8 he
                  have HD8 := hide hd8; have HBK8 := hide hbk8; have HIN8 := hide (unhide HINS he); clear hd8 hbk8 B8
                  go_wp2
                  go_roundw
                  case rel => exact ⟨j + 1, s', F7, na7, sa7, la7, nc7, sc7, lc7, by go_num, by omega, unhide K8, unhide N8, unhide HD8, unhide HBK8, unhide HIN8⟩
                  case measure => simp [intOf]; omega
            · have hje : j = tn := by omega
              subst hje
              obtain ⟨F3', rfl, hk3, hl3⟩ := hks.unbeside
              have hn3 := hnw.unbeside
              obtain ⟨hb3, hap3⟩ := hbk.unbeside
              have hall2 := hk3.all
              have hhl2 : s2.handles.length ≤ 8796093022207 := by have := hk3.up.handles; omega
              have hsco := hin.sco
              have hs2 : 0 ≤ s2.scopes ∧ s2.scopes ≤ 16 := hall2.ok.inv.scopes
              have ec : s2.closeQ (s.scopes + 1) = (0, { s2 with handles := s2.handles.map (endQ 17 (s.scopes + 1)), scopes := s.scopes }) := by
                unfold R.closeQ
                rw [if_neg (by rw [hd]; simp), if_neg (by omega)]
                have e1 : s2.handles.map (RHan.shut (s.scopes + 1)) = s2.handles.map (endQ 17 (s.scopes + 1)) := List.map_congr_left fun g _ => by simp [endQ, endIs, RHan.shut]
                rw [e1, show s2.scopes - 1 = s.scopes by omega]
              have dsf : ({ s2 with handles := s2.handles.map (endQ 17 (s.scopes + 1)), scopes := s.scopes } : R).dead = false := hd
              have hlen : ({ s2 with handles := s2.handles.map (endQ 17 (s.scopes + 1)), scopes := s.scopes } : R).handles.length = s2.handles.length := by simp
              have hsfh : ({ s2 with handles := s2.handles.map (endQ 17 (s.scopes + 1)), scopes := s.scopes } : R).handles = s2.handles.map (endQ 17 (s.scopes + 1)) := rfl
              have hsfs : ({ s2 with handles := s2.handles.map (endQ 17 (s.scopes + 1)), scopes := s.scopes } : R).scopes = s.scopes := rfl
              have hsfo : ({ s2 with handles := s2.handles.map (endQ 17 (s.scopes + 1)), scopes := s.scopes } : R).objs = s2.objs := rfl
              generalize ({ s2 with handles := s2.handles.map (endQ 17 (s.scopes + 1)), scopes := s.scopes } : R) = sf at *
              have hclose := hk3.close hP (by omega) (s.scopes + 1) ⟨by omega, by omega⟩ ec
              have HCL := hide hclose; have HN3 := hide hn3; have HB3 := hide hb3; have HL3 := hide hl3; have HAP3 := hide hap3; have HIN := hide hin; have HDF := hide dsf; have HFH := hide hsfh; have HFS := hide hsfs; have HFO := hide hsfo; have HLEN := hide hlen
              clear hclose hn3 hb3 hl3 hap3 hin dsf hsfh hsfs hsfo hlen ec hk3 hks hnw hbk hall2
              go_wp2_with fail
              refine (unhide HCL).mono ?_
              rintro e w7 ⟨F7, rfl, k7, st7⟩
              have n7 := (unhide HN3).stp st7
              have b7 := (unhide HB3).stp st7
              have l7 := (unhide HL3).stp st7
              have hends := ends_book b7 (by omega) (openOp (s.scopes + 1)) hs2
              unfold LOp.val openOp at hends
              have K7 := hide k7; have N7 := hide n7; have B7 := hide b7; have L7 := hide l7; have HE := hide hends; clear k7 n7 b7 l7 hends st7 HCL HN3 HB3 HL3
              go_wp2_with fail
              refine (unhide HE).mono ?_
              rintro e w8 ⟨rfl, b8, kc8⟩
              have hsub : ∀ x ∈ bb :: ab la2, x ∈ bb :: (ab na2 ++ (ab sa2 ++ ab la2)) := fun x hx => by
                rcases List.mem_cons.1 hx with h | h
                · rw [h]; exact List.mem_cons_self
                · exact List.mem_cons_of_mem _ (List.mem_append_right _ (List.mem_append_right _ h))
              have k8 := (unhide K7).chg hP kc8 (fun b hb hm => ((unhide B7).out b (hsub b hm)).1 hb)
              have n8 := (unhide N7).chgS kc8 (fun b hb => ((unhide B7).out b (hsub b hb)).2)
              have l8 := (unhide L7).chg kc8 (fun x hx hm => unhide HAP3 x hx (hsub x hm))
              simp only [if_true] at b8
              rw [show s2.scopes - 1 = s.scopes by omega] at b8
              rw [← unhide HFH] at b8
              have hks8 := kinds_any hP k8 (by omega) b8
              obtain ⟨c0, _, _, _⟩ := b8.cells
              rw [show (sf.handles.map RHan.num).length = sf.handles.length from by simp] at c0
              have K8 := hide k8; have N8 := hide n8; have B8 := hide b8; have L8 := hide l8; have HK8 := hide hks8; clear k8 n8 b8 l8 hks8 kc8 hsub K7 N7 B7 L7 HE HAP3
              go_wp2_with fail
              refine (unhide HK8).mono ?_
              rintro e w9 ⟨F9, a9, c9, rfl, k9, st9, l9⟩
              have n9 := (unhide N8).stp st9
              have b9 := (unhide B8).stp st9
              have m9 := (unhide L8).stp st9
              obtain ⟨_, _, _, c35⟩ := b9.cells
              have hne : (s.scopes + 1 != s.scopes + 1) = false := by simp
              have hall9 := k9.all
              have hend : ∀ (i : Nat) (g : RHan), sf.handles[i]? = some g → (decide (0 < kq sf g.num)) = g.live ∧ (∀ g0 : RHan, s.handles[i]? = some g0 → kq sf g.num = kq s g0.num) := fun i g hg => inn_end (unhide HIN) (unhide HSC) (unhide HD) (unhide HALL) (unhide HDF) hall9 (unhide HFH) (unhide HFO) hg
              have hlen9 := unhide HLEN
              have hold : s.handles.length ≤ sf.handles.length := by
                obtain ⟨t, ht⟩ := (unhide HIN).han
                rw [unhide HLEN, ht]; simp
              have hlb : ∀ w' , Chg [] w9 w' → ∀ (i : Nat) (g : RHan), sf.handles[i]? = some g → w'.cell? ⟨bb, 2, none⟩ = some (.slice la2 sf.handles.length lc2) ∧ ∃ ga gl, a9 = some ⟨ga, 0, none⟩ ∧ la2 = some ⟨gl, 0, none⟩ ∧ w'.cell? ⟨ga, i, none⟩ = some (.int .i64 (kq sf g.num)) ∧ w'.cell? ⟨gl, i, none⟩ = some (.bool g.live) := fun w' kk i g hg => by
                have b' := b9.quiet kk
                have l' := l9.chg kk (by simp)
                have hi := (List.getElem?_eq_some_iff.1 hg).1
                obtain ⟨_, _, d2, _⟩ := b'.cells
                rw [show (sf.handles.map RHan.live).length = sf.handles.length from by simp] at d2
                obtain ⟨gl, e1, q2, _⟩ := b'.liveAt (i := i) (by simpa using hi)
                obtain ⟨ga, e2, q3⟩ := l'.cellAt (i := i) (x := kq sf g.num) (by simp [hg])
                refine ⟨d2, ga, gl, e2, e1, q3, ?_⟩
                rw [q2]; simp [List.getD, hg]
              have hlo : ∀ w' , Chg [] w9 w' → ∀ (i : Nat) (g0 : RHan), s.handles[i]? = some g0 → ∃ gb, a3 = some ⟨gb, 0, none⟩ ∧ w'.cell? ⟨gb, i, none⟩ = some (.int .i64 (kq s g0.num)) := fun w' kk i g0 hg => by
                have l' := m9.chg kk (by simp)
                exact l'.cellAt (i := i) (x := kq s g0.num) (by rw [← unhide HLS]; simp [hg])
              have HEND := hide hend; have N9 := hide n9; have HLB := hide hlb; have HLO := hide hlo; clear hend n9 hlb hlo b9 m9 l9 k9 st9 hall9 c0 HK8 K8 N8 B8 L8 HIN HDF HFH HFS HFO HLS HLEN
              have hq35 := c35
              have zlen : sf.handles.length ≤ 8796093022207 := by rw [hlen9]; exact hhl2
              clear hlen9
              go_wp2_with fail
              go_loopw [24] (fun i wq => ∃ i' : Nat, i' ≤ sf.handles.length ∧ i = .int .i64 i' ∧ Chg [] w9 wq) (fun i _ => sf.handles.length - (intOf i).toNat)
              case atStart => exact ⟨0, Nat.zero_le _, rfl, by first | exact Chg.refl [] _ | exact (Chg.refl [] _).drew | exact (Chg.refl [] _).drewN _⟩
              case round =>
                obtain ⟨i, hi, rfl, kk⟩ := hrel
                by_cases hil : i < sf.handles.length
                · obtain ⟨g, hg⟩ : ∃ g, sf.handles[i]? = some g := ⟨_, List.getElem?_eq_getElem hil⟩
                  obtain ⟨d2, ga, gl, e1, e2, q1, q2⟩ := unhide HLB _ kk i g hg
                  subst e1 e2
                  obtain ⟨p1, p2⟩ := unhide HEND i g hg
                  have zi : (i : Int) < (sf.handles.length : Int) := by omega
                  have KK := hide kk; clear kk
                  by_cases hio : i < s.handles.length
                  · obtain ⟨g0, hg0⟩ : ∃ g, s.handles[i]? = some g := ⟨_, List.getElem?_eq_getElem hio⟩
                    obtain ⟨gb, e3, q3⟩ := unhide HLO _ (unhide KK) i g0 hg0
                    subst e3
                    rw [← p2 g0 hg0] at q3
                    have zo : (i : Int) < (s.handles.length : Int) := by omega
                    clear p2 hg hg0
                    generalize kq sf g.num = kv at *
                    generalize g.live = glv at *
                    have hkk : (kv != kv) = false := by simp
                    cases glv with
                    | true =>
                      have hp : 0 < kv := by simpa using p1
                      clear p1
                      go_wp2_with fail
                      go_quiet (fail)
                      go_wp2
                      go_roundw
                      case rel => exact ⟨i + 1, by omega, by go_num, by first | exact unhide KK | exact (unhide KK).drew | exact (unhide KK).drewN _⟩
                      case measure => simp [intOf]; omega
                    | false =>
                      have hp : decide (0 < kv) = false := p1
                      clear p1
                      go_wp2_with fail
                      go_quiet (fail)
                      go_wp2
                      go_roundw
                      case rel => exact ⟨i + 1, by omega, by go_num, by first | exact unhide KK | exact (unhide KK).drew | exact (unhide KK).drewN _⟩
                      case measure => simp [intOf]; omega
                  · have zo : decide ((i : Int) < (s.handles.length : Int)) = false := decide_eq_false (by omega)
                    clear p2 hg
                    generalize kq sf g.num = kv at *
                    generalize g.live = glv at *
                    cases glv with
                    | true =>
                      have hp : 0 < kv := by simpa using p1
                      clear p1
                      go_wp2_with fail
                      go_quiet (fail)
                      go_wp2
                      go_roundw
                      case rel => exact ⟨i + 1, by omega, by go_num, by first | exact unhide KK | exact (unhide KK).drew | exact (unhide KK).drewN _⟩
                      case measure => simp [intOf]; omega
                    | false =>
                      have hp : decide (0 < kv) = false := p1
                      clear p1
                      go_wp2_with fail
                      go_quiet (fail)
                      go_wp2
                      go_roundw
                      case rel => exact ⟨i + 1, by omega, by go_num, by first | exact unhide KK | exact (unhide KK).drew | exact (unhide KK).drewN _⟩
                      case measure => simp [intOf]; omega
                · have hie : i = sf.handles.length := by omega
                  subst hie
                  have KK := hide kk; clear kk
                  go_wp2
                  go_ret
                  exact ⟨rfl, ((unhide N9).chg (unhide KK)).1⟩
end Go.Proofs.Ytfoncalkgmeklaa

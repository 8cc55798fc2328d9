/- gripkeep.Unmoved, of a program that keeps the document. -/
import Derived.Test.YtfoncalkgmeklabXwM47
import Derived.Test.YtfoncalkgmeklabXwM45
namespace Go.Proofs.Ytfoncalkgmeklab
open Go.RowKit

set_option maxRecDepth 100000 in
set_option maxHeartbeats 16000000 in
theorem walk_unmoved {w : World} {G : World → Nat → R → List Nat → Prop} {J : R → Prop} (hP : KP G J) (l : Int) (_ : I64 l) (a : Option Addr) (n c : Nat) (fs : List Bool) (_ : n ≤ c) (hl : fs.length = n) (hf : FlagsAt w a fs) (_ : n ≤ 140737488351232)
    (l2 : Int) (_ : I64 l2) (a2 : Option Addr) (n2 c2 : Nat) (fs2 : List Bool) (_ : n2 ≤ c2) (hl2 : fs2.length = n2) (hf2 : FlagsAt w a2 fs2) (_ : n2 ≤ 140737488351232)
    (sa : Option Addr) (sn sc : Nat) (ops : List LOp) (hsn : ops.length = sn) (hok : ∀ o ∈ ops, o.Ok) (hop : OpsAt w sa ops) (hsb : sn ≤ 2199023255552) :
    Calls Try.prog 5 #[.int .i64 l, .slice a n c, .int .i64 l2, .slice a2 n2 c2, .slice sa sn sc] w fun e w' => e = .returned (.bool true) ∧ Chg [] w w' := by
  have HL := hide hl; have HF := hide hf; have HL2 := hide hl2; have HF2 := hide hf2; have HSN := hide hsn; have HOK := hide hok; have HOP := hide hop
  clear hl hf hl2 hf2 hsn hok hop
  by_cases hb : l < 1 ∨ 512 < l ∨ 64 < n
  · have HB := hide hb; clear hb
    by_cases hb2 : l2 < 1 ∨ 512 < l2 ∨ 64 < n2
    · have HB2 := hide hb2; clear hb2
      go_enter Try.func5, Try.ntmps5
      go_wp2_with fail
      refine (kbegin_bad hP l a n c w (unhide HB)).mono ?_
      rintro e w1 ⟨rfl, hc⟩
      have HC := hide hc; clear hc
      go_wp2_with fail
      refine (kbegin_bad hP l2 a2 n2 c2 w1 (unhide HB2)).mono ?_
      rintro e w2 ⟨rfl, hc2⟩
      have HC2 := hide ((unhide HC).trans hc2); clear hc2
      go_wp2
      go_ret
      exact ⟨rfl, unhide HC2⟩
    · go_enter Try.func5, Try.ntmps5
      go_wp2_with fail
      refine (kbegin_bad hP l a n c w (unhide HB)).mono ?_
      rintro e w1 ⟨rfl, hc⟩
      have HC := hide hc; clear hc
      go_wp2_with fail
      refine (kbegin_ok hP l2 a2 n2 c2 fs2 w1 (by omega) (by omega) (by omega) (unhide HL2) ((unhide HF2).chg (unhide HC))).mono ?_
      rintro e w2 ⟨bg, E2, rfl, k2, nw2⟩
      have HC2 := hide ((unhide HC).trans nw2.1); clear k2 nw2
      go_wp2
      go_ret
      exact ⟨rfl, unhide HC2⟩
  · have h1 : 1 ≤ l := by omega
    have h2 : l ≤ 512 := by omega
    have h3 : n ≤ 64 := by omega
    clear hb
    by_cases hb2 : l2 < 1 ∨ 512 < l2 ∨ 64 < n2
    · have HB2 := hide hb2; clear hb2
      go_enter Try.func5, Try.ntmps5
      go_wp2_with fail
      refine (kbegin_ok hP l a n c fs w h1 h2 h3 (unhide HL) (unhide HF)).mono ?_
      rintro e w1 ⟨bh, F1, rfl, k1, n1⟩
      have HC := hide n1.1; clear k1 n1
      go_wp2_with fail
      refine (kbegin_bad hP l2 a2 n2 c2 w1 (unhide HB2)).mono ?_
      rintro e w2 ⟨rfl, hc2⟩
      have HC2 := hide ((unhide HC).trans hc2); clear hc2
      go_wp2
      go_ret
      exact ⟨rfl, unhide HC2⟩
    · have g1 : 1 ≤ l2 := by omega
      have g2 : l2 ≤ 512 := by omega
      have g3 : n2 ≤ 64 := by omega
      clear hb2
      go_enter Try.func5, Try.ntmps5
      go_wp2_with fail
      refine (kbegin_ok hP l a n c fs w h1 h2 h3 (unhide HL) (unhide HF)).mono ?_
      rintro e w1 ⟨bh, F1, rfl, k1, n1⟩
      have K1 := hide k1; have N1 := hide n1; clear k1 n1
      go_wp2_with fail
      refine (kbegin_ok hP l2 a2 n2 c2 fs2 w1 g1 g2 g3 (unhide HL2) ((unhide HF2).chg (unhide N1).1)).mono ?_
      rintro e w2 ⟨bg, E2, rfl, k2, n2'⟩
      have hdis : ∀ b ∈ F1, b ∉ E2 := fun b hb hm => by have := (unhide K1).lt b hb; have := n2'.2 b hm; omega
      have hE : ∀ b ∈ E2, w.heap.size ≤ b := fun b hb => Nat.le_trans (unhide N1).1.size (n2'.2 b hb)
      have hcore : Core (R.init l fs) (R.init l2 fs2) := ⟨l2, fs2, 0, [], rfl⟩
      have K1' := hide ((unhide K1).chg hP n2'.1 (by simp)); have N1' := hide ((unhide N1).chg n2'.1); have K2 := hide k2; have HDIS := hide hdis; have HE := hide hE; have HCO := hide hcore
      clear k2 n2' hdis hE hcore K1 N1
      go_wp2_with fail
      go_loopw [15, 16, 17] (fun v15 v16 i wr => ∃ (k : Nat) (s t : R) (F E : List Nat), v15 = .bool s.dead ∧ v16 = .bool t.dead ∧ i = .int .i64 k ∧ k ≤ sn ∧ KS G J wr bh s F k ∧ KS G J wr bg t E k ∧ (∀ b ∈ F, b ∉ E) ∧ Newer w wr F ∧ (∀ b ∈ E, w.heap.size ≤ b) ∧ (s.dead = false → t.dead = false → Core s t)) (fun _ _ i _ => sn - (intOf i).toNat)
      case atStart => exact ⟨0, R.init l fs, R.init l2 fs2, F1, E2, rfl, rfl, rfl, Nat.zero_le _, unhide K1', unhide K2, unhide HDIS, unhide N1', unhide HE, fun _ _ => unhide HCO⟩
      case round =>
        obtain ⟨k, s, t, F, E, rfl, rfl, rfl, hk, hks, hkt, hdis, hnw, hE, hcore⟩ := hrel
        clear K1' N1' K2 HDIS HE HCO
        by_cases hlt : k < sn
        · obtain ⟨o, ho⟩ : ∃ o, ops[k]? = some o := ⟨_, List.getElem?_eq_getElem (by rw [unhide HSN]; exact hlt)⟩
          have hoo := unhide HOK o (List.mem_of_getElem? ho)
          obtain ⟨sb, soff, hsa, hsbw, hcel⟩ := unhide HOP (by rw [unhide HSN]; omega)
          subst hsa
          have hc8 : ∀ (w' : World), Chg [] w w' → (w'.cell? ⟨sb, soff + k * 8, none⟩ = some (.int .i64 o.kind) ∧ w'.cell? ⟨sb, soff + k * 8 + 1, none⟩ = some (.int .i64 o.x) ∧ w'.cell? ⟨sb, soff + k * 8 + 2, none⟩ = some (.int .i64 o.y) ∧ w'.cell? ⟨sb, soff + k * 8 + 3, none⟩ = some (.int .i64 o.k.1) ∧ w'.cell? ⟨sb, soff + k * 8 + 4, none⟩ = some (.int .i64 o.k.2) ∧ w'.cell? ⟨sb, soff + k * 8 + 5, none⟩ = some (.int .i64 o.v.1) ∧ w'.cell? ⟨sb, soff + k * 8 + 6, none⟩ = some (.int .i64 o.v.2) ∧ w'.cell? ⟨sb, soff + k * 8 + 7, none⟩ = some (.string o.s)) := fun w' h => by
            have h8 : ∀ i v, o.cells[i]? = some v → w'.cell? ⟨sb, soff + k * 8 + i, none⟩ = some v := fun i v hv => by rw [h.cell hsbw (by simp)]; exact hcel k o ho i v hv
            refine ⟨?_, h8 1 _ rfl, h8 2 _ rfl, h8 3 _ rfl, h8 4 _ rfl, h8 5 _ rfl, h8 6 _ rfl, h8 7 _ rfl⟩
            have := h8 0 _ rfl
            rwa [Nat.add_zero] at this
          have zk : (k : Int) < (sn : Int) := by omega
          obtain ⟨s0, s1, s2, s3, s4, s5, s6, s7⟩ := hc8 wr hnw.1
          have hask := hks.ask hP (by omega) o hoo
          have hmem : s.dead = false → (s.stepQ o).dead = ((s.askQ o).e == 12) := mem_iff o
          have hmet : t.dead = false → (t.stepQ o).dead = ((t.askQ o).e == 12) := mem_iff o
          have hsta : s.dead = true → (s.stepQ o).dead = true := fun h => dead_stays h o
          have htta : t.dead = true → (t.stepQ o).dead = true := fun h => dead_stays h o
          have hsno : s.dead = true → (1 ≤ o.kind ∧ o.kind ≤ 23) → s.askQ o = Ans.none 2 := fun h hk => (dead_ask h o hk).1
          have htno : t.dead = true → (1 ≤ o.kind ∧ o.kind ≤ 23) → t.askQ o = Ans.none 2 := fun h hk => (dead_ask h o hk).1
          have htw : s.dead = false → t.dead = false → (s.askQ o).e ≠ 12 → (t.askQ o).e ≠ 12 → Core (s.stepQ o) (t.stepQ o) ∧ (s.askQ o).blind o.kind = (t.askQ o).blind o.kind := fun h1 h2 => twin_step (hcore h1 h2) o
          have hasg : ∀ w' E', KS G J w' bg t E' k → Calls Try.prog 21 #[.pointer (some ⟨bg, 0, none⟩), o.val] w' fun e w'' => ∃ F', e = .returned (t.askQ o).val ∧ KS G J w'' bg (t.stepQ o) F' (k + 1) ∧ Stp E' w' F' w'' := fun w' E' h => h.ask hP (by omega) o hoo
          generalize s.askQ o = an at *
          generalize t.askQ o = bn at *
          generalize s.stepQ o = s' at *
          generalize t.stepQ o = t' at *
          generalize s.dead = d at *
          generalize t.dead = g at *
          unfold Ans.val at hask hasg
          have HASK := hide hask; have HASG := hide hasg; have HMEM := hide hmem; have HMET := hide hmet; have HSTA := hide hsta; have HTTA := hide htta; have HSNO := hide hsno; have HTNO := hide htno; have HTW := hide htw; have HC8 := hide hc8; have HKT := hide hkt; have HDIS := hide hdis; have HNW := hide hnw; have HE := hide hE
          have hElt : ∀ b ∈ E, b < wr.heap.size := hkt.lt
          have HELT := hide hElt
          clear hask hasg hmem hmet hsta htta hsno htno htw hc8 hkt hdis hnw hE hElt hks hcel hsbw ho hoo hcore
          go_wp2_with fail
          refine (unhide HASK).mono ?_
          rintro e w4 ⟨F4, rfl, k4, st4⟩
          have kb4 : Chg [] w4 (w4.alloc (.cells #[.int .i64 an.e, .int .i64 an.n, .bool an.b, .string an.s, .int .i64 an.v.1, .int .i64 an.v.2] 47)) := (Chg.refl [] w4).alloc _
          have hb4 : Blk (w4.alloc (.cells #[.int .i64 an.e, .int .i64 an.n, .bool an.b, .string an.s, .int .i64 an.v.1, .int .i64 an.v.2] 47)) w4.heap.size an.cells 47 := Blk.new w4 an.cells 47
          have hn4' := (unhide HNW).stp st4
          have HN4' := hide hn4'
          have hn4 := hn4'.chg kb4
          clear hn4'
          have hk4 := k4.chg hP kb4 (by simp)
          have hd4 : ∀ b ∈ F4, b ∉ E := fun b hb hm => by
            rcases st4.foot b hb with h8 | h8
            · exact unhide HDIS b h8 hm
            · have := unhide HELT b hm; omega
          have hkt4 := ((unhide HKT).chg hP st4.chg (fun b hb hm => unhide HDIS b hm hb)).chg hP kb4 (by simp)
          have hsz4 : wr.heap.size ≤ w4.heap.size := st4.chg.size
          have hF4 : ∀ b ∈ F4, b < w4.heap.size := k4.lt
          obtain ⟨s0, s1, s2, s3, s4, s5, s6, s7⟩ := unhide HC8 _ hn4.1
          have hasg := unhide HASG _ _ hkt4
          have HASG4 := hide hasg; have HB4 := hide hb4; have HN4 := hide hn4; have HK4 := hide hk4; have HD4 := hide hd4; have HSZ4 := hide hsz4; have HF4 := hide hF4
          clear hasg hb4 hn4 hk4 hd4 hkt4 kb4 k4 st4 hsz4 hF4 HASK HASG HKT HDIS HNW
          go_wp2_with fail
          refine (unhide HASG4).mono ?_
          rintro e w6 ⟨E6, rfl, k6, st6⟩
          have kb6 : Chg [] w6 (w6.alloc (.cells #[.int .i64 bn.e, .int .i64 bn.n, .bool bn.b, .string bn.s, .int .i64 bn.v.1, .int .i64 bn.v.2] 47)) := (Chg.refl [] w6).alloc _
          have hb6 : Blk (w6.alloc (.cells #[.int .i64 bn.e, .int .i64 bn.n, .bool bn.b, .string bn.s, .int .i64 bn.v.1, .int .i64 bn.v.2] 47)) w6.heap.size bn.cells 47 := Blk.new w6 bn.cells 47
          have hA : w4.heap.size ∉ E := fun hm => by have := unhide HELT _ hm; have := unhide HSZ4; omega
          have hb46 := ((unhide HB4).chg st6.chg hA).chg kb6 (by simp)
          have hn6 := ((unhide HN4).chgS st6.chg (unhide HE)).chg kb6
          have hk6 := ((unhide HK4).chg hP st6.chg (fun b hb hm => unhide HD4 b hb hm)).chg hP kb6 (by simp)
          have hkt6 := k6.chg hP kb6 (by simp)
          have hd6 : ∀ b ∈ F4, b ∉ E6 := fun b hb hm => by
            rcases st6.foot b hm with h8 | h8
            · exact unhide HD4 b hb h8
            · have := unhide HF4 b hb; have h9 : ((w4.alloc (.cells #[.int .i64 an.e, .int .i64 an.n, .bool an.b, .string an.s, .int .i64 an.v.1, .int .i64 an.v.2] 47))).heap.size = w4.heap.size + 1 := by simp
              omega
          have hE6 : ∀ b ∈ E6, w.heap.size ≤ b := fun b hb => by
            rcases st6.foot b hb with h8 | h8
            · exact unhide HE b h8
            · exact Nat.le_trans (unhide HN4).1.size h8
          have hbox : ∀ W, Chg [] (w6.alloc (.cells #[.int .i64 bn.e, .int .i64 bn.n, .bool bn.b, .string bn.s, .int .i64 bn.v.1, .int .i64 bn.v.2] 47)) W → (W.cell? ⟨sb, soff + k * 8, none⟩ = some (.int .i64 o.kind) ∧ W.cell? ⟨sb, soff + k * 8 + 1, none⟩ = some (.int .i64 o.x) ∧ W.cell? ⟨sb, soff + k * 8 + 2, none⟩ = some (.int .i64 o.y) ∧ W.cell? ⟨sb, soff + k * 8 + 3, none⟩ = some (.int .i64 o.k.1) ∧ W.cell? ⟨sb, soff + k * 8 + 4, none⟩ = some (.int .i64 o.k.2) ∧ W.cell? ⟨sb, soff + k * 8 + 5, none⟩ = some (.int .i64 o.v.1) ∧ W.cell? ⟨sb, soff + k * 8 + 6, none⟩ = some (.int .i64 o.v.2) ∧ W.cell? ⟨sb, soff + k * 8 + 7, none⟩ = some (.string o.s)) ∧ (W.cell? ⟨w4.heap.size, 0, none⟩ = some (.int .i64 an.e) ∧ W.cell? ⟨w4.heap.size, 1, none⟩ = some (.int .i64 an.n) ∧ W.cell? ⟨w4.heap.size, 2, none⟩ = some (.bool an.b) ∧ W.cell? ⟨w4.heap.size, 3, none⟩ = some (.string an.s) ∧ W.cell? ⟨w4.heap.size, 4, none⟩ = some (.int .i64 an.v.1) ∧ W.cell? ⟨w4.heap.size, 5, none⟩ = some (.int .i64 an.v.2)) ∧ (W.cell? ⟨w6.heap.size, 0, none⟩ = some (.int .i64 bn.e) ∧ W.cell? ⟨w6.heap.size, 1, none⟩ = some (.int .i64 bn.n) ∧ W.cell? ⟨w6.heap.size, 2, none⟩ = some (.bool bn.b) ∧ W.cell? ⟨w6.heap.size, 3, none⟩ = some (.string bn.s) ∧ W.cell? ⟨w6.heap.size, 4, none⟩ = some (.int .i64 bn.v.1) ∧ W.cell? ⟨w6.heap.size, 5, none⟩ = some (.int .i64 bn.v.2)) := fun W kW => by
            have h6 := hb46.chg kW (by simp)
            have h7 := hb6.chg kW (by simp)
            exact ⟨unhide HC8 W (hn6.1.trans kW), ⟨h6.cell_of (i := 0) rfl, h6.cell_of (i := 1) rfl, h6.cell_of (i := 2) rfl, h6.cell_of (i := 3) rfl, h6.cell_of (i := 4) rfl, h6.cell_of (i := 5) rfl⟩, h7.cell_of (i := 0) rfl, h7.cell_of (i := 1) rfl, h7.cell_of (i := 2) rfl, h7.cell_of (i := 3) rfl, h7.cell_of (i := 4) rfl, h7.cell_of (i := 5) rfl⟩
          have hAF : w4.heap.size ∉ F4 := fun hm => by have := unhide HF4 _ hm; omega
          have hBE : w6.heap.size ∉ E6 := fun hm => by have := k6.lt _ hm; omega
          have hBF : w6.heap.size ∉ F4 := fun hm => by have := unhide HF4 _ hm; have := st6.chg.size; simp at this; omega
          have hAE : w4.heap.size ∉ E6 := fun hm => by
            rcases st6.foot _ hm with h8 | h8
            · exact hA h8
            · simp at h8; omega
          have hAw : w.heap.size ≤ w4.heap.size := (unhide HN4').1.size
          have hBw : w.heap.size ≤ w6.heap.size := Nat.le_trans hAw (by have := st6.chg.size; simp at this; omega)
          have hfin : ∀ W S, Chg S (w6.alloc (.cells #[.int .i64 bn.e, .int .i64 bn.n, .bool bn.b, .string bn.s, .int .i64 bn.v.1, .int .i64 bn.v.2] 47)) W → (∀ x ∈ S, x = w4.heap.size ∨ x = w6.heap.size) → KS G J W bh s' F4 (k + 1) ∧ KS G J W bg t' E6 (k + 1) ∧ (∀ b ∈ F4, b ∉ E6) ∧ Newer w W F4 ∧ (∀ b ∈ E6, w.heap.size ≤ b) := fun W S kW hS =>
            ⟨hk6.chg hP kW (fun b hb hm => by rcases hS b hm with rfl | rfl; exact hAF hb; exact hBF hb), hkt6.chg hP kW (fun b hb hm => by rcases hS b hm with rfl | rfl; exact hAE hb; exact hBE hb), hd6, hn6.chgS kW (fun b hm => by rcases hS b hm with rfl | rfl; exact hAw; exact hBw), hE6⟩
          clear hAF hBE hBF hAE hAw hBw
          have HBOX := hide hbox; have HFIN := hide hfin
          have HB46 := hide hb46; have HB6 := hide hb6; have HN6 := hide hn6
          have HAS := hide (show w4.heap.size < w6.heap.size by have := st6.chg.size; simp at this; omega)
          clear hbox hfin hb46 hb6 hn6 hk6 hkt6 hd6 hE6 hA kb6 k6 st6 HASG4 HB4 HN4 HK4 HD4 HE s0 s1 s2 s3 s4 s5 s6 s7
          obtain ⟨⟨s0, s1, s2, s3, s4, s5, s6, s7⟩, ⟨a0, a1, a2', a3, a4, a5⟩, b0, b1, b2, b3, b4, b5⟩ := unhide HBOX _ (Chg.refl _ _)
          clear s1 s2 s3 s4 s5 s6 s7
          by_cases hkn : 1 ≤ o.kind ∧ o.kind ≤ 23
          · obtain ⟨z1, z2⟩ := hkn
            have z1' : o.kind ≥ 1 := z1
            cases d with
            | true =>
              obtain rfl := unhide HSNO rfl ⟨z1, z2⟩
              have hs' := unhide HSTA rfl
              have HS' := hide hs'; clear hs' HSNO HSTA HMEM HTW
              dsimp only [Ans.none] at *
              cases g with
              | true =>
                obtain rfl := unhide HTNO rfl ⟨z1, z2⟩
                have ht' := unhide HTTA rfl
                have HT' := hide ht'; clear ht' HTNO HTTA HMET
                dsimp only [Ans.none] at *
                clear a1 a2' a3 a4 a5 b1 b2 b3 b4 b5 a0 b0
                obtain ⟨_, ⟨a0, a1, a2', a3, a4, a5⟩, _⟩ := unhide HBOX _ (Chg.refl _ _)
                go_wp2_with fail
                refine (nothing_yes 2 _).mono ?_
                rintro e w8 ⟨rfl, hc8⟩
                clear s0 a0 a1 a2' a3 a4 a5
                obtain ⟨⟨s0, _⟩, _, b0, b1, b2, b3, b4, b5⟩ := unhide HBOX _ hc8
                have HC := hide hc8; clear hc8
                go_wp2_with fail
                refine (nothing_yes 2 _).mono ?_
                rintro e w9 ⟨rfl, hc9⟩
                obtain ⟨f1, f2, f3, f4, f5⟩ := unhide HFIN _ [] ((unhide HC).trans hc9) (by simp)
                have F1 := hide f1; have F2 := hide f2; have F3 := hide f3; have F4' := hide f4; have F5 := hide f5; clear hc9 f1 f2 f3 f4 f5 s0 b0 b1 b2 b3 b4 b5
                go_wp2
                go_roundw
                case rel => exact ⟨k + 1, s', t', F4, E6, by rw [unhide HS'], by rw [unhide HT'], by go_num, by omega, unhide F1, unhide F2, unhide F3, unhide F4', unhide F5, fun h => absurd h (by rw [unhide HS']; simp)⟩
                case measure => simp [intOf]; omega
              | false =>
                have hmt := unhide HMET rfl
                have HMT := hide hmt; clear hmt HTNO HTTA HMET
                go_wp2_with fail
                refine (nothing_yes 2 _).mono ?_
                rintro e w8 ⟨rfl, hc8⟩
                clear s0 a0 a1 a2' a3 a4 a5 b0 b1 b2 b3 b4 b5
                obtain ⟨⟨s0, _⟩, _, b0, _⟩ := unhide HBOX _ hc8
                obtain ⟨f1, f2, f3, f4, f5⟩ := unhide HFIN _ [] hc8 (by simp)
                have F1 := hide f1; have F2 := hide f2; have F3 := hide f3; have F4' := hide f4; have F5 := hide f5; clear hc8 f1 f2 f3 f4 f5
                go_wp2
                go_roundw
                case rel => exact ⟨k + 1, s', t', F4, E6, by rw [unhide HS'], by rw [unhide HMT], by go_num, by omega, unhide F1, unhide F2, unhide F3, unhide F4', unhide F5, fun h => absurd h (by rw [unhide HS']; simp)⟩
                case measure => simp [intOf]; omega
            | false =>
              cases g with
              | true =>
                obtain rfl := unhide HTNO rfl ⟨z1, z2⟩
                have ht' := unhide HTTA rfl
                have hms := unhide HMEM rfl
                have HT' := hide ht'; have HMS := hide hms; clear ht' hms HTNO HTTA HMET HSNO HSTA HMEM HTW
                dsimp only [Ans.none] at *
                clear a1 a2' a3 a4 a5
                go_wp2_with fail
                refine (nothing_yes 2 _).mono ?_
                rintro e w8 ⟨rfl, hc8⟩
                clear s0 a0 b0 b1 b2 b3 b4 b5
                obtain ⟨⟨s0, _⟩, ⟨a0, _⟩, _⟩ := unhide HBOX _ hc8
                obtain ⟨f1, f2, f3, f4, f5⟩ := unhide HFIN _ [] hc8 (by simp)
                have F1 := hide f1; have F2 := hide f2; have F3 := hide f3; have F4' := hide f4; have F5 := hide f5; clear hc8 f1 f2 f3 f4 f5
                go_wp2
                go_roundw
                case rel => exact ⟨k + 1, s', t', F4, E6, by rw [unhide HMS], by rw [unhide HT'], by go_num, by omega, unhide F1, unhide F2, unhide F3, unhide F4', unhide F5, fun _ h => absurd h (by rw [unhide HT']; simp)⟩
                case measure => simp [intOf]; omega
              | false =>
                have hms := unhide HMEM rfl
                have hmt := unhide HMET rfl
                have htw := unhide HTW rfl rfl
                have HMS := hide hms; have HMT := hide hmt; have HTW' := hide htw; clear hms hmt htw HSNO HSTA HMEM HTW HTNO HTTA HMET
                by_cases e1 : an.e = 12
                · have hb1 : (an.e == 12) = true := by simp [e1]
                  have hs' : s'.dead = true := by rw [unhide HMS, hb1]
                  have HS' := hide hs'; clear hs' e1
                  clear a1 a2' a3 a4 a5 b1 b2 b3 b4 b5
                  obtain ⟨f1, f2, f3, f4, f5⟩ := unhide HFIN _ [] (Chg.refl _ _) (by simp)
                  have F1 := hide f1; have F2 := hide f2; have F3 := hide f3; have F4' := hide f4; have F5 := hide f5; clear f1 f2 f3 f4 f5
                  go_wp2
                  go_roundw
                  case rel => exact ⟨k + 1, s', t', F4, E6, by rw [unhide HS'], by rw [unhide HMT], by go_num, by omega, unhide F1, unhide F2, unhide F3, unhide F4', unhide F5, fun h => absurd h (by rw [unhide HS']; simp)⟩
                  case measure => simp [intOf]; omega
                · have hb1 : (an.e == 12) = false := by simp [e1]
                  have hs' : s'.dead = false := by rw [unhide HMS, hb1]
                  have HS' := hide hs'; clear hs'
                  by_cases e2 : bn.e = 12
                  · have hb2 : (bn.e == 12) = true := by simp [e2]
                    have ht' : t'.dead = true := by rw [unhide HMT, hb2]
                    have HT' := hide ht'; clear ht' e1 e2
                    clear a1 a2' a3 a4 a5 b1 b2 b3 b4 b5
                    obtain ⟨f1, f2, f3, f4, f5⟩ := unhide HFIN _ [] (Chg.refl _ _) (by simp)
                    have F1 := hide f1; have F2 := hide f2; have F3 := hide f3; have F4' := hide f4; have F5 := hide f5; clear f1 f2 f3 f4 f5
                    go_wp2
                    go_roundw
                    case rel => exact ⟨k + 1, s', t', F4, E6, by rw [unhide HS'], by rw [unhide HT'], by go_num, by omega, unhide F1, unhide F2, unhide F3, unhide F4', unhide F5, fun _ h => absurd h (by rw [unhide HT']; simp)⟩
                    case measure => simp [intOf]; omega
                  · have hb2 : (bn.e == 12) = false := by simp [e2]
                    have ht' : t'.dead = false := by rw [unhide HMT, hb2]
                    obtain ⟨hcr, hbl⟩ := unhide HTW' e1 e2
                    have HT' := hide ht'; have HCR := hide hcr; clear ht' hcr e1 e2 HTW' HMS HMT
                    by_cases hpl : o.kind = 7 ∨ o.kind = 8
                    · unfold Ans.blind at hbl
                      rw [if_pos hpl, if_pos hpl] at hbl
                      obtain ⟨ae, an', ab', as', av⟩ := an
                      obtain ⟨be, bn', bb', bs', bv⟩ := bn
                      simp only [Ans.mk.injEq, true_and] at hbl
                      obtain ⟨rfl, rfl, rfl, rfl⟩ := hbl
                      have hne : w4.heap.size ∉ [w6.heap.size] := by have := unhide HAS; simp; omega
                      have hne2 : w6.heap.size ∉ [w4.heap.size] := by have := unhide HAS; simp; omega
                      generalize hW0 : (w6.alloc (.cells #[.int .i64 ae, .int .i64 bn', .bool ab', .string as', .int .i64 av.1, .int .i64 av.2] 47)) = W0 at *
                      have kA : Chg [w4.heap.size] W0 (W0.setCell ⟨w4.heap.size, 1, none⟩ (.int .i64 0)) := (Chg.refl _ W0).setCell (.inl (by simp)) _
                      have kB : Chg [w6.heap.size] (W0.setCell ⟨w4.heap.size, 1, none⟩ (.int .i64 0)) ((W0.setCell ⟨w4.heap.size, 1, none⟩ (.int .i64 0)).setCell ⟨w6.heap.size, 1, none⟩ (.int .i64 0)) := (Chg.refl _ _).setCell (.inl (by simp)) _
                      have hA2 := ((unhide HB46).setCell 1 (.int .i64 0)).chg kB hne
                      have hB1 := (unhide HB6).chg kA hne2
                      have hB2 := hB1.setCell 1 (.int .i64 0)
                      have fA := (unhide HB46).frozen 1
                      have fB := hB1.frozen 1
                      have c1 := hB1.cell_of (i := 1) rfl
                      have p0 := hA2.cell_of (i := 0) rfl
                      have p1 := hA2.cell_of (i := 1) (v := .int .i64 0) rfl
                      have p2 := hA2.cell_of (i := 2) rfl
                      have p3 := hA2.cell_of (i := 3) rfl
                      have p4 := hA2.cell_of (i := 4) rfl
                      have p5 := hA2.cell_of (i := 5) rfl
                      have r0 := hB2.cell_of (i := 0) rfl
                      have r1 := hB2.cell_of (i := 1) (v := .int .i64 0) rfl
                      have r2 := hB2.cell_of (i := 2) rfl
                      have r3 := hB2.cell_of (i := 3) rfl
                      have r4 := hB2.cell_of (i := 4) rfl
                      have r5 := hB2.cell_of (i := 5) rfl
                      obtain ⟨f1, f2, f3, f4, f5⟩ := unhide HFIN _ [w4.heap.size, w6.heap.size] ((kA.mono (by simp)).trans (kB.mono (by simp))) (by simp)
                      have F1 := hide f1; have F2 := hide f2; have F3 := hide f3; have F4' := hide f4; have F5 := hide f5; clear f1 f2 f3 f4 f5 kA kB hA2 hB1 hB2 hne hne2
                      simp only at a0 a1 b0 b1 hb1 hb2
                      by_cases h7 : o.kind = 7
                      · have p7 : (o.kind == 7) = true := by simp [h7]
                        clear hpl h7
                        go_wp2
                        go_roundw
                        case rel => exact ⟨k + 1, s', t', F4, E6, by rw [unhide HS'], by rw [unhide HT'], by go_num, by omega, unhide F1, unhide F2, unhide F3, unhide F4', unhide F5, fun _ _ => unhide HCR⟩
                        case measure => simp [intOf]; omega
                      · have p7 : (o.kind == 7) = false := by simp [h7]
                        have p8 : (o.kind == 8) = true := by simp; rcases hpl with h | h; exact absurd h h7; exact h
                        clear hpl h7
                        go_wp2
                        go_roundw
                        case rel => exact ⟨k + 1, s', t', F4, E6, by rw [unhide HS'], by rw [unhide HT'], by go_num, by omega, unhide F1, unhide F2, unhide F3, unhide F4', unhide F5, fun _ _ => unhide HCR⟩
                        case measure => simp [intOf]; omega
                    · unfold Ans.blind at hbl
                      rw [if_neg hpl, if_neg hpl] at hbl
                      subst hbl
                      have p7 : (o.kind == 7) = false := by simp; exact fun h => hpl (.inl h)
                      have p8 : (o.kind == 8) = false := by simp; exact fun h => hpl (.inr h)
                      clear hpl
                      obtain ⟨f1, f2, f3, f4, f5⟩ := unhide HFIN _ [] (Chg.refl _ _) (by simp)
                      have F1 := hide f1; have F2 := hide f2; have F3 := hide f3; have F4' := hide f4; have F5 := hide f5; clear f1 f2 f3 f4 f5
                      go_wp2
                      go_roundw
                      case rel => exact ⟨k + 1, s', t', F4, E6, by rw [unhide HS'], by rw [unhide HT'], by go_num, by omega, unhide F1, unhide F2, unhide F3, unhide F4', unhide F5, fun _ _ => unhide HCR⟩
                      case measure => simp [intOf]; omega
          · by_cases z1 : o.kind ≥ 1
            · have z2 : ¬ o.kind ≤ 23 := fun h => hkn ⟨z1, h⟩
              clear hkn
              cases d with
              | true =>
                cases g with
                | true =>
                  have hs' := unhide HSTA rfl
                  have HS' := hide hs'; clear hs'
                  have ht' := unhide HTTA rfl
                  have HT' := hide ht'; clear ht'
                  clear HSNO HSTA HMEM HTW HTNO HTTA HMET
                  clear a1 a2' a3 a4 a5 b1 b2 b3 b4 b5
                  obtain ⟨f1, f2, f3, f4, f5⟩ := unhide HFIN _ [] (Chg.refl _ _) (by simp)
                  have F1 := hide f1; have F2 := hide f2; have F3 := hide f3; have F4' := hide f4; have F5 := hide f5; clear f1 f2 f3 f4 f5
                  go_wp2
                  go_roundw
                  case rel => exact ⟨k + 1, s', t', F4, E6, by rw [unhide HS'], by rw [unhide HT'], by go_num, by omega, unhide F1, unhide F2, unhide F3, unhide F4', unhide F5, fun h => absurd h (by rw [unhide HS']; simp)⟩
                  case measure => simp [intOf]; omega
                | false =>
                  have hs' := unhide HSTA rfl
                  have HS' := hide hs'; clear hs'
                  have hmt := unhide HMET rfl
                  have HMT := hide hmt; clear hmt
                  clear HSNO HSTA HMEM HTW HTNO HTTA HMET
                  clear a1 a2' a3 a4 a5 b1 b2 b3 b4 b5
                  obtain ⟨f1, f2, f3, f4, f5⟩ := unhide HFIN _ [] (Chg.refl _ _) (by simp)
                  have F1 := hide f1; have F2 := hide f2; have F3 := hide f3; have F4' := hide f4; have F5 := hide f5; clear f1 f2 f3 f4 f5
                  go_wp2
                  go_roundw
                  case rel => exact ⟨k + 1, s', t', F4, E6, by rw [unhide HS'], by rw [unhide HMT], by go_num, by omega, unhide F1, unhide F2, unhide F3, unhide F4', unhide F5, fun h => absurd h (by rw [unhide HS']; simp)⟩
                  case measure => simp [intOf]; omega
              | false =>
                cases g with
                | true =>
                  have hms := unhide HMEM rfl
                  have HMS := hide hms; clear hms
                  have ht' := unhide HTTA rfl
                  have HT' := hide ht'; clear ht'
                  clear HSNO HSTA HMEM HTW HTNO HTTA HMET
                  clear a1 a2' a3 a4 a5 b1 b2 b3 b4 b5
                  obtain ⟨f1, f2, f3, f4, f5⟩ := unhide HFIN _ [] (Chg.refl _ _) (by simp)
                  have F1 := hide f1; have F2 := hide f2; have F3 := hide f3; have F4' := hide f4; have F5 := hide f5; clear f1 f2 f3 f4 f5
                  go_wp2
                  go_roundw
                  case rel => exact ⟨k + 1, s', t', F4, E6, by rw [unhide HMS], by rw [unhide HT'], by go_num, by omega, unhide F1, unhide F2, unhide F3, unhide F4', unhide F5, fun _ h => absurd h (by rw [unhide HT']; simp)⟩
                  case measure => simp [intOf]; omega
                | false =>
                  have hms := unhide HMEM rfl
                  have hmt := unhide HMET rfl
                  have htw := unhide HTW rfl rfl
                  have HMS := hide hms; have HMT := hide hmt; have HTW' := hide htw; clear hms hmt htw HSNO HSTA HMEM HTW HTNO HTTA HMET
                  by_cases e1 : an.e = 12
                  · have hb1 : (an.e == 12) = true := by simp [e1]
                    have hs' : s'.dead = true := by rw [unhide HMS, hb1]
                    have HS' := hide hs'; clear hs' e1
                    clear a1 a2' a3 a4 a5 b1 b2 b3 b4 b5
                    obtain ⟨f1, f2, f3, f4, f5⟩ := unhide HFIN _ [] (Chg.refl _ _) (by simp)
                    have F1 := hide f1; have F2 := hide f2; have F3 := hide f3; have F4' := hide f4; have F5 := hide f5; clear f1 f2 f3 f4 f5
                    go_wp2
                    go_roundw
                    case rel => exact ⟨k + 1, s', t', F4, E6, by rw [unhide HS'], by rw [unhide HMT], by go_num, by omega, unhide F1, unhide F2, unhide F3, unhide F4', unhide F5, fun h => absurd h (by rw [unhide HS']; simp)⟩
                    case measure => simp [intOf]; omega
                  · have hb1 : (an.e == 12) = false := by simp [e1]
                    have hs' : s'.dead = false := by rw [unhide HMS, hb1]
                    have HS' := hide hs'; clear hs'
                    by_cases e2 : bn.e = 12
                    · have hb2 : (bn.e == 12) = true := by simp [e2]
                      have ht' : t'.dead = true := by rw [unhide HMT, hb2]
                      have HT' := hide ht'; clear ht' e1 e2
                      clear a1 a2' a3 a4 a5 b1 b2 b3 b4 b5
                      obtain ⟨f1, f2, f3, f4, f5⟩ := unhide HFIN _ [] (Chg.refl _ _) (by simp)
                      have F1 := hide f1; have F2 := hide f2; have F3 := hide f3; have F4' := hide f4; have F5 := hide f5; clear f1 f2 f3 f4 f5
                      go_wp2
                      go_roundw
                      case rel => exact ⟨k + 1, s', t', F4, E6, by rw [unhide HS'], by rw [unhide HT'], by go_num, by omega, unhide F1, unhide F2, unhide F3, unhide F4', unhide F5, fun _ h => absurd h (by rw [unhide HT']; simp)⟩
                      case measure => simp [intOf]; omega
                    · have hb2 : (bn.e == 12) = false := by simp [e2]
                      have ht' : t'.dead = false := by rw [unhide HMT, hb2]
                      obtain ⟨hcr, hbl⟩ := unhide HTW' e1 e2
                      have HT' := hide ht'; have HCR := hide hcr; clear ht' hcr e1 e2 HTW' HMS HMT
                      by_cases hpl : o.kind = 7 ∨ o.kind = 8
                      · unfold Ans.blind at hbl
                        rw [if_pos hpl, if_pos hpl] at hbl
                        obtain ⟨ae, an', ab', as', av⟩ := an
                        obtain ⟨be, bn', bb', bs', bv⟩ := bn
                        simp only [Ans.mk.injEq, true_and] at hbl
                        obtain ⟨rfl, rfl, rfl, rfl⟩ := hbl
                        have hne : w4.heap.size ∉ [w6.heap.size] := by have := unhide HAS; simp; omega
                        have hne2 : w6.heap.size ∉ [w4.heap.size] := by have := unhide HAS; simp; omega
                        generalize hW0 : (w6.alloc (.cells #[.int .i64 ae, .int .i64 bn', .bool ab', .string as', .int .i64 av.1, .int .i64 av.2] 47)) = W0 at *
                        have kA : Chg [w4.heap.size] W0 (W0.setCell ⟨w4.heap.size, 1, none⟩ (.int .i64 0)) := (Chg.refl _ W0).setCell (.inl (by simp)) _
                        have kB : Chg [w6.heap.size] (W0.setCell ⟨w4.heap.size, 1, none⟩ (.int .i64 0)) ((W0.setCell ⟨w4.heap.size, 1, none⟩ (.int .i64 0)).setCell ⟨w6.heap.size, 1, none⟩ (.int .i64 0)) := (Chg.refl _ _).setCell (.inl (by simp)) _
                        have hA2 := ((unhide HB46).setCell 1 (.int .i64 0)).chg kB hne
                        have hB1 := (unhide HB6).chg kA hne2
                        have hB2 := hB1.setCell 1 (.int .i64 0)
                        have fA := (unhide HB46).frozen 1
                        have fB := hB1.frozen 1
                        have c1 := hB1.cell_of (i := 1) rfl
                        have p0 := hA2.cell_of (i := 0) rfl
                        have p1 := hA2.cell_of (i := 1) (v := .int .i64 0) rfl
                        have p2 := hA2.cell_of (i := 2) rfl
                        have p3 := hA2.cell_of (i := 3) rfl
                        have p4 := hA2.cell_of (i := 4) rfl
                        have p5 := hA2.cell_of (i := 5) rfl
                        have r0 := hB2.cell_of (i := 0) rfl
                        have r1 := hB2.cell_of (i := 1) (v := .int .i64 0) rfl
                        have r2 := hB2.cell_of (i := 2) rfl
                        have r3 := hB2.cell_of (i := 3) rfl
                        have r4 := hB2.cell_of (i := 4) rfl
                        have r5 := hB2.cell_of (i := 5) rfl
                        obtain ⟨f1, f2, f3, f4, f5⟩ := unhide HFIN _ [w4.heap.size, w6.heap.size] ((kA.mono (by simp)).trans (kB.mono (by simp))) (by simp)
                        have F1 := hide f1; have F2 := hide f2; have F3 := hide f3; have F4' := hide f4; have F5 := hide f5; clear f1 f2 f3 f4 f5 kA kB hA2 hB1 hB2 hne hne2
                        simp only at a0 a1 b0 b1 hb1 hb2
                        by_cases h7 : o.kind = 7
                        · have p7 : (o.kind == 7) = true := by simp [h7]
                          clear hpl h7
                          go_wp2
                          go_roundw
                          case rel => exact ⟨k + 1, s', t', F4, E6, by rw [unhide HS'], by rw [unhide HT'], by go_num, by omega, unhide F1, unhide F2, unhide F3, unhide F4', unhide F5, fun _ _ => unhide HCR⟩
                          case measure => simp [intOf]; omega
                        · have p7 : (o.kind == 7) = false := by simp [h7]
                          have p8 : (o.kind == 8) = true := by simp; rcases hpl with h | h; exact absurd h h7; exact h
                          clear hpl h7
                          go_wp2
                          go_roundw
                          case rel => exact ⟨k + 1, s', t', F4, E6, by rw [unhide HS'], by rw [unhide HT'], by go_num, by omega, unhide F1, unhide F2, unhide F3, unhide F4', unhide F5, fun _ _ => unhide HCR⟩
                          case measure => simp [intOf]; omega
                      · unfold Ans.blind at hbl
                        rw [if_neg hpl, if_neg hpl] at hbl
                        subst hbl
                        have p7 : (o.kind == 7) = false := by simp; exact fun h => hpl (.inl h)
                        have p8 : (o.kind == 8) = false := by simp; exact fun h => hpl (.inr h)
                        clear hpl
                        obtain ⟨f1, f2, f3, f4, f5⟩ := unhide HFIN _ [] (Chg.refl _ _) (by simp)
                        have F1 := hide f1; have F2 := hide f2; have F3 := hide f3; have F4' := hide f4; have F5 := hide f5; clear f1 f2 f3 f4 f5
                        go_wp2
                        go_roundw
                        case rel => exact ⟨k + 1, s', t', F4, E6, by rw [unhide HS'], by rw [unhide HT'], by go_num, by omega, unhide F1, unhide F2, unhide F3, unhide F4', unhide F5, fun _ _ => unhide HCR⟩
                        case measure => simp [intOf]; omega
            · clear hkn
              cases d with
              | true =>
                cases g with
                | true =>
                  have hs' := unhide HSTA rfl
                  have HS' := hide hs'; clear hs'
                  have ht' := unhide HTTA rfl
                  have HT' := hide ht'; clear ht'
                  clear HSNO HSTA HMEM HTW HTNO HTTA HMET
                  clear a1 a2' a3 a4 a5 b1 b2 b3 b4 b5
                  obtain ⟨f1, f2, f3, f4, f5⟩ := unhide HFIN _ [] (Chg.refl _ _) (by simp)
                  have F1 := hide f1; have F2 := hide f2; have F3 := hide f3; have F4' := hide f4; have F5 := hide f5; clear f1 f2 f3 f4 f5
                  go_wp2
                  go_roundw
                  case rel => exact ⟨k + 1, s', t', F4, E6, by rw [unhide HS'], by rw [unhide HT'], by go_num, by omega, unhide F1, unhide F2, unhide F3, unhide F4', unhide F5, fun h => absurd h (by rw [unhide HS']; simp)⟩
                  case measure => simp [intOf]; omega
                | false =>
                  have hs' := unhide HSTA rfl
                  have HS' := hide hs'; clear hs'
                  have hmt := unhide HMET rfl
                  have HMT := hide hmt; clear hmt
                  clear HSNO HSTA HMEM HTW HTNO HTTA HMET
                  clear a1 a2' a3 a4 a5 b1 b2 b3 b4 b5
                  obtain ⟨f1, f2, f3, f4, f5⟩ := unhide HFIN _ [] (Chg.refl _ _) (by simp)
                  have F1 := hide f1; have F2 := hide f2; have F3 := hide f3; have F4' := hide f4; have F5 := hide f5; clear f1 f2 f3 f4 f5
                  go_wp2
                  go_roundw
                  case rel => exact ⟨k + 1, s', t', F4, E6, by rw [unhide HS'], by rw [unhide HMT], by go_num, by omega, unhide F1, unhide F2, unhide F3, unhide F4', unhide F5, fun h => absurd h (by rw [unhide HS']; simp)⟩
                  case measure => simp [intOf]; omega
              | false =>
                cases g with
                | true =>
                  have hms := unhide HMEM rfl
                  have HMS := hide hms; clear hms
                  have ht' := unhide HTTA rfl
                  have HT' := hide ht'; clear ht'
                  clear HSNO HSTA HMEM HTW HTNO HTTA HMET
                  clear a1 a2' a3 a4 a5 b1 b2 b3 b4 b5
                  obtain ⟨f1, f2, f3, f4, f5⟩ := unhide HFIN _ [] (Chg.refl _ _) (by simp)
                  have F1 := hide f1; have F2 := hide f2; have F3 := hide f3; have F4' := hide f4; have F5 := hide f5; clear f1 f2 f3 f4 f5
                  go_wp2
                  go_roundw
                  case rel => exact ⟨k + 1, s', t', F4, E6, by rw [unhide HMS], by rw [unhide HT'], by go_num, by omega, unhide F1, unhide F2, unhide F3, unhide F4', unhide F5, fun _ h => absurd h (by rw [unhide HT']; simp)⟩
                  case measure => simp [intOf]; omega
                | false =>
                  have hms := unhide HMEM rfl
                  have hmt := unhide HMET rfl
                  have htw := unhide HTW rfl rfl
                  have HMS := hide hms; have HMT := hide hmt; have HTW' := hide htw; clear hms hmt htw HSNO HSTA HMEM HTW HTNO HTTA HMET
                  by_cases e1 : an.e = 12
                  · have hb1 : (an.e == 12) = true := by simp [e1]
                    have hs' : s'.dead = true := by rw [unhide HMS, hb1]
                    have HS' := hide hs'; clear hs' e1
                    clear a1 a2' a3 a4 a5 b1 b2 b3 b4 b5
                    obtain ⟨f1, f2, f3, f4, f5⟩ := unhide HFIN _ [] (Chg.refl _ _) (by simp)
                    have F1 := hide f1; have F2 := hide f2; have F3 := hide f3; have F4' := hide f4; have F5 := hide f5; clear f1 f2 f3 f4 f5
                    go_wp2
                    go_roundw
                    case rel => exact ⟨k + 1, s', t', F4, E6, by rw [unhide HS'], by rw [unhide HMT], by go_num, by omega, unhide F1, unhide F2, unhide F3, unhide F4', unhide F5, fun h => absurd h (by rw [unhide HS']; simp)⟩
                    case measure => simp [intOf]; omega
                  · have hb1 : (an.e == 12) = false := by simp [e1]
                    have hs' : s'.dead = false := by rw [unhide HMS, hb1]
                    have HS' := hide hs'; clear hs'
                    by_cases e2 : bn.e = 12
                    · have hb2 : (bn.e == 12) = true := by simp [e2]
                      have ht' : t'.dead = true := by rw [unhide HMT, hb2]
                      have HT' := hide ht'; clear ht' e1 e2
                      clear a1 a2' a3 a4 a5 b1 b2 b3 b4 b5
                      obtain ⟨f1, f2, f3, f4, f5⟩ := unhide HFIN _ [] (Chg.refl _ _) (by simp)
                      have F1 := hide f1; have F2 := hide f2; have F3 := hide f3; have F4' := hide f4; have F5 := hide f5; clear f1 f2 f3 f4 f5
                      go_wp2
                      go_roundw
                      case rel => exact ⟨k + 1, s', t', F4, E6, by rw [unhide HS'], by rw [unhide HT'], by go_num, by omega, unhide F1, unhide F2, unhide F3, unhide F4', unhide F5, fun _ h => absurd h (by rw [unhide HT']; simp)⟩
                      case measure => simp [intOf]; omega
                    · have hb2 : (bn.e == 12) = false := by simp [e2]
                      have ht' : t'.dead = false := by rw [unhide HMT, hb2]
                      obtain ⟨hcr, hbl⟩ := unhide HTW' e1 e2
                      have HT' := hide ht'; have HCR := hide hcr; clear ht' hcr e1 e2 HTW' HMS HMT
                      by_cases hpl : o.kind = 7 ∨ o.kind = 8
                      · unfold Ans.blind at hbl
                        rw [if_pos hpl, if_pos hpl] at hbl
                        obtain ⟨ae, an', ab', as', av⟩ := an
                        obtain ⟨be, bn', bb', bs', bv⟩ := bn
                        simp only [Ans.mk.injEq, true_and] at hbl
                        obtain ⟨rfl, rfl, rfl, rfl⟩ := hbl
                        have hne : w4.heap.size ∉ [w6.heap.size] := by have := unhide HAS; simp; omega
                        have hne2 : w6.heap.size ∉ [w4.heap.size] := by have := unhide HAS; simp; omega
                        generalize hW0 : (w6.alloc (.cells #[.int .i64 ae, .int .i64 bn', .bool ab', .string as', .int .i64 av.1, .int .i64 av.2] 47)) = W0 at *
                        have kA : Chg [w4.heap.size] W0 (W0.setCell ⟨w4.heap.size, 1, none⟩ (.int .i64 0)) := (Chg.refl _ W0).setCell (.inl (by simp)) _
                        have kB : Chg [w6.heap.size] (W0.setCell ⟨w4.heap.size, 1, none⟩ (.int .i64 0)) ((W0.setCell ⟨w4.heap.size, 1, none⟩ (.int .i64 0)).setCell ⟨w6.heap.size, 1, none⟩ (.int .i64 0)) := (Chg.refl _ _).setCell (.inl (by simp)) _
                        have hA2 := ((unhide HB46).setCell 1 (.int .i64 0)).chg kB hne
                        have hB1 := (unhide HB6).chg kA hne2
                        have hB2 := hB1.setCell 1 (.int .i64 0)
                        have fA := (unhide HB46).frozen 1
                        have fB := hB1.frozen 1
                        have c1 := hB1.cell_of (i := 1) rfl
                        have p0 := hA2.cell_of (i := 0) rfl
                        have p1 := hA2.cell_of (i := 1) (v := .int .i64 0) rfl
                        have p2 := hA2.cell_of (i := 2) rfl
                        have p3 := hA2.cell_of (i := 3) rfl
                        have p4 := hA2.cell_of (i := 4) rfl
                        have p5 := hA2.cell_of (i := 5) rfl
                        have r0 := hB2.cell_of (i := 0) rfl
                        have r1 := hB2.cell_of (i := 1) (v := .int .i64 0) rfl
                        have r2 := hB2.cell_of (i := 2) rfl
                        have r3 := hB2.cell_of (i := 3) rfl
                        have r4 := hB2.cell_of (i := 4) rfl
                        have r5 := hB2.cell_of (i := 5) rfl
                        obtain ⟨f1, f2, f3, f4, f5⟩ := unhide HFIN _ [w4.heap.size, w6.heap.size] ((kA.mono (by simp)).trans (kB.mono (by simp))) (by simp)
                        have F1 := hide f1; have F2 := hide f2; have F3 := hide f3; have F4' := hide f4; have F5 := hide f5; clear f1 f2 f3 f4 f5 kA kB hA2 hB1 hB2 hne hne2
                        simp only at a0 a1 b0 b1 hb1 hb2
                        by_cases h7 : o.kind = 7
                        · have p7 : (o.kind == 7) = true := by simp [h7]
                          clear hpl h7
                          go_wp2
                          go_roundw
                          case rel => exact ⟨k + 1, s', t', F4, E6, by rw [unhide HS'], by rw [unhide HT'], by go_num, by omega, unhide F1, unhide F2, unhide F3, unhide F4', unhide F5, fun _ _ => unhide HCR⟩
                          case measure => simp [intOf]; omega
                        · have p7 : (o.kind == 7) = false := by simp [h7]
                          have p8 : (o.kind == 8) = true := by simp; rcases hpl with h | h; exact absurd h h7; exact h
                          clear hpl h7
                          go_wp2
                          go_roundw
                          case rel => exact ⟨k + 1, s', t', F4, E6, by rw [unhide HS'], by rw [unhide HT'], by go_num, by omega, unhide F1, unhide F2, unhide F3, unhide F4', unhide F5, fun _ _ => unhide HCR⟩
                          case measure => simp [intOf]; omega
                      · unfold Ans.blind at hbl
                        rw [if_neg hpl, if_neg hpl] at hbl
                        subst hbl
                        have p7 : (o.kind == 7) = false := by simp; exact fun h => hpl (.inl h)
                        have p8 : (o.kind == 8) = false := by simp; exact fun h => hpl (.inr h)
                        clear hpl
                        obtain ⟨f1, f2, f3, f4, f5⟩ := unhide HFIN _ [] (Chg.refl _ _) (by simp)
                        have F1 := hide f1; have F2 := hide f2; have F3 := hide f3; have F4' := hide f4; have F5 := hide f5; clear f1 f2 f3 f4 f5
                        go_wp2
                        go_roundw
                        case rel => exact ⟨k + 1, s', t', F4, E6, by rw [unhide HS'], by rw [unhide HT'], by go_num, by omega, unhide F1, unhide F2, unhide F3, unhide F4', unhide F5, fun _ _ => unhide HCR⟩
                        case measure => simp [intOf]; omega
        · have hks' : k = sn := by omega
          subst hks'
          have HN := hide hnw; clear hks hkt hdis hnw hE hcore
          go_wp2
          go_ret
          exact ⟨rfl, (unhide HN).1⟩
end Go.Proofs.Ytfoncalkgmeklab

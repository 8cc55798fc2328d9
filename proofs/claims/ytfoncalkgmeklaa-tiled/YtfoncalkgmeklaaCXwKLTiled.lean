/- gripkeep.Tiled, of a program that keeps the document. -/
import Derived.Test.YtfoncalkgmeklaaXwM45
namespace Go.Proofs.Ytfoncalkgmeklaa
open Go.RowKit

set_option maxRecDepth 100000 in
set_option maxHeartbeats 8000000 in
theorem walk_tiled {w : World} {G : World → Nat → R → List Nat → Prop} {J : R → Prop} (hP : KP G J) (l : Int) (_ : I64 l) (a : Option Addr) (n c : Nat) (fs : List Bool) (_ : n ≤ c) (hl : fs.length = n) (hf : FlagsAt w a fs) (_ : n ≤ 140737488351232)
    (sa : Option Addr) (sn sc : Nat) (ops : List LOp) (hsn : ops.length = sn) (hok : ∀ o ∈ ops, o.Ok) (hop : OpsAt w sa ops) (hsb : sn ≤ 1954687338211) :
    Calls Try.prog 3 #[.int .i64 l, .slice a n c, .slice sa sn sc] w fun e w' => e = .returned (.bool true) ∧ Chg [] w w' := by
  obtain ⟨i0, hi0, hz0, hz1, hz2⟩ := info_parts info3
  have HL := hide hl; have HF := hide hf; have HSN := hide hsn; have HOK := hide hok; have HOP := hide hop
  clear hl hf hsn hok hop
  by_cases hb : l < 1 ∨ 512 < l ∨ 64 < n
  · have HB := hide hb; clear hb
    go_enter Try.func3, Try.ntmps3
    go_wp2_with fail
    refine (kbegin_bad hP l a n c w (unhide HB)).mono ?_
    rintro e w1 ⟨rfl, hc⟩
    have HC := hide hc; clear hc
    go_wp2
    go_ret
    exact ⟨rfl, unhide HC⟩
  · have h1 : 1 ≤ l := by omega
    have h2 : l ≤ 512 := by omega
    have h3 : n ≤ 64 := by omega
    clear hb
    go_enter Try.func3, Try.ntmps3
    go_wp2_with fail
    refine (kbegin_ok hP l a n c fs w h1 h2 h3 (unhide HL) (unhide HF)).mono ?_
    rintro e w1 ⟨bh, F1, rfl, k1, n1⟩
    have K1 := hide k1; have N1 := hide n1; clear k1 n1
    go_wp2_with fail
    go_loopw [8, 9, 10] (fun v8 v9 i wr => ∃ (k : Nat) (s : R) (F : List Nat) (aa : Option Addr) (na ca : Nat) (all : List Int), v8 = .bool true ∧ v9 = .slice aa na ca ∧ i = .int .i64 k ∧ k ≤ sn ∧ KS G J wr bh s F k ∧ Newer w wr F ∧ s.dead = false ∧ Lst w wr aa na ca all F ∧ na ≤ k ∧ (∀ x ∈ all, I64 x)) (fun _ _ i _ => sn - (intOf i).toNat)
    case atStart => exact ⟨0, R.init l fs, F1, none, 0, 0, [], rfl, rfl, rfl, Nat.zero_le _, unhide K1, unhide N1, rfl, Lst.nil _ _ _, Nat.le_refl _, by simp⟩
    case round =>
      obtain ⟨k, s, F, aa, na, ca, all, rfl, rfl, rfl, hk, hks, hnw, hd, hls, hna, hv⟩ := hrel
      have HD := hide hd; have HV := hide hv; clear hd hv K1 N1
      by_cases hlt : k < sn
      · obtain ⟨o, ho⟩ : ∃ o, ops[k]? = some o := ⟨_, List.getElem?_eq_getElem (by rw [unhide HSN]; exact hlt)⟩
        have hoo := unhide HOK o (List.mem_of_getElem? ho)
        obtain ⟨sb, soff, hsa, hsbw, hcel⟩ := unhide HOP (by rw [unhide HSN]; omega)
        subst hsa
        have hc8 : ∀ (w' : World), Chg [] w w' → ∀ i v, o.cells[i]? = some v → w'.cell? ⟨sb, soff + k * 8 + i, none⟩ = some v := fun w' h i v hv => by rw [h.cell hsbw (by simp)]; exact hcel k o ho i v hv
        have zk : (k : Int) < (sn : Int) := by omega
        have s0 := hc8 wr hnw.1 0 _ rfl
        have s1 := hc8 wr hnw.1 1 _ rfl
        have s2 := hc8 wr hnw.1 2 _ rfl
        have s3 := hc8 wr hnw.1 3 _ rfl
        have s4 := hc8 wr hnw.1 4 _ rfl
        have s5 := hc8 wr hnw.1 5 _ rfl
        have s6 := hc8 wr hnw.1 6 _ rfl
        have s7 := hc8 wr hnw.1 7 _ rfl
        rw [Nat.add_zero] at s0
        have hask := hks.ask hP (by omega) o hoo
        have hdead : (s.askQ o).e ≠ 12 → (s.stepQ o).dead = false := fun he => dead_step o (unhide HD) he
        have hi64 : (handlesQ o (s.askQ o)).2 = true → I64 (handlesQ o (s.askQ o)).1 := made_i64 hks.up (by omega) o
        generalize s.askQ o = an at *
        generalize s.stepQ o = s' at *
        unfold Ans.val at hask
        have HASK := hide hask; have HDD := hide hdead; have HI := hide hi64; have HC8 := hide hc8; have HLS := hide hls; have HNW := hide hnw
        clear hask hdead hi64 hc8 hls hnw hks hcel hsbw ho hoo HD
        go_wp2_with fail
        refine (unhide HASK).mono ?_
        rintro e w4 ⟨F4, rfl, k4, st4⟩
        have hn4 := (unhide HNW).stp st4
        have hl4 := (unhide HLS).stp st4
        have hlt4 : ∀ x ∈ ab aa, x < w4.heap.size := own_lt hl4.own
        have kb : Chg [] w4 (w4.alloc (.cells #[.int .i64 an.e, .int .i64 an.n, .bool an.b, .string an.s, .int .i64 an.v.1, .int .i64 an.v.2] 32)) := (Chg.refl [] w4).alloc _
        have hb5 : Blk (w4.alloc (.cells #[.int .i64 an.e, .int .i64 an.n, .bool an.b, .string an.s, .int .i64 an.v.1, .int .i64 an.v.2] 32)) w4.heap.size an.cells 32 := Blk.new w4 an.cells 32
        have hn5 := hn4.chg kb
        have hl5 := hl4.chg kb (by simp)
        have k5 := k4.chg hP kb (by simp)
        clear s0 s1 s2 s3 s4 s5 s6 s7 k4 st4 hn4 hl4 HASK HLS HNW kb
        have a0 := hb5.cell_of (i := 0) rfl
        have a1 := hb5.cell_of (i := 1) rfl
        have a2 := hb5.cell_of (i := 2) rfl
        have a3 := hb5.cell_of (i := 3) rfl
        have a4 := hb5.cell_of (i := 4) rfl
        have a5 := hb5.cell_of (i := 5) rfl
        have HB5 := hide hb5; have HN5 := hide hn5; have HL5 := hide hl5; have K5 := hide k5
        clear hb5 hn5 hl5 k5
        by_cases he : an.e = 12
        · have hbe : (an.e == 12) = true := by simp [he]
          clear he
          go_wp2
          go_ret
          exact ⟨rfl, (unhide HN5).1⟩
        · have hbe : (an.e == 12) = false := by simp [he]
          have hd' := unhide HDD he
          have HD' := hide hd'; clear hd' HDD
          have hall : Hid (∀ w', Chg [] (w4.alloc (.cells #[.int .i64 an.e, .int .i64 an.n, .bool an.b, .string an.s, .int .i64 an.v.1, .int .i64 an.v.2] 32)) w' → (w'.cell? ⟨sb, soff + k * 8, none⟩ = some (.int .i64 o.kind) ∧ w'.cell? ⟨sb, soff + k * 8 + 1, none⟩ = some (.int .i64 o.x) ∧ w'.cell? ⟨sb, soff + k * 8 + 2, none⟩ = some (.int .i64 o.y) ∧ w'.cell? ⟨sb, soff + k * 8 + 3, none⟩ = some (.int .i64 o.k.1) ∧ w'.cell? ⟨sb, soff + k * 8 + 4, none⟩ = some (.int .i64 o.k.2) ∧ w'.cell? ⟨sb, soff + k * 8 + 5, none⟩ = some (.int .i64 o.v.1) ∧ w'.cell? ⟨sb, soff + k * 8 + 6, none⟩ = some (.int .i64 o.v.2) ∧ w'.cell? ⟨sb, soff + k * 8 + 7, none⟩ = some (.string o.s)) ∧
              (w'.cell? ⟨w4.heap.size, 0, none⟩ = some (.int .i64 an.e) ∧ w'.cell? ⟨w4.heap.size, 1, none⟩ = some (.int .i64 an.n) ∧ w'.cell? ⟨w4.heap.size, 2, none⟩ = some (.bool an.b) ∧ w'.cell? ⟨w4.heap.size, 3, none⟩ = some (.string an.s) ∧ w'.cell? ⟨w4.heap.size, 4, none⟩ = some (.int .i64 an.v.1) ∧ w'.cell? ⟨w4.heap.size, 5, none⟩ = some (.int .i64 an.v.2))) := fun w' kk => by
            have h8 := unhide HC8 w' ((unhide HN5).1.trans kk)
            have h6 := (unhide HB5).chg kk (by simp)
            refine ⟨⟨?_, h8 1 _ rfl, h8 2 _ rfl, h8 3 _ rfl, h8 4 _ rfl, h8 5 _ rfl, h8 6 _ rfl, h8 7 _ rfl⟩, h6.cell_of (i := 0) rfl, h6.cell_of (i := 1) rfl, h6.cell_of (i := 2) rfl, h6.cell_of (i := 3) rfl, h6.cell_of (i := 4) rfl, h6.cell_of (i := 5) rfl⟩
            have := h8 0 _ rfl
            rwa [Nat.add_zero] at this
          have hhan := handles_any o an
          have HHAN := hide hhan; clear hhan
          obtain ⟨⟨s0, s1, s2, s3, s4, s5, s6, s7⟩, _⟩ := unhide hall _ (Chg.refl _ _)
          go_wp2_with fail
          go_region_held3 (fun w' => (w'.cell? ⟨sb, soff + k * 8, none⟩ = some (.int .i64 o.kind) ∧ w'.cell? ⟨sb, soff + k * 8 + 1, none⟩ = some (.int .i64 o.x) ∧ w'.cell? ⟨sb, soff + k * 8 + 2, none⟩ = some (.int .i64 o.y) ∧ w'.cell? ⟨sb, soff + k * 8 + 3, none⟩ = some (.int .i64 o.k.1) ∧ w'.cell? ⟨sb, soff + k * 8 + 4, none⟩ = some (.int .i64 o.k.2) ∧ w'.cell? ⟨sb, soff + k * 8 + 5, none⟩ = some (.int .i64 o.v.1) ∧ w'.cell? ⟨sb, soff + k * 8 + 6, none⟩ = some (.int .i64 o.v.2) ∧ w'.cell? ⟨sb, soff + k * 8 + 7, none⟩ = some (.string o.s)) ∧
              (w'.cell? ⟨w4.heap.size, 0, none⟩ = some (.int .i64 an.e) ∧ w'.cell? ⟨w4.heap.size, 1, none⟩ = some (.int .i64 an.n) ∧ w'.cell? ⟨w4.heap.size, 2, none⟩ = some (.bool an.b) ∧ w'.cell? ⟨w4.heap.size, 3, none⟩ = some (.string an.s) ∧ w'.cell? ⟨w4.heap.size, 4, none⟩ = some (.int .i64 an.v.1) ∧ w'.cell? ⟨w4.heap.size, 5, none⟩ = some (.int .i64 an.v.2))) (first | go_keep | assumption) ((go_at_call 10; refine (unhide HHAN _).mono ?_; rintro e w6 ⟨rfl, hc6⟩; have hk6 := unhide hall w6 (((Chg.refl [] _).drew).trans hc6)))
          have kc6 := ((Chg.refl [] (w4.alloc (.cells #[.int .i64 an.e, .int .i64 an.n, .bool an.b, .string an.s, .int .i64 an.v.1, .int .i64 an.v.2] 32))).drew).trans hc6
          have hn6 := (unhide HN5).chg kc6
          have hl6 := (unhide HL5).chg kc6 (by simp)
          have k6 := (unhide K5).chg hP kc6 (by simp)
          have hi6 := unhide HI
          generalize handlesQ o an = hq at *
          obtain ⟨hx, hone⟩ := hq
          simp only at hi6
          have HI6 := hide hi6; have HN6 := hide hn6; have HL6 := hide hl6; have K6 := hide k6
          clear hi6 hn6 hl6 k6 kc6 hc6 hk6 hall HHAN HN5 HL5 K5 HB5 HI s0 s1 s2 s3 s4 s5 s6 s7 a0 a1 a2 a3 a4 a5 hbe he
          cases hone with
          | true =>
            go_wp2_with (at_builtin; go_must (refine wpList_append_gen _ rfl (.tmp 52) (.tmp 54) 27 rfl 3 i0 (.int .i64 0) 1 8 Try.underlying27 hi0 hz0 hz1 hz2 rfl (by decide) (.slice aa na ca) na (ints all) rfl ?c0 (some ⟨w6.heap.size, 0, none⟩) 1 1 (ints [hx]) rfl rfl ?c1 (ints_one _) ?c2 ?c3 ?_))
            case c0 => exact World.ownsRow.alloc (unhide HL6).own _
            case c1 => first | exact fun _ => ⟨_, rfl, fun j u hj => by rw [addr_add, Nat.zero_add]; exact (Blk.new w6 (ints [hx]) 3).cell_of hj⟩ | exact fun j u hj => hj
            case c2 => unfold maxLen; omega
            case c3 => omega
            intro va cap w7 ho7 hg7 hat7
            obtain ⟨hl7, kc7⟩ := (unhide HL6).push (unhide K6).lt (unhide HN6).1.size (.cells #[.int .i64 hx] 3) ho7 hg7 (Nat.le_succ _) hat7
            have hn7 := (unhide HN6).chgS kc7 (fun x hx => ((unhide HL6).out x hx).2)
            have k7 := (unhide K6).chg hP kc7 (fun b hb hm => ((unhide HL6).out b hm).1 hb)
            have hv7 : ∀ x ∈ all ++ [hx], I64 x := fun x hm => by
              rcases List.mem_append.1 hm with h | h
              · exact unhide HV x h
              · simp at h; subst h; exact unhide HI6 (by simp)
            have HN7 := hide hn7; have HL7 := hide hl7; have K7 := hide k7; have HV7 := hide hv7
            clear ho7 hg7 hat7 kc7 hn7 hl7 k7 hv7 HN6 HL6 K6 HI6 HV
            have s0 := unhide HC8 w7 (unhide HN7).1 0 _ rfl
            rw [Nat.add_zero] at s0
            by_cases h8 : o.kind = 8
            · have hb8 : (o.kind == 8) = true := by simp [h8]
              have hcall := tiled_any hP (unhide K7) (by omega) (unhide HD') va (na + 1) cap (all ++ [hx]) (unhide HL7).len (by omega) (unhide HL7).at (unhide HV7) (unhide HL7).foot
              have HC := hide hcall; clear hcall h8
              go_wp2_with fail
              refine (unhide HC).mono ?_
              rintro e w9 ⟨F9, rfl, k9, st9⟩
              have HN9 := hide ((unhide HN7).stp st9); have HL9 := hide ((unhide HL7).stp st9); have K9 := hide k9; clear k9 st9 s0
              go_wp2
              go_roundw
              case rel => exact ⟨k + 1, s', F9, va, (na + 1), cap, (all ++ [hx]), rfl, rfl, by go_num, by omega, unhide K9, unhide HN9, unhide HD', unhide HL9, by omega, unhide HV7⟩
              case measure => simp [intOf]; omega
            · have hb8 : (o.kind == 8) = false := by simp [h8]
              clear h8
              go_wp2
              go_roundw
              case rel => exact ⟨k + 1, s', F4, va, (na + 1), cap, (all ++ [hx]), rfl, rfl, by go_num, by omega, unhide K7, unhide HN7, unhide HD', unhide HL7, by omega, unhide HV7⟩
              case measure => simp [intOf]; omega
          | false =>
            obtain ⟨HN7, HL7, K7, HV7⟩ : Hid (Newer w w6 F4) ∧ Hid (Lst w w6 aa na ca all F4) ∧ Hid (KS G J w6 bh s' F4 (k + 1)) ∧ Hid (∀ x ∈ all, I64 x) := ⟨HN6, HL6, K6, HV⟩
            clear HN6 HL6 K6 HI6 HV
            have s0 := unhide HC8 w6 (unhide HN7).1 0 _ rfl
            rw [Nat.add_zero] at s0
            by_cases h8 : o.kind = 8
            · have hb8 : (o.kind == 8) = true := by simp [h8]
              have hcall := tiled_any hP (unhide K7) (by omega) (unhide HD') aa na ca all (unhide HL7).len (by omega) (unhide HL7).at (unhide HV7) (unhide HL7).foot
              have HC := hide hcall; clear hcall h8
              go_wp2_with fail
              refine (unhide HC).mono ?_
              rintro e w9 ⟨F9, rfl, k9, st9⟩
              have HN9 := hide ((unhide HN7).stp st9); have HL9 := hide ((unhide HL7).stp st9); have K9 := hide k9; clear k9 st9 s0
              go_wp2
              go_roundw
              case rel => exact ⟨k + 1, s', F9, aa, na, ca, all, rfl, rfl, by go_num, by omega, unhide K9, unhide HN9, unhide HD', unhide HL9, by omega, unhide HV7⟩
              case measure => simp [intOf]; omega
            · have hb8 : (o.kind == 8) = false := by simp [h8]
              clear h8
              go_wp2
              go_roundw
              case rel => exact ⟨k + 1, s', F4, aa, na, ca, all, rfl, rfl, by go_num, by omega, unhide K7, unhide HN7, unhide HD', unhide HL7, by omega, unhide HV7⟩
              case measure => simp [intOf]; omega
      · have hks' : k = sn := by omega
        subst hks'
        have hcall := tiled_any hP hks (by omega) (unhide HD) aa na ca all hls.len (by omega) hls.at (unhide HV) hls.foot
        have HC := hide hcall; have HN := hide hnw; clear hcall hks hnw hls
        go_wp2_with fail
        refine (unhide HC).mono ?_
        rintro e w2 ⟨F2, rfl, k2, st2⟩
        have HN2 := hide ((unhide HN).stp st2); clear k2 st2
        go_wp2
        go_ret
        exact ⟨rfl, (unhide HN2).1⟩
end Go.Proofs.Ytfoncalkgmeklaa

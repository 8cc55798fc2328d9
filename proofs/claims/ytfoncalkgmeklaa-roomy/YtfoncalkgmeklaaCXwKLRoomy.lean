/- gripkeep.Roomy, of a program that keeps the document. -/
import Derived.Test.YtfoncalkgmeklaaCXwKReached
import Derived.Test.YtfoncalkgmeklaaCXwKNeed
import Derived.Test.YtfoncalkgmeklaaCXwKLimit
import Derived.Test.YtfoncalkgmeklaaXwM45
import Derived.Test.YtfoncalkgmeklaaXwM46
namespace Go.Proofs.Ytfoncalkgmeklaa
open Go.RowKit

/-- What a step asks for, and whether it is refused. -/
theorem room_step {s : R} (h : RAll s) (hd : s.dead = false) (o : LOp) :
    -1 ≤ needQ s o ∧ needQ s o ≤ 66 ∧ 0 ≤ usedOf s.objs s.reach ∧ usedOf s.objs s.reach ≤ 512 ∧ ((s.askQ o).e = 12 → 0 ≤ needQ s o ∧ usedOf s.objs s.reach + needQ s o > s.limit) ∧ ((s.askQ o).e = 0 → 0 ≤ needQ s o → ¬ usedOf s.objs s.reach + needQ s o > s.limit) := by
  have hu := reach_used h.ok.inv h.row
  have hf := h.row.fits
  have hl := h.ok.inv.limit
  have h0 := used_nonneg (words0 h.ok.inv) s.reach
  rcases need_spec h hd o with ⟨e1, e2⟩ | ⟨ob, e1, e2, e3, e4⟩
  · rw [e1]
    exact ⟨by omega, by omega, h0, by omega, fun h => absurd h e2, fun _ h => by omega⟩
  · have hr := make_refused h ob
    rw [e1, e4]
    exact ⟨by omega, by omega, h0, by omega, fun h => ⟨e2, hr.1 h⟩, fun h _ => hr.2 h⟩
set_option maxRecDepth 100000 in
set_option maxHeartbeats 8000000 in
theorem walk_roomy {w : World} {G : World → Nat → R → List Nat → Prop} {J : R → Prop} (hP : KP G J) (l : Int) (_ : I64 l) (a : Option Addr) (n c : Nat) (fs : List Bool) (_ : n ≤ c) (hl : fs.length = n) (hf : FlagsAt w a fs) (_ : n ≤ 140737488351232)
    (sa : Option Addr) (sn sc : Nat) (ops : List LOp) (hsn : ops.length = sn) (hok : ∀ o ∈ ops, o.Ok) (hop : OpsAt w sa ops) (hsb : sn ≤ 1954687338211) :
    Calls Try.prog 4 #[.int .i64 l, .slice a n c, .slice sa sn sc] w fun e w' => e = .returned (.bool true) ∧ Chg [] w w' := by
  obtain ⟨i0, hi0, hz0, hz1, hz2⟩ := info_parts info3
  have HL := hide hl; have HF := hide hf; have HSN := hide hsn; have HOK := hide hok; have HOP := hide hop
  clear hl hf hsn hok hop
  by_cases hb : l < 1 ∨ 512 < l ∨ 64 < n
  · have HB := hide hb; clear hb
    go_enter Try.func4, Try.ntmps4
    go_wp2_with fail
    refine (kbegin_bad hP l a n c w (unhide HB)).mono ?_
    rintro e w1 ⟨rfl, hc⟩
    have HC := hide hc; clear hc
    go_wp2
    go_ret
    exact ⟨rfl, unhide HC⟩
  · have h1 : 1 ≤ l := by omega
    have h2 : l ≤ 512 := by omega
    have h3 : n ≤ 64 := by omega
    clear hb
    go_enter Try.func4, Try.ntmps4
    go_wp2_with fail
    refine (kbegin_ok hP l a n c fs w h1 h2 h3 (unhide HL) (unhide HF)).mono ?_
    rintro e w1 ⟨bh, F1, rfl, k1, n1⟩
    have K1 := hide k1; have N1 := hide n1; clear k1 n1
    have hno : Noted (R.init l fs) [] := fun g hg => by simp [R.init] at hg
    have HNO := hide hno; clear hno
    go_wp2_with fail
    go_loopw [9, 10, 11, 12, 13, 14, 15, 16, 17, 18, 19] (fun v9 v10 _ _ _ _ _ _ _ _ _ wr => ∃ (k : Nat) (s : R) (F : List Nat) (aa : Option Addr) (na ca : Nat) (all : List Int), v9 = .slice aa na ca ∧ v10 = .int .i64 k ∧ k ≤ sn ∧ KS G J wr bh s F k ∧ Newer w wr F ∧ s.dead = false ∧ s.limit = l ∧ Lst w wr aa na ca all F ∧ na ≤ k ∧ (∀ x ∈ all, I64 x) ∧ Noted s all) (fun _ v10 _ _ _ _ _ _ _ _ _ _ => sn - (intOf v10).toNat)
    case atStart => exact ⟨0, R.init l fs, F1, none, 0, 0, [], rfl, rfl, Nat.zero_le _, unhide K1, unhide N1, rfl, rfl, Lst.nil _ _ _, Nat.le_refl _, by simp, unhide HNO⟩
    case round =>
      obtain ⟨k, s, F, aa, na, ca, all, rfl, rfl, hk, hks, hnw, hd, hlm, hls, hna, hv, hnt⟩ := hrel
      clear K1 N1 HNO
      by_cases hlt : k < sn
      · obtain ⟨o, ho⟩ : ∃ o, ops[k]? = some o := ⟨_, List.getElem?_eq_getElem (by rw [unhide HSN]; exact hlt)⟩
        have hoo := unhide HOK o (List.mem_of_getElem? ho)
        obtain ⟨sb, soff, hsa, hsbw, hcel⟩ := unhide HOP (by rw [unhide HSN]; omega)
        subst hsa
        have hc8 : ∀ (w' : World), Chg [] w w' → ∀ i v, o.cells[i]? = some v → w'.cell? ⟨sb, soff + k * 8 + i, none⟩ = some v := fun w' h i v hv => by rw [h.cell hsbw (by simp)]; exact hcel k o ho i v hv
        have zk : (k : Int) < (sn : Int) := by omega
        have s0 := hc8 wr hnw.1 0 _ rfl
        have s1 := hc8 wr hnw.1 1 _ rfl
        have s2 := hc8 wr hnw.1 2 _ rfl
        have s3 := hc8 wr hnw.1 3 _ rfl
        have s4 := hc8 wr hnw.1 4 _ rfl
        have s5 := hc8 wr hnw.1 5 _ rfl
        have s6 := hc8 wr hnw.1 6 _ rfl
        have s7 := hc8 wr hnw.1 7 _ rfl
        rw [Nat.add_zero] at s0
        -- the step's copy
        have kb1 : Chg [] wr (wr.alloc (.cells o.cells.toArray 35)) := (Chg.refl [] wr).alloc _
        have bo1 : Beside (wr.alloc (.cells o.cells.toArray 35)) wr.heap.size o.cells 35 F := ⟨Blk.new wr _ _, fun hm => by have := hks.lt _ hm; omega⟩
        have k1 := hks.chg hP kb1 (by simp)
        have n1 := hnw.chg kb1
        have l1 := hls.chg kb1 (by simp)
        have hgo : wr.heap.size ∈ ab aa → False := fun hm => by have := own_lt hls.own _ hm; omega
        have hneed := need_any hP k1 (by omega) hd o hoo
        have hreach := fun w' F' (hK : KS G J w' bh s F' k) (hL : Lst w w' aa na ca all F') => reach_any hP hK (by omega) hd aa na ca all hL.len (by omega) hL.at hv hL.foot hnt
        have hask := fun w' F' (hK : KS G J w' bh s F' k) => hK.ask hP (by omega) o hoo
        obtain ⟨r1, r2, r3, r4, r5, r6⟩ := room_step hks.all hd o
        have hdead : (s.askQ o).e ≠ 12 → (s.stepQ o).dead = false := fun he => dead_step o hd he
        have hlim : (s.stepQ o).limit = l := (limit_step s o).trans hlm
        have hnot : (s.askQ o).e ≠ 12 → Noted (s.stepQ o) (if (handlesQ o (s.askQ o)).2 = true then all ++ [(handlesQ o (s.askQ o)).1] else all) := fun he => hnt.step hks.all hd o he
        have hi64 : (handlesQ o (s.askQ o)).2 = true → I64 (handlesQ o (s.askQ o)).1 := made_i64 hks.up (by omega) o
        have hcol : o.kind = 21 → ((s.stepQ o).words.length : Int) = usedOf s.objs s.reach := fun h => collect_words hks.all hd h
        rw [hlm] at r5 r6
        generalize s.askQ o = an at *
        generalize s.stepQ o = s' at *
        generalize needQ s o = nd at *
        generalize usedOf s.objs s.reach = ru at *
        unfold Ans.val LOp.val at hask
        unfold LOp.val at hneed
        have HASK := hide hask; have HNEED := hide hneed; have HREACH := hide hreach; have HDD := hide hdead; have HLIM := hide hlim; have HNOT := hide hnot; have HI := hide hi64; have HCOL := hide hcol; have R5 := hide r5; have R6 := hide r6; have HV := hide hv
        have HGO := hide hgo; have BO1 := hide bo1; have K1 := hide k1; have N1 := hide n1; have L1 := hide l1
        clear hask hneed hreach hdead hlim hnot hi64 hcol r5 r6 hls hnw hks hcel hsbw ho hoo hd hlm hv hnt kb1 bo1 k1 n1 l1 hc8 hgo
        go_wp2_with fail
        refine (unhide HNEED).mono ?_
        rintro e w2 ⟨F2, rfl, k2, st2⟩
        have BO2 := hide ((unhide BO1).stp st2); have N2 := hide ((unhide N1).stp st2); have L2 := hide ((unhide L1).stp st2); have K2 := hide k2
        generalize wr.heap.size = go at *
        clear k2 st2 BO1 N1 L1 K1 HNEED s0 s1 s2 s3 s4 s5 s6 s7
        go_wp2_with fail
        refine (unhide HREACH _ _ (unhide K2) (unhide L2)).mono ?_
        rintro e w3 ⟨F3, rfl, k3, st3⟩
        have BO3 := hide ((unhide BO2).stp st3); have N3 := hide ((unhide N2).stp st3); have L3 := hide ((unhide L2).stp st3); have K3 := hide k3
        clear k3 st3 BO2 N2 L2 K2 HREACH
        have c0 := (unhide BO3).1.cell_of (i := 0) rfl
        have c1 := (unhide BO3).1.cell_of (i := 1) rfl
        have c2 := (unhide BO3).1.cell_of (i := 2) rfl
        have c3 := (unhide BO3).1.cell_of (i := 3) rfl
        have c4 := (unhide BO3).1.cell_of (i := 4) rfl
        have c5 := (unhide BO3).1.cell_of (i := 5) rfl
        have c6 := (unhide BO3).1.cell_of (i := 6) rfl
        have c7 := (unhide BO3).1.cell_of (i := 7) rfl
        go_wp2_with fail
        refine (unhide HASK _ _ (unhide K3)).mono ?_
        rintro e w4 ⟨F4, rfl, k4, st4⟩
        have kb : Chg [] w4 (w4.alloc (.cells #[.int .i64 an.e, .int .i64 an.n, .bool an.b, .string an.s, .int .i64 an.v.1, .int .i64 an.v.2] 32)) := (Chg.refl [] w4).alloc _
        have hb5 : Beside (w4.alloc (.cells #[.int .i64 an.e, .int .i64 an.n, .bool an.b, .string an.s, .int .i64 an.v.1, .int .i64 an.v.2] 32)) w4.heap.size an.cells 32 F4 := ⟨Blk.new w4 an.cells 32, fun hm => by have := k4.lt _ hm; omega⟩
        have BO5 := hide (((unhide BO3).stp st4).chg kb); have N5 := hide (((unhide N3).stp st4).chg kb); have L5 := hide (((unhide L3).stp st4).chg kb (by simp)); have K5 := hide (k4.chg hP kb (by simp)); have BA5 := hide hb5
        clear k4 st4 kb hb5 BO3 N3 L3 K3 HASK c0 c1 c2 c3 c4 c5 c6 c7
        have a0 := (unhide BA5).1.cell_of (i := 0) rfl
        by_cases he : an.e = 12
        · have hbe : (an.e == 12) = true := by simp [he]
          obtain ⟨zn, zr⟩ := unhide R5 he
          clear he
          go_wp2
          go_ret
          exact ⟨by simp, (unhide N5).1⟩
        · have hbe : (an.e == 12) = false := by simp [he]
          have HD' := hide (unhide HDD he); have HNO' := hide (unhide HNOT he)
          have hhan := handles_any o an
          unfold LOp.val Ans.val at hhan
          have HHAN := hide hhan
          clear HDD HNOT R5 he hhan
          have b0 := (unhide BO5).1.cell_of (i := 0) rfl
          have b1 := (unhide BO5).1.cell_of (i := 1) rfl
          have b2 := (unhide BO5).1.cell_of (i := 2) rfl
          have b3 := (unhide BO5).1.cell_of (i := 3) rfl
          have b4 := (unhide BO5).1.cell_of (i := 4) rfl
          have b5 := (unhide BO5).1.cell_of (i := 5) rfl
          have b6 := (unhide BO5).1.cell_of (i := 6) rfl
          have b7 := (unhide BO5).1.cell_of (i := 7) rfl
          have a1 := (unhide BA5).1.cell_of (i := 1) rfl
          have a2 := (unhide BA5).1.cell_of (i := 2) rfl
          have a3 := (unhide BA5).1.cell_of (i := 3) rfl
          have a4 := (unhide BA5).1.cell_of (i := 4) rfl
          have a5 := (unhide BA5).1.cell_of (i := 5) rfl
          by_cases hnn : 0 ≤ nd
          · by_cases h0 : an.e = 0
            · have hb0 : (an.e == 0) = true := by simp [h0]
              have zr : ¬ ru + nd > l := by have := unhide R6 h0 hnn; omega
              clear h0 R6
              go_wp2_with fail
              refine (unhide HHAN _).mono ?_
              rintro e w6 ⟨rfl, hc6⟩
              have BO6 := hide ((unhide BO5).chg hc6); have N6 := hide ((unhide N5).chg hc6); have L6 := hide ((unhide L5).chg hc6 (by simp)); have K6 := hide ((unhide K5).chg hP hc6 (by simp))
              generalize w4.heap.size = ga at *
              clear hc6 HHAN BO5 N5 L5 K5 BA5 b0 b1 b2 b3 b4 b5 b6 b7 a0 a1 a2 a3 a4 a5
              generalize handlesQ o an = hq at *
              obtain ⟨hx, hone⟩ := hq
              cases hone with
              | true =>
                have hno7 : Noted s' (all ++ [hx]) := by simpa using unhide HNO'
                have hix : I64 hx := unhide HI rfl
                have hv7 : ∀ x ∈ all ++ [hx], I64 x := fun x hm => by
                  rcases List.mem_append.1 hm with h | h
                  · exact unhide HV x h
                  · simp at h; subst h; exact hix
                have HNO7 := hide hno7; have HV7 := hide hv7
                clear hno7 hv7 hix HNO' HI HV
                go_wp2_with (at_builtin; go_must (refine wpList_append_gen _ rfl (.tmp 90) (.tmp 92) 27 rfl 3 i0 (.int .i64 0) 1 8 Try.underlying27 hi0 hz0 hz1 hz2 rfl (by decide) (.slice aa na ca) na (ints all) rfl ?c0 (some ⟨w6.heap.size, 0, none⟩) 1 1 (ints [hx]) rfl rfl ?c1 (ints_one _) ?c2 ?c3 ?_))
                case c0 => exact World.ownsRow.alloc (unhide L6).own _
                case c1 => first | exact fun _ => ⟨_, rfl, fun j u hj => by rw [addr_add, Nat.zero_add]; exact (Blk.new w6 (ints [hx]) 3).cell_of hj⟩ | exact fun j u hj => hj
                case c2 => unfold maxLen; omega
                case c3 => omega
                intro va cap w7 ho7 hg7 hat7
                obtain ⟨l7, kc7⟩ := (unhide L6).push (unhide K6).lt (unhide N6).1.size (.cells #[.int .i64 hx] 3) ho7 hg7 (Nat.le_succ _) hat7
                have N7 := hide ((unhide N6).chgS kc7 (fun x hx => ((unhide L6).out x hx).2)); have K7 := hide ((unhide K6).chg hP kc7 (fun b hb hm => ((unhide L6).out b hm).1 hb)); have L7 := hide l7
                have bo7 := (unhide BO6).chgS kc7 (fun hm => unhide HGO hm)
                have BO7 := hide bo7
                clear ho7 hg7 hat7 kc7 l7 bo7 N6 K6 L6 BO6
                go_wp2_with fail
                refine ((unhide K7).words hP (by omega)).mono ?_
                rintro e w8 ⟨la, ln, lc, rfl, o8, k8⟩
                have hwq : s'.wordsQ = s'.words := by simp [R.wordsQ, unhide HD']
                rw [hwq] at o8
                have hln : (ln : Int) ≤ l := by
                  have q1 := words_size k8.all.ok
                  have q2 := k8.all.row.fits
                  rw [unhide HLIM] at q2
                  have q3 := o8.len
                  omega
                have zl : ¬ (ln : Int) > l := by omega
                have hru : o.kind = 21 → (ln : Int) = ru := fun h => by rw [← unhide HCOL h, o8.len]
                have BO8 := hide ((unhide BO7).chg o8.chg); have N8 := hide ((unhide N7).chg o8.chg); have L8 := hide ((unhide L7).chg o8.chg (by simp)); have K8 := hide k8; have HRU := hide hru
                clear hwq o8 k8 hln hru BO7 N7 L7 K7 HCOL
                generalize s'.wordsE = we at *
                have b0 := (unhide BO8).1.cell_of (i := 0) rfl
                by_cases h21 : o.kind = 21
                · have hb21 : (o.kind == 21) = true := by simp [h21]
                  have hne : ((ln : Int) != ru) = false := by simp [unhide HRU h21]
                  clear h21
                  go_wp2
                  go_roundw
                  case rel => exact ⟨k + 1, s', F4, va, (na + 1), cap, (all ++ [hx]), rfl, by go_num, by omega, unhide K8, unhide N8, unhide HD', unhide HLIM, unhide L8, by omega, unhide HV7, unhide HNO7⟩
                  case measure => simp [intOf]; omega
                · have hb21 : (o.kind == 21) = false := by simp [h21]
                  clear h21
                  go_wp2
                  go_roundw
                  case rel => exact ⟨k + 1, s', F4, va, (na + 1), cap, (all ++ [hx]), rfl, by go_num, by omega, unhide K8, unhide N8, unhide HD', unhide HLIM, unhide L8, by omega, unhide HV7, unhide HNO7⟩
                  case measure => simp [intOf]; omega
              | false =>
                have hno7 : Noted s' all := by simpa using unhide HNO'
                have HNO7 := hide hno7; have HV7 := HV; have N7 := N6; have K7 := K6; have L7 := L6; have BO7 := BO6
                clear hno7 HNO' HI HV N6 K6 L6 BO6
                go_wp2_with fail
                refine ((unhide K7).words hP (by omega)).mono ?_
                rintro e w8 ⟨la, ln, lc, rfl, o8, k8⟩
                have hwq : s'.wordsQ = s'.words := by simp [R.wordsQ, unhide HD']
                rw [hwq] at o8
                have hln : (ln : Int) ≤ l := by
                  have q1 := words_size k8.all.ok
                  have q2 := k8.all.row.fits
                  rw [unhide HLIM] at q2
                  have q3 := o8.len
                  omega
                have zl : ¬ (ln : Int) > l := by omega
                have hru : o.kind = 21 → (ln : Int) = ru := fun h => by rw [← unhide HCOL h, o8.len]
                have BO8 := hide ((unhide BO7).chg o8.chg); have N8 := hide ((unhide N7).chg o8.chg); have L8 := hide ((unhide L7).chg o8.chg (by simp)); have K8 := hide k8; have HRU := hide hru
                clear hwq o8 k8 hln hru BO7 N7 L7 K7 HCOL
                generalize s'.wordsE = we at *
                have b0 := (unhide BO8).1.cell_of (i := 0) rfl
                by_cases h21 : o.kind = 21
                · have hb21 : (o.kind == 21) = true := by simp [h21]
                  have hne : ((ln : Int) != ru) = false := by simp [unhide HRU h21]
                  clear h21
                  go_wp2
                  go_roundw
                  case rel => exact ⟨k + 1, s', F4, aa, na, ca, all, rfl, by go_num, by omega, unhide K8, unhide N8, unhide HD', unhide HLIM, unhide L8, by omega, unhide HV7, unhide HNO7⟩
                  case measure => simp [intOf]; omega
                · have hb21 : (o.kind == 21) = false := by simp [h21]
                  clear h21
                  go_wp2
                  go_roundw
                  case rel => exact ⟨k + 1, s', F4, aa, na, ca, all, rfl, by go_num, by omega, unhide K8, unhide N8, unhide HD', unhide HLIM, unhide L8, by omega, unhide HV7, unhide HNO7⟩
                  case measure => simp [intOf]; omega
            · have hb0 : (an.e == 0) = false := by simp [h0]
              clear h0 R6
              go_wp2_with fail
              refine (unhide HHAN _).mono ?_
              rintro e w6 ⟨rfl, hc6⟩
              have BO6 := hide ((unhide BO5).chg hc6); have N6 := hide ((unhide N5).chg hc6); have L6 := hide ((unhide L5).chg hc6 (by simp)); have K6 := hide ((unhide K5).chg hP hc6 (by simp))
              generalize w4.heap.size = ga at *
              clear hc6 HHAN BO5 N5 L5 K5 BA5 b0 b1 b2 b3 b4 b5 b6 b7 a0 a1 a2 a3 a4 a5
              generalize handlesQ o an = hq at *
              obtain ⟨hx, hone⟩ := hq
              cases hone with
              | true =>
                have hno7 : Noted s' (all ++ [hx]) := by simpa using unhide HNO'
                have hix : I64 hx := unhide HI rfl
                have hv7 : ∀ x ∈ all ++ [hx], I64 x := fun x hm => by
                  rcases List.mem_append.1 hm with h | h
                  · exact unhide HV x h
                  · simp at h; subst h; exact hix
                have HNO7 := hide hno7; have HV7 := hide hv7
                clear hno7 hv7 hix HNO' HI HV
                go_wp2_with (at_builtin; go_must (refine wpList_append_gen _ rfl (.tmp 90) (.tmp 92) 27 rfl 3 i0 (.int .i64 0) 1 8 Try.underlying27 hi0 hz0 hz1 hz2 rfl (by decide) (.slice aa na ca) na (ints all) rfl ?c0 (some ⟨w6.heap.size, 0, none⟩) 1 1 (ints [hx]) rfl rfl ?c1 (ints_one _) ?c2 ?c3 ?_))
                case c0 => exact World.ownsRow.alloc (unhide L6).own _
                case c1 => first | exact fun _ => ⟨_, rfl, fun j u hj => by rw [addr_add, Nat.zero_add]; exact (Blk.new w6 (ints [hx]) 3).cell_of hj⟩ | exact fun j u hj => hj
                case c2 => unfold maxLen; omega
                case c3 => omega
                intro va cap w7 ho7 hg7 hat7
                obtain ⟨l7, kc7⟩ := (unhide L6).push (unhide K6).lt (unhide N6).1.size (.cells #[.int .i64 hx] 3) ho7 hg7 (Nat.le_succ _) hat7
                have N7 := hide ((unhide N6).chgS kc7 (fun x hx => ((unhide L6).out x hx).2)); have K7 := hide ((unhide K6).chg hP kc7 (fun b hb hm => ((unhide L6).out b hm).1 hb)); have L7 := hide l7
                have bo7 := (unhide BO6).chgS kc7 (fun hm => unhide HGO hm)
                have BO7 := hide bo7
                clear ho7 hg7 hat7 kc7 l7 bo7 N6 K6 L6 BO6
                go_wp2_with fail
                refine ((unhide K7).words hP (by omega)).mono ?_
                rintro e w8 ⟨la, ln, lc, rfl, o8, k8⟩
                have hwq : s'.wordsQ = s'.words := by simp [R.wordsQ, unhide HD']
                rw [hwq] at o8
                have hln : (ln : Int) ≤ l := by
                  have q1 := words_size k8.all.ok
                  have q2 := k8.all.row.fits
                  rw [unhide HLIM] at q2
                  have q3 := o8.len
                  omega
                have zl : ¬ (ln : Int) > l := by omega
                have hru : o.kind = 21 → (ln : Int) = ru := fun h => by rw [← unhide HCOL h, o8.len]
                have BO8 := hide ((unhide BO7).chg o8.chg); have N8 := hide ((unhide N7).chg o8.chg); have L8 := hide ((unhide L7).chg o8.chg (by simp)); have K8 := hide k8; have HRU := hide hru
                clear hwq o8 k8 hln hru BO7 N7 L7 K7 HCOL
                generalize s'.wordsE = we at *
                have b0 := (unhide BO8).1.cell_of (i := 0) rfl
                by_cases h21 : o.kind = 21
                · have hb21 : (o.kind == 21) = true := by simp [h21]
                  have hne : ((ln : Int) != ru) = false := by simp [unhide HRU h21]
                  clear h21
                  go_wp2
                  go_roundw
                  case rel => exact ⟨k + 1, s', F4, va, (na + 1), cap, (all ++ [hx]), rfl, by go_num, by omega, unhide K8, unhide N8, unhide HD', unhide HLIM, unhide L8, by omega, unhide HV7, unhide HNO7⟩
                  case measure => simp [intOf]; omega
                · have hb21 : (o.kind == 21) = false := by simp [h21]
                  clear h21
                  go_wp2
                  go_roundw
                  case rel => exact ⟨k + 1, s', F4, va, (na + 1), cap, (all ++ [hx]), rfl, by go_num, by omega, unhide K8, unhide N8, unhide HD', unhide HLIM, unhide L8, by omega, unhide HV7, unhide HNO7⟩
                  case measure => simp [intOf]; omega
              | false =>
                have hno7 : Noted s' all := by simpa using unhide HNO'
                have HNO7 := hide hno7; have HV7 := HV; have N7 := N6; have K7 := K6; have L7 := L6; have BO7 := BO6
                clear hno7 HNO' HI HV N6 K6 L6 BO6
                go_wp2_with fail
                refine ((unhide K7).words hP (by omega)).mono ?_
                rintro e w8 ⟨la, ln, lc, rfl, o8, k8⟩
                have hwq : s'.wordsQ = s'.words := by simp [R.wordsQ, unhide HD']
                rw [hwq] at o8
                have hln : (ln : Int) ≤ l := by
                  have q1 := words_size k8.all.ok
                  have q2 := k8.all.row.fits
                  rw [unhide HLIM] at q2
                  have q3 := o8.len
                  omega
                have zl : ¬ (ln : Int) > l := by omega
                have hru : o.kind = 21 → (ln : Int) = ru := fun h => by rw [← unhide HCOL h, o8.len]
                have BO8 := hide ((unhide BO7).chg o8.chg); have N8 := hide ((unhide N7).chg o8.chg); have L8 := hide ((unhide L7).chg o8.chg (by simp)); have K8 := hide k8; have HRU := hide hru
                clear hwq o8 k8 hln hru BO7 N7 L7 K7 HCOL
                generalize s'.wordsE = we at *
                have b0 := (unhide BO8).1.cell_of (i := 0) rfl
                by_cases h21 : o.kind = 21
                · have hb21 : (o.kind == 21) = true := by simp [h21]
                  have hne : ((ln : Int) != ru) = false := by simp [unhide HRU h21]
                  clear h21
                  go_wp2
                  go_roundw
                  case rel => exact ⟨k + 1, s', F4, aa, na, ca, all, rfl, by go_num, by omega, unhide K8, unhide N8, unhide HD', unhide HLIM, unhide L8, by omega, unhide HV7, unhide HNO7⟩
                  case measure => simp [intOf]; omega
                · have hb21 : (o.kind == 21) = false := by simp [h21]
                  clear h21
                  go_wp2
                  go_roundw
                  case rel => exact ⟨k + 1, s', F4, aa, na, ca, all, rfl, by go_num, by omega, unhide K8, unhide N8, unhide HD', unhide HLIM, unhide L8, by omega, unhide HV7, unhide HNO7⟩
                  case measure => simp [intOf]; omega
          · clear R6
            go_wp2_with fail
            refine (unhide HHAN _).mono ?_
            rintro e w6 ⟨rfl, hc6⟩
            have BO6 := hide ((unhide BO5).chg hc6); have N6 := hide ((unhide N5).chg hc6); have L6 := hide ((unhide L5).chg hc6 (by simp)); have K6 := hide ((unhide K5).chg hP hc6 (by simp))
            generalize w4.heap.size = ga at *
            clear hc6 HHAN BO5 N5 L5 K5 BA5 b0 b1 b2 b3 b4 b5 b6 b7 a0 a1 a2 a3 a4 a5
            generalize handlesQ o an = hq at *
            obtain ⟨hx, hone⟩ := hq
            cases hone with
            | true =>
              have hno7 : Noted s' (all ++ [hx]) := by simpa using unhide HNO'
              have hix : I64 hx := unhide HI rfl
              have hv7 : ∀ x ∈ all ++ [hx], I64 x := fun x hm => by
                rcases List.mem_append.1 hm with h | h
                · exact unhide HV x h
                · simp at h; subst h; exact hix
              have HNO7 := hide hno7; have HV7 := hide hv7
              clear hno7 hv7 hix HNO' HI HV
              go_wp2_with (at_builtin; go_must (refine wpList_append_gen _ rfl (.tmp 90) (.tmp 92) 27 rfl 3 i0 (.int .i64 0) 1 8 Try.underlying27 hi0 hz0 hz1 hz2 rfl (by decide) (.slice aa na ca) na (ints all) rfl ?c0 (some ⟨w6.heap.size, 0, none⟩) 1 1 (ints [hx]) rfl rfl ?c1 (ints_one _) ?c2 ?c3 ?_))
              case c0 => exact World.ownsRow.alloc (unhide L6).own _
              case c1 => first | exact fun _ => ⟨_, rfl, fun j u hj => by rw [addr_add, Nat.zero_add]; exact (Blk.new w6 (ints [hx]) 3).cell_of hj⟩ | exact fun j u hj => hj
              case c2 => unfold maxLen; omega
              case c3 => omega
              intro va cap w7 ho7 hg7 hat7
              obtain ⟨l7, kc7⟩ := (unhide L6).push (unhide K6).lt (unhide N6).1.size (.cells #[.int .i64 hx] 3) ho7 hg7 (Nat.le_succ _) hat7
              have N7 := hide ((unhide N6).chgS kc7 (fun x hx => ((unhide L6).out x hx).2)); have K7 := hide ((unhide K6).chg hP kc7 (fun b hb hm => ((unhide L6).out b hm).1 hb)); have L7 := hide l7
              have bo7 := (unhide BO6).chgS kc7 (fun hm => unhide HGO hm)
              have BO7 := hide bo7
              clear ho7 hg7 hat7 kc7 l7 bo7 N6 K6 L6 BO6
              go_wp2_with fail
              refine ((unhide K7).words hP (by omega)).mono ?_
              rintro e w8 ⟨la, ln, lc, rfl, o8, k8⟩
              have hwq : s'.wordsQ = s'.words := by simp [R.wordsQ, unhide HD']
              rw [hwq] at o8
              have hln : (ln : Int) ≤ l := by
                have q1 := words_size k8.all.ok
                have q2 := k8.all.row.fits
                rw [unhide HLIM] at q2
                have q3 := o8.len
                omega
              have zl : ¬ (ln : Int) > l := by omega
              have hru : o.kind = 21 → (ln : Int) = ru := fun h => by rw [← unhide HCOL h, o8.len]
              have BO8 := hide ((unhide BO7).chg o8.chg); have N8 := hide ((unhide N7).chg o8.chg); have L8 := hide ((unhide L7).chg o8.chg (by simp)); have K8 := hide k8; have HRU := hide hru
              clear hwq o8 k8 hln hru BO7 N7 L7 K7 HCOL
              generalize s'.wordsE = we at *
              have b0 := (unhide BO8).1.cell_of (i := 0) rfl
              by_cases h21 : o.kind = 21
              · have hb21 : (o.kind == 21) = true := by simp [h21]
                have hne : ((ln : Int) != ru) = false := by simp [unhide HRU h21]
                clear h21
                go_wp2
                go_roundw
                case rel => exact ⟨k + 1, s', F4, va, (na + 1), cap, (all ++ [hx]), rfl, by go_num, by omega, unhide K8, unhide N8, unhide HD', unhide HLIM, unhide L8, by omega, unhide HV7, unhide HNO7⟩
                case measure => simp [intOf]; omega
              · have hb21 : (o.kind == 21) = false := by simp [h21]
                clear h21
                go_wp2
                go_roundw
                case rel => exact ⟨k + 1, s', F4, va, (na + 1), cap, (all ++ [hx]), rfl, by go_num, by omega, unhide K8, unhide N8, unhide HD', unhide HLIM, unhide L8, by omega, unhide HV7, unhide HNO7⟩
                case measure => simp [intOf]; omega
            | false =>
              have hno7 : Noted s' all := by simpa using unhide HNO'
              have HNO7 := hide hno7; have HV7 := HV; have N7 := N6; have K7 := K6; have L7 := L6; have BO7 := BO6
              clear hno7 HNO' HI HV N6 K6 L6 BO6
              go_wp2_with fail
              refine ((unhide K7).words hP (by omega)).mono ?_
              rintro e w8 ⟨la, ln, lc, rfl, o8, k8⟩
              have hwq : s'.wordsQ = s'.words := by simp [R.wordsQ, unhide HD']
              rw [hwq] at o8
              have hln : (ln : Int) ≤ l := by
                have q1 := words_size k8.all.ok
                have q2 := k8.all.row.fits
                rw [unhide HLIM] at q2
                have q3 := o8.len
                omega
              have zl : ¬ (ln : Int) > l := by omega
              have hru : o.kind = 21 → (ln : Int) = ru := fun h => by rw [← unhide HCOL h, o8.len]
              have BO8 := hide ((unhide BO7).chg o8.chg); have N8 := hide ((unhide N7).chg o8.chg); have L8 := hide ((unhide L7).chg o8.chg (by simp)); have K8 := hide k8; have HRU := hide hru
              clear hwq o8 k8 hln hru BO7 N7 L7 K7 HCOL
              generalize s'.wordsE = we at *
              have b0 := (unhide BO8).1.cell_of (i := 0) rfl
              by_cases h21 : o.kind = 21
              · have hb21 : (o.kind == 21) = true := by simp [h21]
                have hne : ((ln : Int) != ru) = false := by simp [unhide HRU h21]
                clear h21
                go_wp2
                go_roundw
                case rel => exact ⟨k + 1, s', F4, aa, na, ca, all, rfl, by go_num, by omega, unhide K8, unhide N8, unhide HD', unhide HLIM, unhide L8, by omega, unhide HV7, unhide HNO7⟩
                case measure => simp [intOf]; omega
              · have hb21 : (o.kind == 21) = false := by simp [h21]
                clear h21
                go_wp2
                go_roundw
                case rel => exact ⟨k + 1, s', F4, aa, na, ca, all, rfl, by go_num, by omega, unhide K8, unhide N8, unhide HD', unhide HLIM, unhide L8, by omega, unhide HV7, unhide HNO7⟩
                case measure => simp [intOf]; omega
      · have zk : ¬ (k : Int) < (sn : Int) := by omega
        have HNW := hide hnw; clear hks hnw hd hlm hls hv hnt
        go_wp2
        go_ret
        exact ⟨rfl, (unhide HNW).1⟩
end Go.Proofs.Ytfoncalkgmeklaa

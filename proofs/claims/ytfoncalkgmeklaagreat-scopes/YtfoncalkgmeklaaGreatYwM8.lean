import Derived.Test.YtfoncalkgmeklaaGreatYwM7
import Derived.Test.YtfoncalkgmeklaaGreatCYwAppWide

/- keep, walked. -/
namespace Go.Proofs.YtfoncalkgmeklaaGreat
open Go.RowKit

theorem infoSl : (Tryz.prog.info? 26).map (fun i => (i.zero, i.size, i.bytes)) = some (some (.slice none 0 0), 1, 24) := by kernel_rfl

/-- The list behind k rounds of the owner's writing. -/
def filled (ys : List Int) (m : Int) (k : Nat) : List Int := List.replicate k m ++ ys.drop k
theorem filled_set (ys : List Int) (m : Int) (k : Nat) (h : k < ys.length) : (filled ys m k).set k m = filled ys m (k + 1) := by
  unfold filled
  rw [List.set_append_right _ _ (by simp), List.length_replicate, Nat.sub_self, List.drop_eq_getElem_cons h, List.set_cons_zero, List.replicate_succ', List.append_assoc]
  rfl
/-- A number of an owned row is stored. -/
theorem owns_set {w : World} {e : TypeId} {g n c k : Nat} {ys : List Int} {m : Int} (h : w.ownsRow 0 e 1 (.slice (some ⟨g, 0, none⟩) n c) n (ints ys)) (hk : k < n) : (w.setCell ⟨g, k, none⟩ (.int .i64 m)).ownsRow 0 e 1 (.slice (some ⟨g, 0, none⟩) n c) n (ints (ys.set k m)) := by
  obtain ⟨rest, hb, h1, h2, h3, _⟩ := owns_blk h
  have hl : ys.length = n := by simpa [ints] using h.1
  have hb' := hb.setCell k (.int .i64 m)
  have e1 : (ints ys ++ rest).set k (.int .i64 m) = ints (ys.set k m) ++ rest := by
    rw [List.set_append_left _ _ (by simp [ints]; omega)]
    simp [ints, List.map_set]
  rw [e1] at hb'
  have hl2 : (ints (ys.set k m) ++ rest).length = c * 1 := by
    have : (ints (ys.set k m)).length = (ints ys).length := by simp [ints]
    rw [List.length_append, this, ← List.length_append]; exact h3
  have := hb'.owns (size := 1) (base := 0) (n := n) (cap := c) (Nat.zero_le _) h1 h2 hl2
  rw [Nat.mul_one, List.take_append_of_le_length (by simp [ints]; omega), List.take_of_length_le (by simp [ints]; omega)] at this
  exact this

set_option maxRecDepth 100000 in
set_option maxHeartbeats 4000000 in
theorem keep_any {G : World → Nat → R → List Nat → Prop} (hG : Stays G) {w : World} {bw : Nat} {sp sr : R} {S : LS} {a : Option Addr} {n c : Nat} {ys : List Int} (h : LRep G w bw sp sr S) (ho : w.ownsRow 0 3 1 (.slice a n c) n (ints ys)) (hn : n ≤ 100000)
    (hdF : ∀ b ∈ ab a, b ∉ S.F) (hdL : ∀ b ∈ ab a, b ∉ S.L.foot S.br) (hdO : ∀ b ∈ ab a, b ∉ S.own bw) (hm : -10000000000000 ≤ S.mark ∧ S.mark ≤ 0) (hel : S.ents.length ≤ 8000000000000) :
    Calls Tryz.prog 47 #[.pointer (some ⟨bw, 0, none⟩), .slice a n c] w fun e w' => ∃ S', e = .returned (.tuple #[]) ∧ LRep G w' bw sp sr S' ∧ S'.mark = S.mark - 1 ∧ S'.ents.length = S.ents.length + 4 ∧ S'.bh = S.bh ∧ S'.br = S.br ∧ S'.fl = S.fl := by
  have hl : ys.length = n := by simpa [ints] using ho.1
  have c6 := h.law.cell_of (i := 6) rfl
  have f6 := h.law.frozen 6
  obtain ⟨hm1, hm2⟩ := hm
  have h1 := h.setMark hG (S.mark - 1)
  have hob : ∀ b ∈ ab a, b ≠ bw := fun b hb e => hdO b hb (e ▸ own_bw _ _)
  have ho1 : (w.setCell ⟨bw, 6, none⟩ (.int .i64 (S.mark - 1))).ownsRow 0 3 1 (.slice a n c) n (ints ys) := ownsRow_setCell_other' ho (fun g hg e => hob g (ownBlock_ab hg) e) _
  have H1 := hide h1; have HO1 := hide ho1; have HL := hide hl; have HDF := hide hdF; have HDL := hide hdL; have HDO := hide hdO; clear h h1 ho ho1 hl hdF hdL hdO hob
  go_enter Tryz.func47, Tryz.ntmps47
  go_wp2_with fail
  generalize w.setCell ⟨bw, 6, none⟩ (.int .i64 (S.mark - 1)) = w1 at *
  clear c6 f6
  go_loopw [4] (fun i wr => ∃ k : Nat, k ≤ n ∧ i = .int .i64 k ∧ wr.ownsRow 0 3 1 (.slice a n c) n (ints (filled ys (S.mark - 1) k)) ∧ Chg (ab a) w1 wr) (fun i _ => n - (intOf i).toNat)
  case atStart => exact ⟨0, Nat.zero_le _, rfl, by simpa [filled] using unhide HO1, Chg.refl _ _⟩
  case round =>
    obtain ⟨k, hk, rfl, hok, hck⟩ := hrel
    have hlr := (unhide H1).free hG hck (fun b hb => unhide HDF b hb) (fun b hb => unhide HDL b hb) (fun b hb => unhide HDO b hb)
    have HLR := hide hlr; have HOK := hide hok; have HCK := hide hck; clear hlr hok hck
    by_cases hlt : k < n
    · obtain ⟨g, rfl, hgl, hc⟩ := owns_at (unhide HOK) (by omega)
      have hfl : (filled ys (S.mark - 1) k).length = n := by have := (unhide HOK).1; simpa [ints] using this
      obtain ⟨y, hy⟩ : ∃ y, (filled ys (S.mark - 1) k)[k]? = some y := ⟨_, List.getElem?_eq_getElem (by omega)⟩
      have ck := hc k (.int .i64 y) (by simp [ints, hy])
      obtain ⟨rest, hbk, _, _, _, _⟩ := owns_blk (unhide HOK)
      have fk := hbk.frozen k
      have c6 := (unhide HLR).law.cell_of (i := 6) rfl
      have hst := owns_set (m := S.mark - 1) (unhide HOK) hlt
      rw [filled_set ys _ k (by have := unhide HL; omega)] at hst
      have HST := hide hst; clear hst hc hy hbk hfl
      have zk : (k : Int) < (n : Int) := by omega
      go_wp2
      go_roundw
      case rel => exact ⟨k + 1, by omega, by go_num, unhide HST, (unhide HCK).setCell (.inl (by simp [ab])) _⟩
      case measure => simp [intOf]; omega
    · have hkn : k = n := by omega
      have hfull : filled ys (S.mark - 1) k = List.replicate n (S.mark - 1) := by
        unfold filled; rw [hkn, List.drop_of_length_le (by have := unhide HL; omega), List.append_nil]
      have hkp : Kp wr bw { S with mark := S.mark - 1 } a n c := by
        refine ⟨by rw [← hfull]; exact unhide HOK, unhide HDF, unhide HDL, fun b hb hm => unhide HDO b hb (own_ma hm), fun i e m h1 h2 b hb hba => absurd (own_ent (List.mem_of_getElem? h1) hb) (unhide HDO b hba)⟩
      have HKP := hide hkp; clear hkp hfull hkn HOK
      go_wp2_with fail
      obtain ⟨is, his, hs0, hs1, hs2⟩ := info_parts infoSl
      obtain ⟨i0, hi0, hz0, hz1, hz2⟩ := info_parts info3
      go_loopw [1, 5] (fun v i wr => ∃ j a n c S', j ≤ 4 ∧ i = .int .i64 (j : Nat) ∧ v = .slice a n c ∧ n ≤ 100000 + j ∧ LRep G wr bw sp sr S' ∧ Kp wr bw S' a n c ∧ S'.mark = S.mark - 1 ∧ S'.ents.length = S.ents.length + j ∧ S'.bh = S.bh ∧ S'.br = S.br ∧ S'.fl = S.fl) (fun _ i _ => 4 - (intOf i).toNat)
      case atStart => exact ⟨0, _, _, _, _, Nat.zero_le _, rfl, rfl, by omega, unhide HLR, unhide HKP, rfl, rfl, rfl, rfl, rfl⟩
      case round =>
        obtain ⟨j, a, n, c, S', hj, rfl, rfl, hn', h2, kp2, hmk, hen, hbb⟩ := hrel
        have H2 := hide h2; have KP2 := hide kp2; have HMK := hide hmk; have HEN := hide hen; have HBB := hide hbb; clear h2 kp2 hmk hen hbb HLR HKP HCK HO1 H1 HL HDF HDL HDO
        by_cases hj4 : j < 4
        · have c4 := (unhide H2).law.cell_of (i := 4) rfl
          have f4 := (unhide H2).law.frozen 4
          have hel' : S'.ents.length ≤ 8000000000004 := by have := unhide HEN; omega
          have hml' : S'.marks.length ≤ 8000000000004 := by rw [(unhide H2).mlen]; exact hel'
          go_wp2_with (at_builtin; go_must (refine wpList_append_wide _ rfl (.tmp 35) (.tmp 37) 38 rfl 26 is (.slice none 0 0) 1 24 Tryz.underlying38 his hs0 hs1 hs2 rfl (by decide) (.slice S'.la S'.ents.length S'.lc) S'.ents.length (S'.ents.map fun e => Value.slice e.1 e.2.1 e.2.2) rfl ?c0 (some ⟨wr.heap.size, 0, none⟩) 1 1 [.slice a n c] rfl rfl ?c1 ?c4 (by decide) ?c2 ?c3 ?_))
          case c0 => exact World.ownsRow.alloc (unhide H2).lists _
          case c1 => first | exact fun _ => ⟨_, rfl, fun j u hj => by rw [addr_add, Nat.zero_add]; exact (Blk.new wr [.slice a n c] 26).cell_of hj⟩ | exact fun j u hj => hj
          case c4 => first | rfl | (intro u hu; simp at hu; subst hu; rfl)
          case c2 => unfold maxLen; omega
          case c3 => omega
          intro va cap w3 ho3 hg3 hat3
          have kg3 := grown_ab (S := []) ((Chg.refl [] wr).alloc (.cells #[.slice a n c] 26)) hg3
          have hb3 : Blk w3 bw _ 40 := (unhide H2).law.chg_ty kg3 (fun x hx => by simp at hx; exact (owns_ty (unhide H2).lists x hx).ne (by decide))
          have c4' := hb3.cell_of (i := 4) rfl
          have f4' := hb3.frozen 4
          have hb3' := hb3.setCell 4 (.slice va (S'.ents.length + 1) cap)
          have hmr3 : (w3.setCell ⟨bw, 4, none⟩ (.slice va (S'.ents.length + 1) cap)).ownsRow 0 3 1 (.slice S'.ma S'.marks.length S'.mc) S'.marks.length (ints S'.marks) :=
            owns_chg_ty (unhide H2).marksR ((kg3.mono (fun x hx => by simp at hx; simp [hx]) : Chg (bw :: ab S'.la) wr w3).setCell (p := ⟨bw, 4, none⟩) (.inl (by simp)) _) (fun x hx => by
              rcases List.mem_cons.1 hx with rfl | hx
              · exact (unhide H2).law.ty.ne (by decide)
              · exact (owns_ty (unhide H2).lists x hx).ne (by decide))
          have HO3 := hide ho3; have HG3 := hide hg3; have HAT3 := hide hat3; clear ho3 hg3 hat3 kg3 c4 f4
          go_upto_region 9 with fail
          have hw4 : ∃ w4, w4 = w3.setCell ⟨bw, 4, none⟩ (.slice va (S'.ents.length + 1) cap) := ⟨_, rfl⟩
          obtain ⟨w4, hw4⟩ := hw4
          rw [← hw4] at hb3' hmr3 ⊢
          have c5 := hb3'.cell_of (i := 5) rfl
          have c6 := hb3'.cell_of (i := 6) rfl
          have f5 := hb3'.frozen 5
          have HB4 := hide hb3'; have HMR4 := hide hmr3; have HW4 := hide hw4; clear hb3' hmr3 hw4 hb3 c4' f4'
          go_cut [] (fun wx => ∃ S2, LRep G wx bw sp sr S2 ∧ Kp wx bw S2 a n c ∧ S2.mark = S.mark - 1 ∧ S2.ents.length = S.ents.length + j + 1 ∧ S2.bh = S.bh ∧ S2.br = S.br ∧ S2.fl = S.fl)
          case first =>
            have hblk9 : Blk (w4.alloc (.cells #[.int .i64 S'.mark] 3)).drew w4.heap.size (ints [S'.mark]) 3 := Blk.new w4 (ints [S'.mark]) 3
            have hown9 : Hid ((w4.alloc (.cells #[.int .i64 S'.mark] 3)).drew.ownsRow 0 3 1 (.slice S'.ma S'.marks.length S'.mc) S'.marks.length (ints S'.marks)) := World.ownsRow.drew (World.ownsRow.alloc (unhide HMR4) _)
            have hsrc9 : Hid (0 < 1 → ∃ ad, some (⟨w4.heap.size, 0, none⟩ : Addr) = some ad ∧ ∀ j u, (ints [S'.mark])[j]? = some u → (w4.alloc (.cells #[.int .i64 S'.mark] 3)).drew.cell? (ad.add j) = some u) :=
              fun _ => ⟨_, rfl, fun j u hj => by rw [addr_add, Nat.zero_add]; exact hblk9.cell_of hj⟩
            have hmx : Hid (S'.marks.length + 1 ≤ maxLen ∧ (S'.marks.length + 1) * 8 ≤ 140737488355328) := ⟨by unfold maxLen; omega, by omega⟩
            have hbrn : Hid (∀ w9, (w4.alloc (.cells #[.int .i64 S'.mark] 3)).drew.grownBy w9 (Value.slice S'.ma S'.marks.length S'.mc).ownBlock → w9.cell? ⟨bw, 5, none⟩ = some (.slice S'.ma S'.marks.length S'.mc) ∧ w9.frozen? ⟨bw, 5, none⟩ = false) := by
              intro w9 hg9
              have hb9 : Blk w9 bw _ 40 := (unhide HB4).chg_ty (grown_ab (S := []) ((Chg.refl [] w4).alloc _).drew hg9) (fun x hx => by simp at hx; exact (owns_ty (unhide HMR4) x hx).ne (by decide))
              exact ⟨hb9.cell_of (i := 5) rfl, hb9.frozen 5⟩
            have c5a : (w4.alloc (.cells #[.int .i64 S'.mark] 3)).cell? ⟨bw, 5, none⟩ = some (.slice S'.ma S'.marks.length S'.mc) := by rw [((Chg.refl [] w4).alloc _).cell (unhide HB4).lt (by simp)]; exact c5
            clear hblk9
            go_region_law ((refine step_append_gen _ (by rfl) (.tmp 45) (.tmp 50) 26 (by rfl) 3 i0 (.int .i64 0) 1 8 Tryz.underlying26 hi0 hz0 hz1 hz2 (by rfl) (by decide) (.slice S'.ma S'.marks.length S'.mc) S'.marks.length (ints S'.marks) (by rfl) (unhide hown9) (some ⟨w4.heap.size, 0, none⟩) 1 1 (ints [S'.mark]) (by rfl) (by rfl) (unhide hsrc9) (ints_one _) (unhide hmx).1 (unhide hmx).2 ?_; intro va9 cap9 w9 ho9 hg9 hnil9 hat9; have c9 := (unhide hbrn w9 hg9).1; have f9 := (unhide hbrn w9 hg9).2; have HO9 := hide ho9; have HG9 := hide hg9; have HAT9 := hide hat9; clear ho9 hg9 hat9 hnil9))
            all_goals
              go_wp2_with fail
              go_meet
              have hp2 := (unhide H2).push2 hG (unhide KP2) (by omega) ((Chg.refl [] wr).alloc (.cells #[.slice a n c] 26)) (unhide HO3) (unhide HG3) (Nat.le_succ _) (unhide HAT3) (unhide HW4) (((Chg.refl [] w4).alloc (.cells #[.int .i64 S'.mark] 3)).drew) (unhide HO9) (unhide HG9) (by show w4.heap.size ≤ (w4.heap.push _).size; simp) (unhide HAT9)
              exact ⟨_, hp2.1, hp2.2, unhide HMK, by simp [unhide HEN], unhide HBB⟩
          case rest =>
            obtain ⟨S2, h5, kp5, hm5, he5, hb5⟩ := hcut
            have c6' := h5.law.cell_of (i := 6) rfl
            have H5 := hide h5; have KP5 := hide kp5; have HM5 := hide hm5; have HE5 := hide he5; have HB5 := hide hb5; clear h5 kp5 hm5 he5 hb5 c5 c6 f5 HB4 HMR4 HW4 HO3 HG3 HAT3 H2 KP2
            go_wp2_with (at_builtin; go_must (refine wpList_append_moved _ rfl (.tmp 54) (.tmp 59) 26 rfl 3 i0 (.int .i64 0) 1 8 Tryz.underlying26 hi0 hz0 hz1 hz2 rfl (by decide) (.slice a n c) n (ints (List.replicate n S2.mark)) rfl ?d0 ⟨wc.heap.size, 0, none⟩ 1 1 (ints [S2.mark]) rfl rfl ?d1 (ints_one _) (by decide) ?d2 ?d3 ?_))
            case d0 => exact World.ownsRow.alloc (unhide KP5).own _
            case d1 => first | exact fun j u hj => by rw [addr_add, Nat.zero_add]; exact (Blk.new wc (ints [S2.mark]) 3).cell_of hj | exact fun j u hj => hj
            case d2 => unfold maxLen; omega
            case d3 => omega
            intro va6 cap6 w6 ho6 hg6 hat6
            have hgr := (unhide H5).grow hG (unhide KP5) (.cells #[.int .i64 S2.mark] 3) (H := wc.heap.size + 1) ho6 hg6 (Nat.le_succ _) hat6
            have HGR := hide hgr; clear hgr ho6 hg6 hat6 c6'
            go_wp2
            go_roundw
            case rel =>
              have hr : ∃ j' a' n' c' S'', j' ≤ 4 ∧ Value.int .i64 ((j : Int) + 1) = .int .i64 (j' : Nat) ∧ Value.slice va6 (n + 1) cap6 = .slice a' n' c' ∧ n' ≤ 100000 + j' ∧ LRep G w6 bw sp sr S'' ∧ Kp w6 bw S'' a' n' c' ∧ S''.mark = S.mark - 1 ∧ S''.ents.length = S.ents.length + j' ∧ S''.bh = S.bh ∧ S''.br = S.br ∧ S''.fl = S.fl :=
                ⟨j + 1, va6, n + 1, cap6, S2, by omega, by go_num, rfl, by omega, (unhide HGR).1, (unhide HGR).2, unhide HM5, by rw [unhide HE5]; omega, unhide HB5⟩
              first | exact hr | ((repeat apply Exists.intro); exact ⟨hr, rfl⟩)
            case measure => simp [intOf]; omega
        · have hj4' : j = 4 := by omega
          go_wp2
          go_end0
          exact ⟨S', rfl, unhide H2, unhide HMK, by rw [unhide HEN, hj4'], unhide HBB⟩
end Go.Proofs.YtfoncalkgmeklaaGreat

/- asks (but Words): each of these calls, of the program and of the document, answers the same, if each keeps its contract. (Written by wip/genlaw.py.) -/
namespace Go.Proofs.YtfoncalkgmeklaaGreat
open Go.RowKit

set_option maxRecDepth 100000 in
set_option maxHeartbeats 2000000 in
theorem asks_kind {G : World → Nat → R → List Nat → Prop} (hG : Stays G) {w : World} {bw : Nat} {s : R} {S : LS} (x y : Int) (k v : Int × Int) (t : ByteArray) (a : Int) (er : Int) (s' : R) (h : LRep G w bw s s S)
    (hp : PCall G 37 S.bh [.int .i64 x] s (.int .i64 a) er s') (hr : RCall 38 S.br [.int .i64 x] s (.int .i64 a) er s') :
    Calls Tryz.prog 21 #[.pointer (some ⟨bw, 0, none⟩), LOp.val ⟨4, x, y, k, v, t⟩] w fun e w' => ∃ S', e = .returned (.bool true) ∧ LRep G w' bw s' s' S' ∧ Like S S' := by
  unfold LOp.val
  have h0 := h.ref
  have h1 : LRep G (w.alloc (.cells (LOp.cells ⟨4, x, y, k, v, t⟩).toArray 35)).drew bw s s S := h.quiet hG ((Chg.refl [] w).alloc _).drew
  have hbx : Blk (w.alloc (.cells (LOp.cells ⟨4, x, y, k, v, t⟩).toArray 35)).drew w.heap.size (LOp.cells ⟨4, x, y, k, v, t⟩) 35 := (Blk.new w _ _).drew
  have hbw : bw < w.heap.size := h.law.lt
  have c0 := h.law.cell_of (i := 0) rfl
  have hnF : ∀ b ∈ S.F, b < w.heap.size := h.flt
  have hpc : Hid (Calls Tryz.prog 37 #[.pointer (some ⟨S.bh, 0, none⟩), .int .i64 x] (w.alloc (.cells (LOp.cells ⟨4, x, y, k, v, t⟩).toArray 35)).drew fun e w' => ∃ F', e = .returned (.tuple #[.int .i64 a, .int .i64 er]) ∧ G w' S.bh s' F' ∧ (∀ b ∈ F', b < w'.heap.size) ∧ Stp S.F (w.alloc (.cells (LOp.cells ⟨4, x, y, k, v, t⟩).toArray 35)).drew F' w') := hp _ _ h1.prog
  have hall : Hid (∀ w', Chg S.F (w.alloc (.cells (LOp.cells ⟨4, x, y, k, v, t⟩).toArray 35)).drew w' → w'.cell? ⟨bw, 0, none⟩ = some (.pointer (some ⟨S.bh, 0, none⟩)) ∧ w'.cell? ⟨w.heap.size, 1, none⟩ = some (.int .i64 x)) := by
    intro w' hc
    exact ⟨(h1.law.chg hc (fun hm => h1.dj2 bw hm (own_bw _ _))).cell_of rfl, (hbx.chg hc (fun hm => by have := hnF _ hm; omega)).cell_of rfl⟩
  have H0 := hide h0; have H1 := hide h1; have HBX := hide hbx; have HR := hide hr; have HNF := hide hnF; clear h h0 h1 hbx hp hr hnF
  go_enter Tryz.func21, Tryz.ntmps21
  go_upto_region 7 with fail
  go_cut [5, 6] (fun a' b wx => a' = .int .i64 a ∧ b = .int .i64 er ∧ ∃ S', LRep G wx bw s' s S' ∧ Like S S' ∧ S'.bh = S.bh ∧ S'.br = S.br ∧ (∀ b ∈ S'.L.foot S'.br, b ≠ w.heap.size) ∧ Blk wx w.heap.size (LOp.cells ⟨4, x, y, k, v, t⟩) 35)
  case first =>
    go_region_held3 (fun w' => w'.cell? ⟨bw, 0, none⟩ = some (.pointer (some ⟨S.bh, 0, none⟩)) ∧ w'.cell? ⟨w.heap.size, 1, none⟩ = some (.int .i64 x)) (first | go_keep | (apply unhide hall; assumption)) ((go_at_call 37; refine (unhide hpc).mono ?_; rintro e w2 ⟨F2, rfl, hg2, hl2, st2⟩; have hc2 := st2.chg; have HG2 := hide hg2; have HL2 := hide hl2; have ST2 := hide st2; clear hg2 hl2 st2))
    go_wp2_with fail
    go_meet
    refine ⟨rfl, rfl, _, (unhide H1).progStep (unhide HG2) (unhide HL2) (unhide ST2), ⟨rfl, rfl, rfl, rfl, rfl⟩, rfl, rfl, fun b hb e => ?_, (unhide HBX).chg hc2 (fun hm => by have := unhide HNF _ hm; omega)⟩
    have := (unhide H0).lt b hb
    omega
  case rest =>
    obtain ⟨rfl, rfl, S2, h2, lk, e1, e2, hn2, hbx2⟩ := hcut
    have h3 : LRep G wc.drew bw s' s S2 := h2.quiet hG ((Chg.refl [] wc).drew)
    have c1 := h2.law.cell_of (i := 1) rfl
    have cxx := hbx2.cell_of (i := 1) rfl
    have hrc : Hid (Calls Tryz.prog 38 #[.pointer (some ⟨S.br, 0, none⟩), .int .i64 x] wc.drew fun e w' => ∃ L', e = .returned (.tuple #[.int .i64 a, .int .i64 er]) ∧ RRep w' S.br s' L' ∧ Stp (S2.L.foot S.br) wc.drew (L'.foot S.br) w') := by
      have := unhide HR wc.drew S2.L (by rw [← e2]; exact h3.ref)
      exact this
    have hall2 : Hid (∀ w', Chg (S2.L.foot S.br) wc.drew w' → w'.cell? ⟨bw, 1, none⟩ = some (.pointer (some ⟨S.br, 0, none⟩)) ∧ w'.cell? ⟨w.heap.size, 1, none⟩ = some (.int .i64 x)) := by
      intro w' hc
      have hcb := (h3.law.chg hc (fun hm => h2.dj3 bw (by rw [e2]; exact hm) (own_bw _ _))).cell_of (i := 1) rfl
      rw [e2] at hcb
      exact ⟨hcb, (hbx2.drew.chg hc (fun hm => hn2 _ (by rw [e2]; exact hm) rfl)).cell_of rfl⟩
    rw [e2] at c1
    have H3 := hide h3; have E2 := hide e2; have LK := hide lk; clear h2 h3 lk e1 e2 hn2 hbx2 H1 HBX hpc hall c0
    go_wp2_with fail
    go_region_held3 (fun w' => w'.cell? ⟨bw, 1, none⟩ = some (.pointer (some ⟨S.br, 0, none⟩)) ∧ w'.cell? ⟨w.heap.size, 1, none⟩ = some (.int .i64 x)) (first | go_keep | (apply unhide hall2; assumption)) ((go_at_call 38; refine (unhide hrc).mono ?_; rintro e w4 ⟨L4, rfl, hg4, st4⟩; have hc4 := st4.chg; have HG4 := hide hg4; have ST4 := hide st4; clear hg4 st4))
    go_wp2_with (go_at_call 18; refine (num_any _ _).mono ?_; rintro e w6 ⟨rfl, rfl⟩)
    go_ret
    exact ⟨{ S2 with L := L4 }, by simp, (unhide H3).refStep hG (by rw [unhide E2]; exact unhide HG4) (by rw [unhide E2]; exact unhide ST4), unhide LK⟩

set_option maxRecDepth 100000 in
set_option maxHeartbeats 2000000 in
theorem asks_len {G : World → Nat → R → List Nat → Prop} (hG : Stays G) {w : World} {bw : Nat} {s : R} {S : LS} (x y : Int) (k v : Int × Int) (t : ByteArray) (a : Int) (er : Int) (s' : R) (h : LRep G w bw s s S)
    (hp : PCall G 39 S.bh [.int .i64 x] s (.int .i64 a) er s') (hr : RCall 40 S.br [.int .i64 x] s (.int .i64 a) er s') :
    Calls Tryz.prog 21 #[.pointer (some ⟨bw, 0, none⟩), LOp.val ⟨5, x, y, k, v, t⟩] w fun e w' => ∃ S', e = .returned (.bool true) ∧ LRep G w' bw s' s' S' ∧ Like S S' := by
  unfold LOp.val
  have h0 := h.ref
  have h1 : LRep G (w.alloc (.cells (LOp.cells ⟨5, x, y, k, v, t⟩).toArray 35)).drew bw s s S := h.quiet hG ((Chg.refl [] w).alloc _).drew
  have hbx : Blk (w.alloc (.cells (LOp.cells ⟨5, x, y, k, v, t⟩).toArray 35)).drew w.heap.size (LOp.cells ⟨5, x, y, k, v, t⟩) 35 := (Blk.new w _ _).drew
  have hbw : bw < w.heap.size := h.law.lt
  have c0 := h.law.cell_of (i := 0) rfl
  have hnF : ∀ b ∈ S.F, b < w.heap.size := h.flt
  have hpc : Hid (Calls Tryz.prog 39 #[.pointer (some ⟨S.bh, 0, none⟩), .int .i64 x] (w.alloc (.cells (LOp.cells ⟨5, x, y, k, v, t⟩).toArray 35)).drew fun e w' => ∃ F', e = .returned (.tuple #[.int .i64 a, .int .i64 er]) ∧ G w' S.bh s' F' ∧ (∀ b ∈ F', b < w'.heap.size) ∧ Stp S.F (w.alloc (.cells (LOp.cells ⟨5, x, y, k, v, t⟩).toArray 35)).drew F' w') := hp _ _ h1.prog
  have hall : Hid (∀ w', Chg S.F (w.alloc (.cells (LOp.cells ⟨5, x, y, k, v, t⟩).toArray 35)).drew w' → w'.cell? ⟨bw, 0, none⟩ = some (.pointer (some ⟨S.bh, 0, none⟩)) ∧ w'.cell? ⟨w.heap.size, 1, none⟩ = some (.int .i64 x)) := by
    intro w' hc
    exact ⟨(h1.law.chg hc (fun hm => h1.dj2 bw hm (own_bw _ _))).cell_of rfl, (hbx.chg hc (fun hm => by have := hnF _ hm; omega)).cell_of rfl⟩
  have H0 := hide h0; have H1 := hide h1; have HBX := hide hbx; have HR := hide hr; have HNF := hide hnF; clear h h0 h1 hbx hp hr hnF
  go_enter Tryz.func21, Tryz.ntmps21
  go_upto_region 10 with fail
  go_cut [5, 6] (fun a' b wx => a' = .int .i64 a ∧ b = .int .i64 er ∧ ∃ S', LRep G wx bw s' s S' ∧ Like S S' ∧ S'.bh = S.bh ∧ S'.br = S.br ∧ (∀ b ∈ S'.L.foot S'.br, b ≠ w.heap.size) ∧ Blk wx w.heap.size (LOp.cells ⟨5, x, y, k, v, t⟩) 35)
  case first =>
    go_region_held3 (fun w' => w'.cell? ⟨bw, 0, none⟩ = some (.pointer (some ⟨S.bh, 0, none⟩)) ∧ w'.cell? ⟨w.heap.size, 1, none⟩ = some (.int .i64 x)) (first | go_keep | (apply unhide hall; assumption)) ((go_at_call 39; refine (unhide hpc).mono ?_; rintro e w2 ⟨F2, rfl, hg2, hl2, st2⟩; have hc2 := st2.chg; have HG2 := hide hg2; have HL2 := hide hl2; have ST2 := hide st2; clear hg2 hl2 st2))
    go_wp2_with fail
    go_meet
    refine ⟨rfl, rfl, _, (unhide H1).progStep (unhide HG2) (unhide HL2) (unhide ST2), ⟨rfl, rfl, rfl, rfl, rfl⟩, rfl, rfl, fun b hb e => ?_, (unhide HBX).chg hc2 (fun hm => by have := unhide HNF _ hm; omega)⟩
    have := (unhide H0).lt b hb
    omega
  case rest =>
    obtain ⟨rfl, rfl, S2, h2, lk, e1, e2, hn2, hbx2⟩ := hcut
    have h3 : LRep G wc.drew bw s' s S2 := h2.quiet hG ((Chg.refl [] wc).drew)
    have c1 := h2.law.cell_of (i := 1) rfl
    have cxx := hbx2.cell_of (i := 1) rfl
    have hrc : Hid (Calls Tryz.prog 40 #[.pointer (some ⟨S.br, 0, none⟩), .int .i64 x] wc.drew fun e w' => ∃ L', e = .returned (.tuple #[.int .i64 a, .int .i64 er]) ∧ RRep w' S.br s' L' ∧ Stp (S2.L.foot S.br) wc.drew (L'.foot S.br) w') := by
      have := unhide HR wc.drew S2.L (by rw [← e2]; exact h3.ref)
      exact this
    have hall2 : Hid (∀ w', Chg (S2.L.foot S.br) wc.drew w' → w'.cell? ⟨bw, 1, none⟩ = some (.pointer (some ⟨S.br, 0, none⟩)) ∧ w'.cell? ⟨w.heap.size, 1, none⟩ = some (.int .i64 x)) := by
      intro w' hc
      have hcb := (h3.law.chg hc (fun hm => h2.dj3 bw (by rw [e2]; exact hm) (own_bw _ _))).cell_of (i := 1) rfl
      rw [e2] at hcb
      exact ⟨hcb, (hbx2.drew.chg hc (fun hm => hn2 _ (by rw [e2]; exact hm) rfl)).cell_of rfl⟩
    rw [e2] at c1
    have H3 := hide h3; have E2 := hide e2; have LK := hide lk; clear h2 h3 lk e1 e2 hn2 hbx2 H1 HBX hpc hall c0
    go_wp2_with fail
    go_region_held3 (fun w' => w'.cell? ⟨bw, 1, none⟩ = some (.pointer (some ⟨S.br, 0, none⟩)) ∧ w'.cell? ⟨w.heap.size, 1, none⟩ = some (.int .i64 x)) (first | go_keep | (apply unhide hall2; assumption)) ((go_at_call 40; refine (unhide hrc).mono ?_; rintro e w4 ⟨L4, rfl, hg4, st4⟩; have hc4 := st4.chg; have HG4 := hide hg4; have ST4 := hide st4; clear hg4 st4))
    go_wp2_with (go_at_call 18; refine (num_any _ _).mono ?_; rintro e w6 ⟨rfl, rfl⟩)
    go_ret
    exact ⟨{ S2 with L := L4 }, by simp, (unhide H3).refStep hG (by rw [unhide E2]; exact unhide HG4) (by rw [unhide E2]; exact unhide ST4), unhide LK⟩

set_option maxRecDepth 100000 in
set_option maxHeartbeats 2000000 in
theorem asks_place {G : World → Nat → R → List Nat → Prop} (hG : Stays G) {w : World} {bw : Nat} {s : R} {S : LS} (x y : Int) (k v : Int × Int) (t : ByteArray) (a : Int) (er : Int) (s' : R) (h : LRep G w bw s s S)
    (hp : PCall G 41 S.bh [.int .i64 x] s (.int .i64 a) er s') (hr : RCall 42 S.br [.int .i64 x] s (.int .i64 a) er s') :
    Calls Tryz.prog 21 #[.pointer (some ⟨bw, 0, none⟩), LOp.val ⟨7, x, y, k, v, t⟩] w fun e w' => ∃ S', e = .returned (.bool true) ∧ LRep G w' bw s' s' S' ∧ Like S S' := by
  unfold LOp.val
  have h0 := h.ref
  have h1 : LRep G (w.alloc (.cells (LOp.cells ⟨7, x, y, k, v, t⟩).toArray 35)).drew bw s s S := h.quiet hG ((Chg.refl [] w).alloc _).drew
  have hbx : Blk (w.alloc (.cells (LOp.cells ⟨7, x, y, k, v, t⟩).toArray 35)).drew w.heap.size (LOp.cells ⟨7, x, y, k, v, t⟩) 35 := (Blk.new w _ _).drew
  have hbw : bw < w.heap.size := h.law.lt
  have c0 := h.law.cell_of (i := 0) rfl
  have hnF : ∀ b ∈ S.F, b < w.heap.size := h.flt
  have hpc : Hid (Calls Tryz.prog 41 #[.pointer (some ⟨S.bh, 0, none⟩), .int .i64 x] (w.alloc (.cells (LOp.cells ⟨7, x, y, k, v, t⟩).toArray 35)).drew fun e w' => ∃ F', e = .returned (.tuple #[.int .i64 a, .int .i64 er]) ∧ G w' S.bh s' F' ∧ (∀ b ∈ F', b < w'.heap.size) ∧ Stp S.F (w.alloc (.cells (LOp.cells ⟨7, x, y, k, v, t⟩).toArray 35)).drew F' w') := hp _ _ h1.prog
  have hall : Hid (∀ w', Chg S.F (w.alloc (.cells (LOp.cells ⟨7, x, y, k, v, t⟩).toArray 35)).drew w' → w'.cell? ⟨bw, 0, none⟩ = some (.pointer (some ⟨S.bh, 0, none⟩)) ∧ w'.cell? ⟨w.heap.size, 1, none⟩ = some (.int .i64 x)) := by
    intro w' hc
    exact ⟨(h1.law.chg hc (fun hm => h1.dj2 bw hm (own_bw _ _))).cell_of rfl, (hbx.chg hc (fun hm => by have := hnF _ hm; omega)).cell_of rfl⟩
  have H0 := hide h0; have H1 := hide h1; have HBX := hide hbx; have HR := hide hr; have HNF := hide hnF; clear h h0 h1 hbx hp hr hnF
  go_enter Tryz.func21, Tryz.ntmps21
  go_upto_region 13 with fail
  go_cut [5, 6] (fun a' b wx => a' = .int .i64 a ∧ b = .int .i64 er ∧ ∃ S', LRep G wx bw s' s S' ∧ Like S S' ∧ S'.bh = S.bh ∧ S'.br = S.br ∧ (∀ b ∈ S'.L.foot S'.br, b ≠ w.heap.size) ∧ Blk wx w.heap.size (LOp.cells ⟨7, x, y, k, v, t⟩) 35)
  case first =>
    go_region_held3 (fun w' => w'.cell? ⟨bw, 0, none⟩ = some (.pointer (some ⟨S.bh, 0, none⟩)) ∧ w'.cell? ⟨w.heap.size, 1, none⟩ = some (.int .i64 x)) (first | go_keep | (apply unhide hall; assumption)) ((go_at_call 41; refine (unhide hpc).mono ?_; rintro e w2 ⟨F2, rfl, hg2, hl2, st2⟩; have hc2 := st2.chg; have HG2 := hide hg2; have HL2 := hide hl2; have ST2 := hide st2; clear hg2 hl2 st2))
    go_wp2_with fail
    go_meet
    refine ⟨rfl, rfl, _, (unhide H1).progStep (unhide HG2) (unhide HL2) (unhide ST2), ⟨rfl, rfl, rfl, rfl, rfl⟩, rfl, rfl, fun b hb e => ?_, (unhide HBX).chg hc2 (fun hm => by have := unhide HNF _ hm; omega)⟩
    have := (unhide H0).lt b hb
    omega
  case rest =>
    obtain ⟨rfl, rfl, S2, h2, lk, e1, e2, hn2, hbx2⟩ := hcut
    have h3 : LRep G wc.drew bw s' s S2 := h2.quiet hG ((Chg.refl [] wc).drew)
    have c1 := h2.law.cell_of (i := 1) rfl
    have cxx := hbx2.cell_of (i := 1) rfl
    have hrc : Hid (Calls Tryz.prog 42 #[.pointer (some ⟨S.br, 0, none⟩), .int .i64 x] wc.drew fun e w' => ∃ L', e = .returned (.tuple #[.int .i64 a, .int .i64 er]) ∧ RRep w' S.br s' L' ∧ Stp (S2.L.foot S.br) wc.drew (L'.foot S.br) w') := by
      have := unhide HR wc.drew S2.L (by rw [← e2]; exact h3.ref)
      exact this
    have hall2 : Hid (∀ w', Chg (S2.L.foot S.br) wc.drew w' → w'.cell? ⟨bw, 1, none⟩ = some (.pointer (some ⟨S.br, 0, none⟩)) ∧ w'.cell? ⟨w.heap.size, 1, none⟩ = some (.int .i64 x)) := by
      intro w' hc
      have hcb := (h3.law.chg hc (fun hm => h2.dj3 bw (by rw [e2]; exact hm) (own_bw _ _))).cell_of (i := 1) rfl
      rw [e2] at hcb
      exact ⟨hcb, (hbx2.drew.chg hc (fun hm => hn2 _ (by rw [e2]; exact hm) rfl)).cell_of rfl⟩
    rw [e2] at c1
    have H3 := hide h3; have E2 := hide e2; have LK := hide lk; clear h2 h3 lk e1 e2 hn2 hbx2 H1 HBX hpc hall c0
    go_wp2_with fail
    go_region_held3 (fun w' => w'.cell? ⟨bw, 1, none⟩ = some (.pointer (some ⟨S.br, 0, none⟩)) ∧ w'.cell? ⟨w.heap.size, 1, none⟩ = some (.int .i64 x)) (first | go_keep | (apply unhide hall2; assumption)) ((go_at_call 42; refine (unhide hrc).mono ?_; rintro e w4 ⟨L4, rfl, hg4, st4⟩; have hc4 := st4.chg; have HG4 := hide hg4; have ST4 := hide st4; clear hg4 st4))
    go_wp2_with (go_at_call 18; refine (num_any _ _).mono ?_; rintro e w6 ⟨rfl, rfl⟩)
    go_ret
    exact ⟨{ S2 with L := L4 }, by simp, (unhide H3).refStep hG (by rw [unhide E2]; exact unhide HG4) (by rw [unhide E2]; exact unhide ST4), unhide LK⟩

set_option maxRecDepth 100000 in
set_option maxHeartbeats 2000000 in
theorem asks_text {G : World → Nat → R → List Nat → Prop} (hG : Stays G) {w : World} {bw : Nat} {s : R} {S : LS} (x y : Int) (k v : Int × Int) (t : ByteArray) (a : ByteArray) (er : Int) (s' : R) (h : LRep G w bw s s S)
    (hp : PCall G 43 S.bh [.int .i64 x] s (.string a) er s') (hr : RCall 44 S.br [.int .i64 x] s (.string a) er s') :
    Calls Tryz.prog 21 #[.pointer (some ⟨bw, 0, none⟩), LOp.val ⟨6, x, y, k, v, t⟩] w fun e w' => ∃ S', e = .returned (.bool true) ∧ LRep G w' bw s' s' S' ∧ Like S S' := by
  unfold LOp.val
  have h0 := h.ref
  have h1 : LRep G (w.alloc (.cells (LOp.cells ⟨6, x, y, k, v, t⟩).toArray 35)).drew bw s s S := h.quiet hG ((Chg.refl [] w).alloc _).drew
  have hbx : Blk (w.alloc (.cells (LOp.cells ⟨6, x, y, k, v, t⟩).toArray 35)).drew w.heap.size (LOp.cells ⟨6, x, y, k, v, t⟩) 35 := (Blk.new w _ _).drew
  have hbw : bw < w.heap.size := h.law.lt
  have c0 := h.law.cell_of (i := 0) rfl
  have hnF : ∀ b ∈ S.F, b < w.heap.size := h.flt
  have hpc : Hid (Calls Tryz.prog 43 #[.pointer (some ⟨S.bh, 0, none⟩), .int .i64 x] (w.alloc (.cells (LOp.cells ⟨6, x, y, k, v, t⟩).toArray 35)).drew fun e w' => ∃ F', e = .returned (.tuple #[.string a, .int .i64 er]) ∧ G w' S.bh s' F' ∧ (∀ b ∈ F', b < w'.heap.size) ∧ Stp S.F (w.alloc (.cells (LOp.cells ⟨6, x, y, k, v, t⟩).toArray 35)).drew F' w') := hp _ _ h1.prog
  have hall : Hid (∀ w', Chg S.F (w.alloc (.cells (LOp.cells ⟨6, x, y, k, v, t⟩).toArray 35)).drew w' → w'.cell? ⟨bw, 0, none⟩ = some (.pointer (some ⟨S.bh, 0, none⟩)) ∧ w'.cell? ⟨w.heap.size, 1, none⟩ = some (.int .i64 x)) := by
    intro w' hc
    exact ⟨(h1.law.chg hc (fun hm => h1.dj2 bw hm (own_bw _ _))).cell_of rfl, (hbx.chg hc (fun hm => by have := hnF _ hm; omega)).cell_of rfl⟩
  have H0 := hide h0; have H1 := hide h1; have HBX := hide hbx; have HR := hide hr; have HNF := hide hnF; clear h h0 h1 hbx hp hr hnF
  go_enter Tryz.func21, Tryz.ntmps21
  go_upto_region 16 with fail
  go_cut [9, 10] (fun a' b wx => a' = .string a ∧ b = .int .i64 er ∧ ∃ S', LRep G wx bw s' s S' ∧ Like S S' ∧ S'.bh = S.bh ∧ S'.br = S.br ∧ (∀ b ∈ S'.L.foot S'.br, b ≠ w.heap.size) ∧ Blk wx w.heap.size (LOp.cells ⟨6, x, y, k, v, t⟩) 35)
  case first =>
    go_region_held3 (fun w' => w'.cell? ⟨bw, 0, none⟩ = some (.pointer (some ⟨S.bh, 0, none⟩)) ∧ w'.cell? ⟨w.heap.size, 1, none⟩ = some (.int .i64 x)) (first | go_keep | (apply unhide hall; assumption)) ((go_at_call 43; refine (unhide hpc).mono ?_; rintro e w2 ⟨F2, rfl, hg2, hl2, st2⟩; have hc2 := st2.chg; have HG2 := hide hg2; have HL2 := hide hl2; have ST2 := hide st2; clear hg2 hl2 st2))
    go_wp2_with fail
    go_meet
    refine ⟨rfl, rfl, _, (unhide H1).progStep (unhide HG2) (unhide HL2) (unhide ST2), ⟨rfl, rfl, rfl, rfl, rfl⟩, rfl, rfl, fun b hb e => ?_, (unhide HBX).chg hc2 (fun hm => by have := unhide HNF _ hm; omega)⟩
    have := (unhide H0).lt b hb
    omega
  case rest =>
    obtain ⟨rfl, rfl, S2, h2, lk, e1, e2, hn2, hbx2⟩ := hcut
    have h3 : LRep G wc.drew bw s' s S2 := h2.quiet hG ((Chg.refl [] wc).drew)
    have c1 := h2.law.cell_of (i := 1) rfl
    have cxx := hbx2.cell_of (i := 1) rfl
    have hrc : Hid (Calls Tryz.prog 44 #[.pointer (some ⟨S.br, 0, none⟩), .int .i64 x] wc.drew fun e w' => ∃ L', e = .returned (.tuple #[.string a, .int .i64 er]) ∧ RRep w' S.br s' L' ∧ Stp (S2.L.foot S.br) wc.drew (L'.foot S.br) w') := by
      have := unhide HR wc.drew S2.L (by rw [← e2]; exact h3.ref)
      exact this
    have hall2 : Hid (∀ w', Chg (S2.L.foot S.br) wc.drew w' → w'.cell? ⟨bw, 1, none⟩ = some (.pointer (some ⟨S.br, 0, none⟩)) ∧ w'.cell? ⟨w.heap.size, 1, none⟩ = some (.int .i64 x)) := by
      intro w' hc
      have hcb := (h3.law.chg hc (fun hm => h2.dj3 bw (by rw [e2]; exact hm) (own_bw _ _))).cell_of (i := 1) rfl
      rw [e2] at hcb
      exact ⟨hcb, (hbx2.drew.chg hc (fun hm => hn2 _ (by rw [e2]; exact hm) rfl)).cell_of rfl⟩
    rw [e2] at c1
    have H3 := hide h3; have E2 := hide e2; have LK := hide lk; clear h2 h3 lk e1 e2 hn2 hbx2 H1 HBX hpc hall c0
    go_wp2_with fail
    go_region_held3 (fun w' => w'.cell? ⟨bw, 1, none⟩ = some (.pointer (some ⟨S.br, 0, none⟩)) ∧ w'.cell? ⟨w.heap.size, 1, none⟩ = some (.int .i64 x)) (first | go_keep | (apply unhide hall2; assumption)) ((go_at_call 44; refine (unhide hrc).mono ?_; rintro e w4 ⟨L4, rfl, hg4, st4⟩; have hc4 := st4.chg; have HG4 := hide hg4; have ST4 := hide st4; clear hg4 st4))
    go_wp2_with (go_at_call 18; refine (num_any _ _).mono ?_; rintro e w6 ⟨rfl, rfl⟩)
    go_ret
    exact ⟨{ S2 with L := L4 }, by simp, (unhide H3).refStep hG (by rw [unhide E2]; exact unhide HG4) (by rw [unhide E2]; exact unhide ST4), unhide LK⟩

set_option maxRecDepth 100000 in
set_option maxHeartbeats 2000000 in
theorem asks_same {G : World → Nat → R → List Nat → Prop} (hG : Stays G) {w : World} {bw : Nat} {s : R} {S : LS} (x y : Int) (k v : Int × Int) (t : ByteArray) (a : Bool) (er : Int) (s' : R) (h : LRep G w bw s s S)
    (hp : PCall G 45 S.bh [.int .i64 x, .int .i64 y] s (.bool a) er s') (hr : RCall 46 S.br [.int .i64 x, .int .i64 y] s (.bool a) er s') :
    Calls Tryz.prog 21 #[.pointer (some ⟨bw, 0, none⟩), LOp.val ⟨11, x, y, k, v, t⟩] w fun e w' => ∃ S', e = .returned (.bool true) ∧ LRep G w' bw s' s' S' ∧ Like S S' := by
  unfold LOp.val
  have h0 := h.ref
  have h1 : LRep G (w.alloc (.cells (LOp.cells ⟨11, x, y, k, v, t⟩).toArray 35)).drew bw s s S := h.quiet hG ((Chg.refl [] w).alloc _).drew
  have hbx : Blk (w.alloc (.cells (LOp.cells ⟨11, x, y, k, v, t⟩).toArray 35)).drew w.heap.size (LOp.cells ⟨11, x, y, k, v, t⟩) 35 := (Blk.new w _ _).drew
  have hbw : bw < w.heap.size := h.law.lt
  have c0 := h.law.cell_of (i := 0) rfl
  have hnF : ∀ b ∈ S.F, b < w.heap.size := h.flt
  have hpc : Hid (Calls Tryz.prog 45 #[.pointer (some ⟨S.bh, 0, none⟩), .int .i64 x, .int .i64 y] (w.alloc (.cells (LOp.cells ⟨11, x, y, k, v, t⟩).toArray 35)).drew fun e w' => ∃ F', e = .returned (.tuple #[.bool a, .int .i64 er]) ∧ G w' S.bh s' F' ∧ (∀ b ∈ F', b < w'.heap.size) ∧ Stp S.F (w.alloc (.cells (LOp.cells ⟨11, x, y, k, v, t⟩).toArray 35)).drew F' w') := hp _ _ h1.prog
  have hall : Hid (∀ w', Chg S.F (w.alloc (.cells (LOp.cells ⟨11, x, y, k, v, t⟩).toArray 35)).drew w' → w'.cell? ⟨bw, 0, none⟩ = some (.pointer (some ⟨S.bh, 0, none⟩)) ∧ w'.cell? ⟨w.heap.size, 1, none⟩ = some (.int .i64 x) ∧ w'.cell? ⟨w.heap.size, 2, none⟩ = some (.int .i64 y)) := by
    intro w' hc
    exact ⟨(h1.law.chg hc (fun hm => h1.dj2 bw hm (own_bw _ _))).cell_of rfl, (hbx.chg hc (fun hm => by have := hnF _ hm; omega)).cell_of rfl, (hbx.chg hc (fun hm => by have := hnF _ hm; omega)).cell_of rfl⟩
  have H0 := hide h0; have H1 := hide h1; have HBX := hide hbx; have HR := hide hr; have HNF := hide hnF; clear h h0 h1 hbx hp hr hnF
  go_enter Tryz.func21, Tryz.ntmps21
  go_upto_region 20 with fail
  go_cut [13, 14] (fun a' b wx => a' = .bool a ∧ b = .int .i64 er ∧ ∃ S', LRep G wx bw s' s S' ∧ Like S S' ∧ S'.bh = S.bh ∧ S'.br = S.br ∧ (∀ b ∈ S'.L.foot S'.br, b ≠ w.heap.size) ∧ Blk wx w.heap.size (LOp.cells ⟨11, x, y, k, v, t⟩) 35)
  case first =>
    go_region_held3 (fun w' => w'.cell? ⟨bw, 0, none⟩ = some (.pointer (some ⟨S.bh, 0, none⟩)) ∧ w'.cell? ⟨w.heap.size, 1, none⟩ = some (.int .i64 x) ∧ w'.cell? ⟨w.heap.size, 2, none⟩ = some (.int .i64 y)) (first | go_keep | (apply unhide hall; assumption)) ((go_at_call 45; refine (unhide hpc).mono ?_; rintro e w2 ⟨F2, rfl, hg2, hl2, st2⟩; have hc2 := st2.chg; have HG2 := hide hg2; have HL2 := hide hl2; have ST2 := hide st2; clear hg2 hl2 st2))
    go_wp2_with fail
    go_meet
    refine ⟨rfl, rfl, _, (unhide H1).progStep (unhide HG2) (unhide HL2) (unhide ST2), ⟨rfl, rfl, rfl, rfl, rfl⟩, rfl, rfl, fun b hb e => ?_, (unhide HBX).chg hc2 (fun hm => by have := unhide HNF _ hm; omega)⟩
    have := (unhide H0).lt b hb
    omega
  case rest =>
    obtain ⟨rfl, rfl, S2, h2, lk, e1, e2, hn2, hbx2⟩ := hcut
    have h3 : LRep G wc.drew bw s' s S2 := h2.quiet hG ((Chg.refl [] wc).drew)
    have c1 := h2.law.cell_of (i := 1) rfl
    have cxx := hbx2.cell_of (i := 1) rfl
    have cxy := hbx2.cell_of (i := 2) rfl
    have hrc : Hid (Calls Tryz.prog 46 #[.pointer (some ⟨S.br, 0, none⟩), .int .i64 x, .int .i64 y] wc.drew fun e w' => ∃ L', e = .returned (.tuple #[.bool a, .int .i64 er]) ∧ RRep w' S.br s' L' ∧ Stp (S2.L.foot S.br) wc.drew (L'.foot S.br) w') := by
      have := unhide HR wc.drew S2.L (by rw [← e2]; exact h3.ref)
      exact this
    have hall2 : Hid (∀ w', Chg (S2.L.foot S.br) wc.drew w' → w'.cell? ⟨bw, 1, none⟩ = some (.pointer (some ⟨S.br, 0, none⟩)) ∧ w'.cell? ⟨w.heap.size, 1, none⟩ = some (.int .i64 x) ∧ w'.cell? ⟨w.heap.size, 2, none⟩ = some (.int .i64 y)) := by
      intro w' hc
      have hcb := (h3.law.chg hc (fun hm => h2.dj3 bw (by rw [e2]; exact hm) (own_bw _ _))).cell_of (i := 1) rfl
      rw [e2] at hcb
      exact ⟨hcb, (hbx2.drew.chg hc (fun hm => hn2 _ (by rw [e2]; exact hm) rfl)).cell_of rfl, (hbx2.drew.chg hc (fun hm => hn2 _ (by rw [e2]; exact hm) rfl)).cell_of rfl⟩
    rw [e2] at c1
    have H3 := hide h3; have E2 := hide e2; have LK := hide lk; clear h2 h3 lk e1 e2 hn2 hbx2 H1 HBX hpc hall c0
    go_wp2_with fail
    go_region_held3 (fun w' => w'.cell? ⟨bw, 1, none⟩ = some (.pointer (some ⟨S.br, 0, none⟩)) ∧ w'.cell? ⟨w.heap.size, 1, none⟩ = some (.int .i64 x) ∧ w'.cell? ⟨w.heap.size, 2, none⟩ = some (.int .i64 y)) (first | go_keep | (apply unhide hall2; assumption)) ((go_at_call 46; refine (unhide hrc).mono ?_; rintro e w4 ⟨L4, rfl, hg4, st4⟩; have hc4 := st4.chg; have HG4 := hide hg4; have ST4 := hide st4; clear hg4 st4))
    go_wp2_with (go_at_call 18; refine (num_any _ _).mono ?_; rintro e w6 ⟨rfl, rfl⟩)
    go_ret
    exact ⟨{ S2 with L := L4 }, by simp, (unhide H3).refStep hG (by rw [unhide E2]; exact unhide HG4) (by rw [unhide E2]; exact unhide ST4), unhide LK⟩

end Go.Proofs.YtfoncalkgmeklaaGreat

/- words, and the step that asks for Words. -/
namespace Go.Proofs.YtfoncalkgmeklaaGreat
open Go.RowKit

def R.wordsQ (s : R) : List Int := if s.dead then [] else s.words
def R.wordsE (s : R) : Int := if s.dead then 2 else 0
/-- The program's Words. -/
def PWords (G : World → Nat → R → List Nat → Prop) (bh : Nat) (s : R) : Prop :=
  ∀ w F, G w bh s F → Calls Tryz.prog 72 #[.pointer (some ⟨bh, 0, none⟩)] w fun e w' => ∃ a n c, e = .returned (.tuple #[.slice a n c, .int .i64 s.wordsE]) ∧ Out w w' a n c s.wordsQ

set_option maxHeartbeats 400000 in
theorem refWords_dead {br : Nat} {s : R} {L : RL} {w : World} (h : RRep w br s L) (hd : s.dead = true) :
    Calls Tryz.prog 73 #[.pointer (some ⟨br, 0, none⟩)] w fun e w' => e = .returned (.tuple #[.slice none 0 0, .int .i64 2]) ∧ w' = w := by
  have c3 := h.ref.cell_of (i := 3) rfl
  rw [hd] at c3
  clear h hd
  go_enter Tryz.func73, Tryz.ntmps73
  go_wp2
  go_ret2
  exact ⟨rfl, rfl⟩
theorem refWords_all {br : Nat} {s : R} {L : RL} {w : World} (h : RRep w br s L) (hi : RInv s) (hbd : RBd s) (htx : (∀ o ∈ s.objs, o.text.size ≤ 64) ∧ s.row.length ≤ 512) :
    Calls Tryz.prog 73 #[.pointer (some ⟨br, 0, none⟩)] w fun e w' => ∃ a n c, e = .returned (.tuple #[.slice a n c, .int .i64 s.wordsE]) ∧ Out w w' a n c s.wordsQ := by
  cases hd : s.dead with
  | true =>
    refine (refWords_dead h hd).mono ?_
    rintro e w' ⟨rfl, rfl⟩
    exact ⟨none, 0, 0, by simp [R.wordsE, hd], by simp only [R.wordsQ, hd, if_true]; exact ⟨World.ownsRow_nil _ _ _ _, by simp [ab], Chg.refl _ _⟩⟩
  | false =>
    refine (refWords_any h hi hbd htx hd).mono ?_
    rintro e w' ⟨a, n, c, rfl, ho⟩
    exact ⟨a, n, c, by simp [R.wordsE, hd], by simpa [R.wordsQ, hd] using ho⟩

set_option maxRecDepth 100000 in
set_option maxHeartbeats 1000000 in
theorem lawWords_any {G : World → Nat → R → List Nat → Prop} (hG : Stays G) {w : World} {bw : Nat} {s : R} {S : LS} (h : LRep G w bw s s S) (hp : PWords G S.bh s) (hi : RInv s) (hbd : RBd s) (htx : (∀ o ∈ s.objs, o.text.size ≤ 64) ∧ s.row.length ≤ 512) (hwl : s.wordsQ.length ≤ 100000) :
    Calls Tryz.prog 24 #[.pointer (some ⟨bw, 0, none⟩)] w fun e w' => ∃ a n c, e = .returned (.tuple #[.slice a n c, .bool true]) ∧ Out w w' a n c s.wordsQ ∧ LRep G w' bw s s S := by
  have c0 := h.law.cell_of (i := 0) rfl
  have hpc := hp w S.F h.prog
  have H := hide h; have HP := hide hpc; have HI := hide hi; have HBD := hide hbd; have HTX := hide htx; have HWL := hide hwl; clear h hp hpc hi hbd htx hwl
  go_enter Tryz.func24, Tryz.ntmps24
  go_wp2_with fail
  refine (unhide HP).mono ?_
  rintro e w1 ⟨a1, n1, c1, rfl, ho1⟩
  have h1 := (unhide H).quiet hG ho1.chg
  have d1 := h1.law.cell_of (i := 1) rfl
  have H1 := hide h1; have HO1 := hide ho1; clear h1 ho1 c0
  go_wp2_with fail
  refine (refWords_all (unhide H1).ref (unhide HI) (unhide HBD) (unhide HTX)).mono ?_
  rintro e w2 ⟨a2, n2, c2, rfl, ho2⟩
  have hx : Ints w2 a1 n1 s.wordsQ := (Ints.of_own (unhide HO1).own).chg ho2.chg (by simp)
  have hy : Ints w2 a2 n2 s.wordsQ := Ints.of_own ho2.own
  have hn1 : n1 ≤ 100000 := by have := (unhide HO1).len; have := unhide HWL; omega
  have HX := hide hx; have HY := hide hy; have HO2 := hide ho2; clear hx hy ho2 d1
  go_wp2_with fail
  refine (sameInts_any a1 a2 n1 n2 c1 c2 s.wordsQ s.wordsQ w2 (by omega) (unhide HX) (unhide HY)).mono ?_
  rintro e w3 ⟨rfl, q3, hw3⟩
  have h3 : Out w w3 a1 n1 c1 s.wordsQ := by
    rw [hw3]
    exact (⟨owns_chg (unhide HO1).own (unhide HO2).chg (by simp), (unhide HO1).newer, (unhide HO1).chg.trans (unhide HO2).chg⟩ : Out w w2 a1 n1 c1 s.wordsQ).drewN q3
  have hl3 := (unhide H).quiet hG h3.chg
  have H3 := hide h3; have HL3 := hide hl3; clear h3 hl3 hw3
  rw [show (s.wordsQ == s.wordsQ) = true from by simp]
  go_wp2_with (go_at_call 18; refine (num_any _ _).mono ?_; rintro e w6 ⟨rfl, rfl⟩)
  go_ret2
  exact ⟨a1, n1, c1, by simp, unhide H3, unhide HL3⟩

set_option maxRecDepth 100000 in
set_option maxHeartbeats 1000000 in
theorem asks_words {G : World → Nat → R → List Nat → Prop} (hG : Stays G) {w : World} {bw : Nat} {s : R} {S : LS} (x y : Int) (k v : Int × Int) (t : ByteArray) (h : LRep G w bw s s S) (hp : PWords G S.bh s) (hi : RInv s) (hbd : RBd s) (htx : (∀ o ∈ s.objs, o.text.size ≤ 64) ∧ s.row.length ≤ 512) (hwl : s.wordsQ.length ≤ 100000)
    (hm : -10000000000000 ≤ S.mark ∧ S.mark ≤ 0) (hel : S.ents.length ≤ 8000000000000) :
    Calls Tryz.prog 21 #[.pointer (some ⟨bw, 0, none⟩), LOp.val ⟨8, x, y, k, v, t⟩] w fun e w' => ∃ S', e = .returned (.bool true) ∧ LRep G w' bw s s S' ∧ S'.mark = S.mark - 1 ∧ S'.ents.length = S.ents.length + 4 ∧ S'.bh = S.bh ∧ S'.br = S.br ∧ S'.fl = S.fl := by
  unfold LOp.val
  have h1 : LRep G (w.alloc (.cells (LOp.cells ⟨8, x, y, k, v, t⟩).toArray 35)) bw s s S := h.quiet hG ((Chg.refl [] w).alloc _)
  have H1 := hide h1; have HP := hide hp; have HI := hide hi; have HBD := hide hbd; have HTX := hide htx; have HWL := hide hwl; have HM := hide hm; clear h h1 hp hi hbd htx hwl hm
  go_enter Tryz.func21, Tryz.ntmps21
  go_wp2_with fail
  refine (lawWords_any hG (unhide H1) (unhide HP) (unhide HI) (unhide HBD) (unhide HTX) (unhide HWL)).mono ?_
  rintro e w2 ⟨a, n, c, rfl, ho, h2⟩
  have hn : n ≤ 100000 := by have := ho.len; have := unhide HWL; omega
  have hkeep := keep_any hG h2 ho.own hn (fun b hb hm => by have := ho.newer b hb; have := (unhide H1).flt b hm; omega) (fun b hb hm => by have := ho.newer b hb; have := (unhide H1).ref.lt b hm; omega) (fun b hb hm => by have := ho.newer b hb; have := (unhide H1).own_lt b hm; omega) (unhide HM) hel
  have HK := hide hkeep; clear hkeep ho h2
  go_wp2_with fail
  refine (unhide HK).mono ?_
  rintro e w3 ⟨S3, rfl, h3⟩
  have H3 := hide h3; clear h3
  go_wp2
  go_ret
  exact ⟨S3, rfl, unhide H3⟩
end Go.Proofs.YtfoncalkgmeklaaGreat

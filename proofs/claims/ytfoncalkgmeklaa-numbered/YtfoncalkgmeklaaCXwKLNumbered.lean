/- gripkeep.Numbered, of a program that keeps the document. -/
import Derived.Test.YtfoncalkgmeklaaXwM50
import Derived.Test.YtfoncalkgmeklaaXwM42
namespace Go.Proofs.Ytfoncalkgmeklaa
open Go.RowKit

theorem bookZero : (#[.slice none 0 0, .slice none 0 0, .slice none 0 0, .int .i64 0, .int .i64 0, .int .i64 0, .int .i64 0, .int .i64 0, .int .i64 0, .int .i64 0, .int .i64 0, .int .i64 0, .int .i64 0, .int .i64 0, .int .i64 0, .int .i64 0, .int .i64 0, .int .i64 0, .int .i64 0, .int .i64 0, .int .i64 0, .int .i64 0, .int .i64 0, .int .i64 0, .int .i64 0, .int .i64 0, .int .i64 0, .int .i64 0, .int .i64 0, .int .i64 0, .int .i64 0, .int .i64 0, .int .i64 0, .int .i64 0, .int .i64 0, .int .i64 0] : Array Value) = (([.slice none 0 0, .slice none 0 0, .slice none 0 0] : List Value) ++ (ints (List.replicate 32 0) ++ [Value.int .i64 0])).toArray := by kernel_rfl
theorem pastOf_nil : pastOf [] = List.replicate 32 0 := by decide
/-- An empty book. -/
theorem book_new {w0 w : World} {F : List Nat} (hF : ∀ b ∈ F, b < w.heap.size) (hw : w0.heap.size ≤ w.heap.size) : BK w0 (w.alloc (.cells #[.slice none 0 0, .slice none 0 0, .slice none 0 0, .int .i64 0, .int .i64 0, .int .i64 0, .int .i64 0, .int .i64 0, .int .i64 0, .int .i64 0, .int .i64 0, .int .i64 0, .int .i64 0, .int .i64 0, .int .i64 0, .int .i64 0, .int .i64 0, .int .i64 0, .int .i64 0, .int .i64 0, .int .i64 0, .int .i64 0, .int .i64 0, .int .i64 0, .int .i64 0, .int .i64 0, .int .i64 0, .int .i64 0, .int .i64 0, .int .i64 0, .int .i64 0, .int .i64 0, .int .i64 0, .int .i64 0, .int .i64 0, .int .i64 0] 47)) w.heap.size [] 0 none none none 0 0 0 F := by
  have hb := Blk.new w (([.slice none 0 0, .slice none 0 0, .slice none 0 0] : List Value) ++ (ints (List.replicate 32 0) ++ [Value.int .i64 0])) 47
  rw [← bookZero] at hb
  refine ⟨?_, World.ownsRow_nil _ _ _ _, World.ownsRow_nil _ _ _ _, World.ownsRow_nil _ _ _ _, by simp [pastOf], by simp [ab], fun x hx => ?_⟩
  · rw [pastOf_nil]; exact hb
  · simp [ab] at hx
    subst hx
    exact ⟨fun hm => by have := hF _ hm; omega, hw⟩
set_option maxRecDepth 100000 in
set_option maxHeartbeats 8000000 in
theorem walk_numbered {w : World} {G : World → Nat → R → List Nat → Prop} {J : R → Prop} (hP : KP G J) (l : Int) (_ : I64 l) (a : Option Addr) (n c : Nat) (fs : List Bool) (_ : n ≤ c) (hl : fs.length = n) (hf : FlagsAt w a fs) (_ : n ≤ 140737488351232)
    (sa : Option Addr) (sn sc : Nat) (ops : List LOp) (hsn : ops.length = sn) (hok : ∀ o ∈ ops, o.Ok) (hop : OpsAt w sa ops) (hsb : sn ≤ 1954687338211) (x : Int) (hx : I64 x) :
    Calls Try.prog 5 #[.int .i64 l, .slice a n c, .slice sa sn sc, .int .i64 x] w fun e w' => e = .returned (.bool true) ∧ Chg [] w w' := by
  have HL := hide hl; have HF := hide hf; have HSN := hide hsn; have HOK := hide hok; have HOP := hide hop; have HX := hide hx
  clear hl hf hsn hok hop hx
  by_cases hb : l < 1 ∨ 512 < l ∨ 64 < n
  · have HB := hide hb; clear hb
    go_enter Try.func5, Try.ntmps5
    go_wp2_with fail
    refine (kbegin_bad hP l a n c w (unhide HB)).mono ?_
    rintro e w1 ⟨rfl, hc⟩
    have HC := hide hc; clear hc
    go_wp2
    go_ret
    exact ⟨rfl, unhide HC⟩
  · have h1 : 1 ≤ l := by omega
    have h2 : l ≤ 512 := by omega
    have h3 : n ≤ 64 := by omega
    clear hb
    go_enter Try.func5, Try.ntmps5
    go_wp2_with fail
    refine (kbegin_ok hP l a n c fs w h1 h2 h3 (unhide HL) (unhide HF)).mono ?_
    rintro e w1 ⟨bh, F1, rfl, k1, n1⟩
    have kb : Chg [] w1 (w1.alloc (.cells #[.slice none 0 0, .slice none 0 0, .slice none 0 0, .int .i64 0, .int .i64 0, .int .i64 0, .int .i64 0, .int .i64 0, .int .i64 0, .int .i64 0, .int .i64 0, .int .i64 0, .int .i64 0, .int .i64 0, .int .i64 0, .int .i64 0, .int .i64 0, .int .i64 0, .int .i64 0, .int .i64 0, .int .i64 0, .int .i64 0, .int .i64 0, .int .i64 0, .int .i64 0, .int .i64 0, .int .i64 0, .int .i64 0, .int .i64 0, .int .i64 0, .int .i64 0, .int .i64 0, .int .i64 0, .int .i64 0, .int .i64 0, .int .i64 0] 47)) := (Chg.refl [] w1).alloc _
    have bk := book_new (w0 := w) k1.lt n1.1.size
    have k2 := k1.chg hP kb (by simp)
    have n2 := n1.chg kb
    have K2 := hide k2; have N2 := hide n2; have BK2 := hide bk; clear k1 n1 kb bk k2 n2
    go_wp2_with fail
    generalize w1.alloc (.cells #[.slice none 0 0, .slice none 0 0, .slice none 0 0, .int .i64 0, .int .i64 0, .int .i64 0, .int .i64 0, .int .i64 0, .int .i64 0, .int .i64 0, .int .i64 0, .int .i64 0, .int .i64 0, .int .i64 0, .int .i64 0, .int .i64 0, .int .i64 0, .int .i64 0, .int .i64 0, .int .i64 0, .int .i64 0, .int .i64 0, .int .i64 0, .int .i64 0, .int .i64 0, .int .i64 0, .int .i64 0, .int .i64 0, .int .i64 0, .int .i64 0, .int .i64 0, .int .i64 0, .int .i64 0, .int .i64 0, .int .i64 0, .int .i64 0] 47) = w2 at *
    generalize w1.heap.size = bb at *
    go_loopw [12, 13, 14] (fun i _ _ wr => ∃ (k : Nat) (s : R) (F : List Nat) (na sa' la : Option Addr) (nc sc' lc : Nat), i = .int .i64 k ∧ k ≤ sn ∧ KS G J wr bh s F k ∧ Newer w wr F ∧ s.dead = false ∧ BK w wr bb s.handles s.scopes na sa' la nc sc' lc F) (fun i _ _ _ => sn - (intOf i).toNat)
    case atStart => exact ⟨0, R.init l fs, F1, none, none, none, 0, 0, 0, rfl, Nat.zero_le _, unhide K2, unhide N2, rfl, unhide BK2⟩
    case round =>
      obtain ⟨k, s, F, na, sa', la, nc, sc', lc, rfl, hk, hks, hnw, hd, hbk⟩ := hrel
      clear K2 N2 BK2
      by_cases hlt : k < sn
      · obtain ⟨o, ho⟩ : ∃ o, ops[k]? = some o := ⟨_, List.getElem?_eq_getElem (by rw [unhide HSN]; exact hlt)⟩
        have hoo := unhide HOK o (List.mem_of_getElem? ho)
        obtain ⟨sb, soff, hsa, hsbw, hcel⟩ := unhide HOP (by rw [unhide HSN]; omega)
        subst hsa
        have hc8 : ∀ (w' : World), Chg [] w w' → ∀ i v, o.cells[i]? = some v → w'.cell? ⟨sb, soff + k * 8 + i, none⟩ = some v := fun w' h i v hv => by rw [h.cell hsbw (by simp)]; exact hcel k o ho i v hv
        have zk : (k : Int) < (sn : Int) := by omega
        have s0 := hc8 wr hnw.1 0 _ rfl
        have s1 := hc8 wr hnw.1 1 _ rfl
        have s2 := hc8 wr hnw.1 2 _ rfl
        have s3 := hc8 wr hnw.1 3 _ rfl
        have s4 := hc8 wr hnw.1 4 _ rfl
        have s5 := hc8 wr hnw.1 5 _ rfl
        have s6 := hc8 wr hnw.1 6 _ rfl
        have s7 := hc8 wr hnw.1 7 _ rfl
        rw [Nat.add_zero] at s0
        have hstep := bstep_any hP hks (by omega) hd hnw hbk o hoo
        generalize s.askQ o = an at *
        generalize s.stepQ o = s' at *
        unfold Ans.val LOp.val at hstep
        have HSTEP := hide hstep; clear hstep hks hnw hd hbk hc8 hcel hsbw ho hoo
        go_wp2_with fail
        refine (unhide HSTEP).mono ?_
        rintro e w4 ⟨rfl, F4, na4, sa4, la4, nc4, sc4, lc4, k4, n4, b4⟩
        have kb : Chg [] w4 (w4.alloc (.cells #[.int .i64 an.e, .int .i64 an.n, .bool an.b, .string an.s, .int .i64 an.v.1, .int .i64 an.v.2] 32)) := (Chg.refl [] w4).alloc _
        have hb5 : Blk (w4.alloc (.cells #[.int .i64 an.e, .int .i64 an.n, .bool an.b, .string an.s, .int .i64 an.v.1, .int .i64 an.v.2] 32)) w4.heap.size an.cells 32 := Blk.new w4 an.cells 32
        have a0 := hb5.cell_of (i := 0) (v := .int .i64 an.e) rfl
        have k5 := k4.chg hP kb (by simp)
        have n5 := n4.chg kb
        have b5 : an.e ≠ 12 → s'.dead = false ∧ BK w (w4.alloc (.cells #[.int .i64 an.e, .int .i64 an.n, .bool an.b, .string an.s, .int .i64 an.v.1, .int .i64 an.v.2] 32)) bb s'.handles s'.scopes na4 sa4 la4 nc4 sc4 lc4 F4 := fun he => ⟨(b4 he).1, (b4 he).2.quiet kb⟩
        have K5 := hide k5; have N5 := hide n5; have B5 := hide b5; clear k5 n5 b5 k4 n4 b4 kb hb5 s0 s1 s2 s3 s4 s5 s6 s7
        by_cases he : an.e = 12
        · have be : (an.e == 12) = true := by simp [he]
          clear he
          go_wp2
          go_ret
          exact ⟨rfl, (unhide N5).1⟩
        · have be : (an.e == 12) = false := by simp [he]
          obtain ⟨hd5, hbk5⟩ := unhide B5 he
          have HD5 := hide hd5; have HBK5 := hide hbk5; clear hd5 hbk5 B5
          go_wp2
          go_roundw
          case rel => exact ⟨k + 1, s', F4, na4, sa4, la4, nc4, sc4, lc4, by go_num, by omega, unhide K5, unhide N5, unhide HD5, unhide HBK5⟩
          case measure => simp [intOf]; omega
      · have hke : k = sn := by omega
        subst hke
        have hst := stale_any hP hks (by omega) hd hnw hbk x (unhide HX)
        have HST := hide hst; clear hst hks hnw hd hbk
        go_wp2_with fail
        refine (unhide HST).mono ?_
        rintro e w4 ⟨rfl, hc⟩
        have HC := hide hc; clear hc
        go_wp2
        go_ret
        exact ⟨rfl, unhide HC⟩
end Go.Proofs.Ytfoncalkgmeklaa

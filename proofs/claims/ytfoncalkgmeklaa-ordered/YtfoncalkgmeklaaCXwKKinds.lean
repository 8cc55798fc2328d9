/- gripkeep.kinds, beside the book; and a list that stays beside the heap. -/
import Derived.Test.YtfoncalkgmeklaaCXwKKeep
namespace Go.Proofs.Ytfoncalkgmeklaa
open Go.RowKit

theorem Stp.own {F F' S : List Nat} {w w1 w2 : World} (h : Stp F w F' w1) (k : Chg S w1 w2) (hS : ∀ x ∈ S, w.heap.size ≤ x) : Stp F w F' w2 := ⟨h.chg.trans_new k (fun x hx => .inr (hS x hx)), h.foot⟩
set_option maxRecDepth 100000 in
set_option maxHeartbeats 8000000 in
theorem kinds_any {G : World → Nat → R → List Nat → Prop} {J : R → Prop} (hP : KP G J) {w0 w : World} {bh bb m : Nat} {s : R} {F : List Nat} {op : Int} {na sa la : Option Addr} {nc sc lc : Nat} (hk : KS G J w bh s F m) (hm : m ≤ 4398046511104) (hbk : BK w0 w bb s.handles op na sa la nc sc lc F) :
    Calls Try.prog 17 #[.pointer (some ⟨bh, 0, none⟩), .slice na s.handles.length nc] w fun e w' => ∃ F' a c, e = .returned (.slice a s.handles.length c) ∧ KS G J w' bh s F' m ∧ Stp F w F' w' ∧ Lst w w' a s.handles.length c (s.handles.map fun g => kq s g.num) F' := by
  obtain ⟨i0, hi0, hz0, hz1, hz2⟩ := info_parts info3
  have hln : (s.handles.map RHan.num).length = s.handles.length := by simp
  have hhl : s.handles.length ≤ 8796093022207 := by have := hk.up.handles; omega
  have hall := hk.all
  have hnum : ∀ g ∈ s.handles, I64 g.num := fun g hg => by
    have := hall.ok.inv.nums g hg
    exact ⟨by omega, by omega⟩
  have HK := hide hk; have HBK := hide hbk; have HNUM := hide hnum; clear hk hbk hall hnum
  go_enter Try.func17, Try.ntmps17
  go_wp2_with fail
  go_loopw [5, 6, 7, 8] (fun v5 i _ _ wr => ∃ (k : Nat) (F' : List Nat) (a : Option Addr) (c : Nat), k ≤ s.handles.length ∧ i = .int .i64 k ∧ v5 = .slice a k c ∧ KS G J wr bh s F' m ∧ Stp F w F' wr ∧ Lst w wr a k c ((s.handles.take k).map fun g => kq s g.num) F') (fun _ i _ _ _ => s.handles.length - (intOf i).toNat)
  case atStart => exact ⟨0, F, none, 0, Nat.zero_le _, rfl, rfl, unhide HK, Stp.refl _ _, Lst.nil _ _ _⟩
  case round =>
    obtain ⟨k, F', a, c, hkl, rfl, rfl, hks, hst, hls⟩ := hrel
    clear HK
    by_cases hlt : k < s.handles.length
    · obtain ⟨g, hg⟩ : ∃ g, s.handles[k]? = some g := ⟨_, List.getElem?_eq_getElem hlt⟩
      have hb := (unhide HBK).stp hst
      obtain ⟨gn, hgn, q1⟩ := hb.numAt (i := k) (by rw [hln]; exact hlt)
      rw [show (s.handles.map RHan.num).getD k 0 = g.num from by simp [List.getD, hg]] at q1
      have hcall := hks.kind hP (by omega) g.num (unhide HNUM g (List.mem_of_getElem? hg)) (a := (s.kindQ g.num).1) (er := (s.kindQ g.num).2) rfl
      have hkq : kq s g.num = if (s.kindQ g.num).2 = 0 then (s.kindQ g.num).1 else -1 := rfl
      have htk : (s.handles.take (k + 1)).map (fun g => kq s g.num) = (s.handles.take k).map (fun g => kq s g.num) ++ [kq s g.num] := by
        obtain ⟨h1, rfl⟩ := List.getElem?_eq_some_iff.1 hg
        rw [List.take_succ_eq_append_getElem h1, List.map_append]
        rfl
      have zk : (k : Int) < (s.handles.length : Int) := by omega
      have hws := hst.chg.size
      subst hgn
      have HKQ := hide hkq; have HTK := hide htk; clear hkq htk
      generalize kq s g.num = kk at *
      generalize (s.kindQ g.num).1 = ka at *
      generalize (s.kindQ g.num).2 = ke at *
      generalize g.num = gnum at *
      generalize hal : (s.handles.take k).map (fun g => kq s g.num) = all at *
      have HCALL := hide hcall; have HST := hide hst; have HLS := hide hls; clear hcall hst hls hb hks hg hal
      go_wp2_with fail
      refine (unhide HCALL).mono ?_
      rintro e w4 ⟨F4, rfl, k4, st4⟩
      have l4 := (unhide HLS).stp st4
      have s4 := (unhide HST).trans st4
      have hw4 : w.heap.size ≤ w4.heap.size := s4.chg.size
      have K4 := hide k4; have L4 := hide l4; have S4 := hide s4; clear k4 l4 s4 st4 q1 HLS HST
      by_cases h0 : ke = 0
      · have hz : (ke != 0) = false := by simp [h0]
        have hkk : kk = ka := by rw [unhide HKQ, if_pos h0]
        subst hkk
        clear h0
        go_wp2_with (at_builtin; go_must (refine wpList_append_gen _ rfl (.tmp 26) (.tmp 28) 27 rfl 3 i0 (.int .i64 0) 1 8 Try.underlying27 hi0 hz0 hz1 hz2 rfl (by decide) (.slice a k c) k (ints all) rfl ?c0 (some ⟨w4.heap.size, 0, none⟩) 1 1 (ints [kk]) rfl rfl ?c1 (ints_one _) ?c2 ?c3 ?_))
        case c0 => exact World.ownsRow.alloc (unhide L4).own _
        case c1 => first | exact fun _ => ⟨_, rfl, fun j u hj => by rw [addr_add, Nat.zero_add]; exact (Blk.new w4 (ints [kk]) 3).cell_of hj⟩ | exact fun j u hj => hj
        case c2 => unfold maxLen; omega
        case c3 => omega
        intro va cap w7 ho7 hg7 hat7
        obtain ⟨l7, kc7⟩ := (unhide L4).push (unhide K4).lt hw4 (.cells #[.int .i64 kk] 3) ho7 hg7 (Nat.le_succ _) hat7
        have s7 := (unhide S4).own kc7 (fun x hx => ((unhide L4).out x hx).2)
        have k7 := (unhide K4).chg hP kc7 (fun b hb hm => ((unhide L4).out b hm).1 hb)
        have K7 := hide k7; have L7 := hide l7; have S7 := hide s7; clear k7 l7 s7 ho7 hg7 hat7 kc7
        go_wp2
        go_roundw
        case rel => exact ⟨k + 1, F4, va, cap, by omega, by go_num, rfl, unhide K7, unhide S7, by rw [unhide HTK]; exact unhide L7⟩
        case measure => simp [intOf]; omega
      · have hz : (ke != 0) = true := by simp [h0]
        have hkk : kk = -1 := by rw [unhide HKQ, if_neg h0]
        subst hkk
        clear h0
        go_wp2_with (at_builtin; go_must (refine wpList_append_gen _ rfl (.tmp 26) (.tmp 28) 27 rfl 3 i0 (.int .i64 0) 1 8 Try.underlying27 hi0 hz0 hz1 hz2 rfl (by decide) (.slice a k c) k (ints all) rfl ?c0 (some ⟨w4.heap.size, 0, none⟩) 1 1 (ints [-1]) rfl rfl ?c1 (ints_one _) ?c2 ?c3 ?_))
        case c0 => exact World.ownsRow.alloc (unhide L4).own _
        case c1 => first | exact fun _ => ⟨_, rfl, fun j u hj => by rw [addr_add, Nat.zero_add]; exact (Blk.new w4 (ints [-1]) 3).cell_of hj⟩ | exact fun j u hj => hj
        case c2 => unfold maxLen; omega
        case c3 => omega
        intro va cap w7 ho7 hg7 hat7
        obtain ⟨l7, kc7⟩ := (unhide L4).push (unhide K4).lt hw4 (.cells #[.int .i64 (-1)] 3) ho7 hg7 (Nat.le_succ _) hat7
        have s7 := (unhide S4).own kc7 (fun x hx => ((unhide L4).out x hx).2)
        have k7 := (unhide K4).chg hP kc7 (fun b hb hm => ((unhide L4).out b hm).1 hb)
        have K7 := hide k7; have L7 := hide l7; have S7 := hide s7; clear k7 l7 s7 ho7 hg7 hat7 kc7
        go_wp2
        go_roundw
        case rel => exact ⟨k + 1, F4, va, cap, by omega, by go_num, rfl, unhide K7, unhide S7, by rw [unhide HTK]; exact unhide L7⟩
        case measure => simp [intOf]; omega
    · have hke : k = s.handles.length := by omega
      subst hke
      rw [List.take_length] at hls
      have HKS := hide hks; have HST := hide hst; have HLS := hide hls; clear hks hst hls
      go_wp2
      go_ret
      exact ⟨F', a, c, rfl, unhide HKS, unhide HST, unhide HLS⟩
/-- The heap, and beside it a list that stays. -/
def Bes (G : World → Nat → R → List Nat → Prop) (w0 : World) (a : Option Addr) (n c : Nat) (l : List Int) : World → Nat → R → List Nat → Prop :=
  fun w bh s F' => ∃ F, F' = F ++ ab a ∧ G w bh s F ∧ Lst w0 w a n c l F
section
variable {G : World → Nat → R → List Nat → Prop} {J : R → Prop} {w0 : World} {a : Option Addr} {n c : Nat} {l : List Int}
theorem stays_bes (hG : Stays G) : Stays (Bes G w0 a n c l) := by
  rintro S w w' bh s F' ⟨F, rfl, hg, hl⟩ k hs
  exact ⟨F, rfl, hG S w w' bh s F hg k (fun b hb => hs b (List.mem_append.2 (.inl hb))), hl.chg k (fun b hb => hs b (List.mem_append.2 (.inr hb)))⟩
theorem bes_stp {w w' : World} {bh : Nat} {s' : R} {F F' : List Nat} (hl : Lst w0 w a n c l F) (hlt : ∀ b ∈ F', b < w'.heap.size) (hg : G w' bh s' F') (st : Stp F w F' w') :
    Bes G w0 a n c l w' bh s' (F' ++ ab a) ∧ (∀ b ∈ F' ++ ab a, b < w'.heap.size) ∧ Stp (F ++ ab a) w (F' ++ ab a) w' := by
  have hl' := hl.stp st
  refine ⟨⟨F', rfl, hg, hl'⟩, fun b hb => ?_, st.lift⟩
  rcases List.mem_append.1 hb with h | h
  · exact hlt b h
  · exact own_lt hl'.own b h
theorem pcall_bes {f : FuncId} {bh : Nat} {rest : List Value} {s : R} {v : Value} {er : Int} {s' : R} (h : PCall G f bh rest s v er s') : PCall (Bes G w0 a n c l) f bh rest s v er s' := by
  rintro w F0 ⟨F, rfl, hg, hl⟩
  refine (h w F hg).mono ?_
  rintro e w' ⟨F', rfl, hg', hlt, st⟩
  obtain ⟨h1, h2, h3⟩ := bes_stp hl hlt hg' st
  exact ⟨_, rfl, h1, h2, h3⟩
theorem pcall1_bes {f : FuncId} {bh : Nat} {rest : List Value} {s : R} {er : Int} {s' : R} (h : PCall1 G f bh rest s er s') : PCall1 (Bes G w0 a n c l) f bh rest s er s' := by
  rintro w F0 ⟨F, rfl, hg, hl⟩
  refine (h w F hg).mono ?_
  rintro e w' ⟨F', rfl, hg', hlt, st⟩
  obtain ⟨h1, h2, h3⟩ := bes_stp hl hlt hg' st
  exact ⟨_, rfl, h1, h2, h3⟩
theorem pwords_bes {bh : Nat} {s : R} (h : PWords G bh s) : PWords (Bes G w0 a n c l) bh s := by
  rintro w F0 ⟨F, rfl, hg, hl⟩
  exact h w F hg
theorem pstep_bes {bh : Nat} {s : R} {o : LOp} (h : PStep G bh s o) : PStep (Bes G w0 a n c l) bh s o := by
  constructor
  all_goals intro hk
  all_goals first
    | exact pcall_bes (h.array hk) | exact pcall_bes (h.bytes hk) | exact pcall_bes (h.table hk) | exact pcall_bes (h.join hk) | exact pcall_bes (h.copy hk)
    | exact pcall_bes (h.kind hk) | exact pcall_bes (h.len hk) | exact pcall_bes (h.text hk) | exact pcall_bes (h.place hk) | exact pcall_bes (h.same hk)
    | exact pcall_bes (h.get hk) | exact pcall_bes (h.find hk) | exact pcall_bes (h.key hk) | exact pcall1_bes (h.set hk) | exact pcall1_bes (h.put hk) | exact pcall1_bes (h.cut hk)
    | exact pcall_bes (h.opens hk) | exact pcall1_bes (h.close hk) | exact pcall_bes (h.escape hk) | exact pcall_bes (h.keep hk) | exact pcall1_bes (h.release hk) | exact pcall1_bes (h.collect hk)
    | exact pwords_bes (h.words hk)
theorem kq_bes (h : KQ G J) : KQ (Bes G w0 a n c l) J := ⟨stays_bes h.stays, h.keep, fun bh s m o h1 h2 h3 h4 h5 => pstep_bes (h.step bh s m o h1 h2 h3 h4 h5)⟩
/-- A heap with a list beside it. -/
theorem KS.beside {w : World} {bh m : Nat} {s : R} {F : List Nat} (h : KS G J w bh s F m) (hl : Lst w0 w a n c l F) : KS (Bes G w0 a n c l) J w bh s (F ++ ab a) m := ⟨⟨F, rfl, h.g, hl⟩, fun b hb => by
  rcases List.mem_append.1 hb with h1 | h1
  · exact h.lt b h1
  · exact own_lt hl.own b h1, h.j, h.all, h.up⟩
theorem KS.unbeside {w : World} {bh m : Nat} {s : R} {F' : List Nat} (h : KS (Bes G w0 a n c l) J w bh s F' m) : ∃ F, F' = F ++ ab a ∧ KS G J w bh s F m ∧ Lst w0 w a n c l F := by
  obtain ⟨F, e, hg, hl⟩ := h.g
  exact ⟨F, e, ⟨hg, fun b hb => h.lt b (by rw [e]; exact List.mem_append.2 (.inl hb)), h.j, h.all, h.up⟩, hl⟩
end
theorem Newer.beside {w0 w : World} {F S : List Nat} (h : Newer w0 w F) (hS : ∀ x ∈ S, w0.heap.size ≤ x) : Newer w0 w (F ++ S) := ⟨h.1, fun b hb => by
  rcases List.mem_append.1 hb with h1 | h1
  · exact h.2 b h1
  · exact hS b h1⟩
theorem Newer.unbeside {w0 w : World} {F S : List Nat} (h : Newer w0 w (F ++ S)) : Newer w0 w F := ⟨h.1, fun b hb => h.2 b (List.mem_append.2 (.inl hb))⟩
theorem BKr.beside {w0 w : World} {bb : Nat} {ns ss : List Int} {ls : List Bool} {ps : List Int} {op : Int} {na sa la : Option Addr} {nc sc lc : Nat} {F S : List Nat} (h : BKr w0 w bb ns ss ls ps op na sa la nc sc lc F) (hS : ∀ x ∈ bb :: (ab na ++ (ab sa ++ ab la)), x ∉ S) : BKr w0 w bb ns ss ls ps op na sa la nc sc lc (F ++ S) :=
  ⟨h.blk, h.nums, h.scs, h.live, h.plen, h.apart, fun x hx => ⟨fun hm => by
    rcases List.mem_append.1 hm with h1 | h1
    · exact (h.out x hx).1 h1
    · exact hS x hx h1, (h.out x hx).2⟩⟩
theorem BKr.unbeside {w0 w : World} {bb : Nat} {ns ss : List Int} {ls : List Bool} {ps : List Int} {op : Int} {na sa la : Option Addr} {nc sc lc : Nat} {F S : List Nat} (h : BKr w0 w bb ns ss ls ps op na sa la nc sc lc (F ++ S)) : BKr w0 w bb ns ss ls ps op na sa la nc sc lc F ∧ ∀ x ∈ S, x ∉ bb :: (ab na ++ (ab sa ++ ab la)) :=
  ⟨⟨h.blk, h.nums, h.scs, h.live, h.plen, h.apart, fun x hx => ⟨fun hm => (h.out x hx).1 (List.mem_append.2 (.inl hm)), (h.out x hx).2⟩⟩, fun x hx hm => (h.out x hm).1 (List.mem_append.2 (.inr hx))⟩
end Go.Proofs.Ytfoncalkgmeklaa

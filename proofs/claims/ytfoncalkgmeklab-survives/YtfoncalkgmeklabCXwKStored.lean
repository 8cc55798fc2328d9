/- gripkeep's stored and there. -/
import Derived.Test.YtfoncalkgmeklabCXwKSurv
import Derived.Test.YtfoncalkgmeklabCXwKWaste
namespace Go.Proofs.Ytfoncalkgmeklab
open Go.RowKit

theorem KS.num {G : World → Nat → R → List Nat → Prop} {J : R → Prop} {w : World} {bh m : Nat} {s : R} {F : List Nat} (h : KS G J w bh s F m) (hm : m ≤ 1125899906842624) {x : Int} (hx : ∃ g ∈ s.handles, g.num = x) : I64 x := by
  obtain ⟨g, hg, rfl⟩ := hx
  have h1 := h.all.ok.inv.nums g hg
  have h2 := h.up.handles
  constructor <;> omega
set_option maxRecDepth 100000 in
set_option maxHeartbeats 4000000 in
theorem stored_any {G : World → Nat → R → List Nat → Prop} {J : R → Prop} (hP : KP G J) {w : World} {bh m : Nat} {s : R} {F : List Nat} (hk : KS G J w bh s F m) (hm : m ≤ 1125899906842000) {n : Nat} {ts : List ByteArray} {os : List Nat} (hb : HB 2 0 2 s) (hs : SV n ts os s.objs) (hlt : os.length < n) (t : ByteArray) (ht : t.size ≤ 24) :
    Calls Try.prog 17 #[.pointer (some ⟨bh, 0, none⟩), .int .i64 0, .int .i64 1, .int .i64 (os.length : Int), .string t] w fun e w' => ∃ s' F', e = .returned (.bool true) ∧ KS G J w' bh s' F' (m + 5) ∧ Stp F w F' w' ∧ HB 2 0 2 s' ∧ SV n (ts ++ [t]) (os ++ [s.objs.length]) s'.objs := by
  obtain ⟨x, s1, s2, s3, s4, s5, e1, e2, e3, e4, e5, hb5, hs5, hx⟩ := sv_store hb hs hlt ht
  have hn8 := hs.n8
  have htm : t.size ≤ maxLen := by unfold maxLen; omega
  have HK := hide hk; have E1 := hide e1; have E2 := hide e2; have E3 := hide e3; have E4 := hide e4; have E5 := hide e5; have HB5 := hide hb5; have HS5 := hide hs5; have HX := hide hx; have HTM := hide htm
  clear hk e1 e2 e3 e4 e5 hb5 hs5 hx hb hs htm ht
  generalize hos : s.objs.length = ol at *
  generalize hol : os.length = i at *
  clear hos hol
  have hi8 : (i : Int) ≤ 8 := by omega
  go_enter Try.func17, Try.ntmps17
  go_wp2_with fail
  refine ((unhide HK).opens hP (by omega) (unhide E1)).mono ?_
  rintro e w1 ⟨F1, rfl, k1, st1⟩
  have K1 := hide k1; have ST1 := hide st1; clear k1 st1 HK E1
  go_wp2_with fail
  refine ((unhide K1).bytes hP (by omega) t (unhide HTM) (unhide E2)).mono ?_
  rintro e w2 ⟨F2, rfl, k2, st2⟩
  have hxi := k2.num (by omega) (unhide HX)
  have K2 := hide k2; have ST2 := hide ((unhide ST1).trans st2); have HXI := hide hxi; clear k2 st2 hxi K1 ST1 E2
  go_wp2_with fail
  refine ((unhide K2).set hP (by omega) 0 (i : Int) (2, x) ⟨by omega, by omega⟩ ⟨by omega, by omega⟩ ⟨⟨by simp, by simp⟩, unhide HXI⟩ (unhide E3)).mono ?_
  rintro e w3 ⟨F3, rfl, k3, st3⟩
  have K3 := hide k3; have ST3 := hide ((unhide ST2).trans st3); clear k3 st3 K2 ST2 E3
  go_wp2_with fail
  refine (number_any (i : Int) _).mono ?_
  rintro e w4 ⟨rfl, hc4⟩
  have k4 := (unhide K3).chg hP hc4 (by simp)
  have K4 := hide k4; have C4 := hide hc4; clear k4 hc4 K3
  go_wp2_with fail
  refine ((unhide K4).put hP (by omega) 1 (1, (i : Int)) (2, x) ⟨by omega, by omega⟩ ⟨⟨by simp, by simp⟩, ⟨by omega, by omega⟩⟩ ⟨⟨by simp, by simp⟩, unhide HXI⟩ (unhide E4)).mono ?_
  rintro e w5 ⟨F5, rfl, k5, st5⟩
  have K5 := hide k5; have ST5 := hide ((unhide ST3).trans (st5.pre (unhide C4))); clear k5 st5 K4 ST3 E4 C4
  go_wp2_with fail
  refine ((unhide K5).close hP (by omega) 1 ⟨by omega, by omega⟩ (unhide E5)).mono ?_
  rintro e w6 ⟨F6, rfl, k6, st6⟩
  have K6 := hide k6; have ST6 := hide ((unhide ST5).trans st6); clear k6 st6 K5 ST5 E5
  go_wp2
  go_ret
  exact ⟨s5, F6, rfl, unhide K6, unhide ST6, unhide HB5, unhide HS5⟩
set_option maxRecDepth 100000 in
set_option maxHeartbeats 4000000 in
theorem there_any {G : World → Nat → R → List Nat → Prop} {J : R → Prop} (hP : KP G J) {w : World} {bh m : Nat} {s : R} {F : List Nat} (hk : KS G J w bh s F m) (hm : m ≤ 1125899906842000) {n : Nat} {ts : List ByteArray} {os : List Nat} (hb : HB 2 0 2 s) (hs : SV n ts os s.objs) {i : Nat} (hi : i < os.length) (t : ByteArray) (ht : ts[i]? = some t) :
    Calls Try.prog 19 #[.pointer (some ⟨bh, 0, none⟩), .int .i64 0, .int .i64 1, .int .i64 (i : Int), .string t] w fun e w' => ∃ s' F', e = .returned (.bool true) ∧ KS G J w' bh s' F' (m + 4) ∧ Stp F w F' w' ∧ HB 2 0 2 s' ∧ SV n ts os s'.objs := by
  obtain ⟨t', x, y, s1, s2, s3, s4, ht', e1, e2, e3, e4, e5, e6, e7, hb4, ho4, hx, hy⟩ := sv_there hb hs hi
  rw [ht] at ht'
  cases ht'
  have hs4 : SV n ts os s4.objs := by rw [ho4]; exact hs
  have hn8 := hs.n8
  have hle := hs.le
  have HK := hide hk; have E1 := hide e1; have E2 := hide e2; have E3 := hide e3; have E4 := hide e4; have E5 := hide e5; have E6 := hide e6; have E7 := hide e7; have HB4 := hide hb4; have HS4 := hide hs4; have HX := hide hx; have HY := hide hy
  clear hk e1 e2 e3 e4 e5 e6 e7 hb4 hs4 ho4 hx hy hb hs ht
  have hi8 : (i : Int) ≤ 8 := by omega
  go_enter Try.func19, Try.ntmps19
  go_wp2_with fail
  refine ((unhide HK).opens hP (by omega) (unhide E1)).mono ?_
  rintro e w1 ⟨F1, rfl, k1, st1⟩
  have K1 := hide k1; have ST1 := hide st1; clear k1 st1 HK E1
  go_wp2_with fail
  refine ((unhide K1).get hP (by omega) 0 (i : Int) ⟨by omega, by omega⟩ ⟨by omega, by omega⟩ (unhide E2)).mono ?_
  rintro e w2 ⟨F2, rfl, k2, st2⟩
  have kb2 : Chg [] w2 (w2.alloc (.cells #[.int .i64 2, .int .i64 x] 45)) := (Chg.refl [] w2).alloc _
  have b2 : Beside (w2.alloc (.cells #[.int .i64 2, .int .i64 x] 45)) w2.heap.size [.int .i64 2, .int .i64 x] 45 F2 := ⟨Blk.new w2 _ _, fun hm => by have := k2.lt _ hm; omega⟩
  have k2' := k2.chg hP kb2 (by simp)
  have ST2 := hide ((unhide ST1).trans st2)
  have K2 := hide k2'; have B2 := hide b2; have KB2 := hide kb2; clear k2 k2' st2 b2 kb2 K1 ST1 E2
  go_wp2_with fail
  refine (number_any (i : Int) _).mono ?_
  rintro e w3 ⟨rfl, hc3⟩
  have k3 := (unhide K2).chg hP hc3 (by simp)
  have b3 := (unhide B2).chg hc3
  have c3 := (unhide KB2).trans hc3
  generalize w2.heap.size = gv at *
  have K3 := hide k3; have B3 := hide b3; have C3 := hide c3; clear k3 b3 c3 hc3 K2 B2 KB2
  go_wp2_with fail
  refine ((unhide K3).find hP (by omega) 1 (1, (i : Int)) ⟨by omega, by omega⟩ ⟨⟨by simp, by simp⟩, ⟨by omega, by omega⟩⟩ (unhide E3)).mono ?_
  rintro e w4 ⟨F4, rfl, k4, st4⟩
  have hxi := k4.num (by omega) (unhide HX)
  have hyi := k4.num (by omega) (unhide HY)
  have kb4 : Chg [] w4 (w4.alloc (.cells #[.int .i64 2, .int .i64 y] 45)) := (Chg.refl [] w4).alloc _
  have u4 : Beside (w4.alloc (.cells #[.int .i64 2, .int .i64 y] 45)) w4.heap.size [.int .i64 2, .int .i64 y] 45 F4 := ⟨Blk.new w4 _ _, fun hm => by have := k4.lt _ hm; omega⟩
  have b4 := ((unhide B3).stp st4).chg kb4
  have k4' := k4.chg hP kb4 (by simp)
  have ST4 := hide (((unhide ST2).trans (st4.pre (unhide C3))).trans (Stp.of_chg kb4))
  have c0 := b4.1.cell_of (i := 1) rfl
  have K4 := hide k4'; have B4 := hide b4; have U4 := hide u4; have HXI := hide hxi; have HYI := hide hyi; clear k4 k4' st4 b4 u4 kb4 hxi hyi K3 B3 C3 ST2 E3
  go_wp2_with fail
  refine ((unhide K4).text hP (by omega) x (unhide HXI) (unhide E4)).mono ?_
  rintro e w5 ⟨F5, rfl, k5, st5⟩
  generalize w4.heap.size = gu at *
  have b5 := (unhide B4).stp st5
  have u5 := (unhide U4).stp st5
  clear c0
  have c1 := b5.1.cell_of (i := 1) rfl
  have c2 := u5.1.cell_of (i := 1) rfl
  have K5 := hide k5; have B5 := hide b5; have U5 := hide u5; have ST5 := hide ((unhide ST4).trans st5); clear k5 st5 b5 u5 K4 B4 U4 ST4 E4
  go_wp2_with fail
  refine ((unhide K5).same hP (by omega) x y (unhide HXI) (unhide HYI) (unhide E5)).mono ?_
  rintro e w6 ⟨F6, rfl, k6, st6⟩
  have b6 := (unhide B5).stp st6
  have u6 := (unhide U5).stp st6
  clear c1 c2
  have K6 := hide k6; have B6 := hide b6; have U6 := hide u6; have ST6 := hide ((unhide ST5).trans st6); clear k6 st6 b6 u6 K5 B5 U5 ST5 E5
  go_wp2_with fail
  refine ((unhide K6).close hP (by omega) 1 ⟨by omega, by omega⟩ (unhide E6)).mono ?_
  rintro e w7 ⟨F7, rfl, k7, st7⟩
  have b7 := (unhide B6).stp st7
  have u7 := (unhide U6).stp st7
  have c1 := b7.1.cell_of (i := 1) rfl
  have K7 := hide k7; have B7 := hide b7; have U7 := hide u7; have ST7 := hide ((unhide ST6).trans st7); clear k7 st7 b7 u7 K6 B6 U6 ST6 E6
  go_wp2_with fail
  refine ((unhide K7).text hP (by omega) x (unhide HXI) (unhide E7)).mono ?_
  rintro e w8 ⟨F8, rfl, k8, st8⟩
  have b8 := (unhide B7).stp st8
  have u8 := (unhide U7).stp st8
  clear c1
  have c0 := b8.1.cell_of (i := 0) rfl
  have c2 := u8.1.cell_of (i := 0) rfl
  have K8 := hide k8; have ST8 := hide ((unhide ST7).trans st8); clear k8 st8 b8 u8 K7 B7 U7 ST7 E7
  go_wp2
  go_ret
  exact ⟨s4, F8, by simp, unhide K8, unhide ST8, unhide HB4, unhide HS4⟩
end Go.Proofs.Ytfoncalkgmeklab

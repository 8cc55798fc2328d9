/- gripkeep.Joined, of a program that keeps the document. -/
import Derived.Test.YtfoncalkgmeklabXwM51
import Derived.Test.YtfoncalkgmeklabXwM42
namespace Go.Proofs.Ytfoncalkgmeklab
open Go.RowKit

theorem trip {α β γ : Type} {p : α × β × γ} {a : α} {b : β} (h1 : p.1 = a) (h2 : p.2.1 = b) : p = (a, b, p.2.2) := by
  obtain ⟨x, y, z⟩ := p
  simp_all
set_option maxRecDepth 100000 in
set_option maxHeartbeats 4000000 in
theorem walk_joined {w : World} {G : World → Nat → R → List Nat → Prop} {J : R → Prop} (hP : KP G J) (a : Option Addr) (n c : Nat) (fs : List Bool) (hn : n ≤ c) (hl : fs.length = n) (hf : FlagsAt w a fs) (_ : n ≤ 140737488351232) (t1 : ByteArray) (_ : t1.size ≤ maxLen) (t2 : ByteArray) (_ : t2.size ≤ maxLen) :
    Calls Try.prog 3 #[.slice a n c, .string t1, .string t2] w fun e w' => e = .returned (.bool true) ∧ Chg [] w w' := by
  have hw := whole_any hP a n c fs w hl hn hf
  have hs1 := fun w => short_any t1 64 w (by omega)
  have hs2 := fun w => short_any t2 64 w (by omega)
  have z1 := short_size t1 64
  have z2 := short_size t2 64
  generalize shortQ t1 64 = u1 at *
  generalize shortQ t2 64 = u2 at *
  have hm1 : u1.size ≤ maxLen := by unfold maxLen; omega
  have hm2 : u2.size ≤ maxLen := by unfold maxLen; omega
  have HW := hide hw; have HS1 := hide hs1; have HS2 := hide hs2; clear hw hs1 hs2 hl hn hf
  go_enter Try.func3, Try.ntmps3
  go_wp2_with fail
  refine (unhide HW).mono ?_
  rintro e w1 ⟨bh, F1, rfl, k1, n1⟩
  have p0 : PH 512 [] (R.init 512 (fs.take 64)) := ⟨k1.all, rfl, rfl, rfl, rfl, rfl⟩
  have K1 := hide k1; have N1 := hide n1; clear k1 n1
  go_wp2_with fail
  refine (unhide HS1 _).mono ?_
  rintro e w2 ⟨rfl, rfl⟩
  go_wp2_with fail
  refine (unhide HS2 _).mono ?_
  rintro e w3 ⟨rfl, rfl⟩
  obtain ⟨b1, b2, p1⟩ := p0.bytes (t := u1) (by simp) z1 (by simp)
  have e1 := trip b1 b2
  generalize ((R.init 512 (fs.take 64)).bytesQ u1).2.2 = s1 at *
  obtain ⟨c1, c2, p2⟩ := p1.bytes (t := u2) (by simp) z2 (by simp)
  have e2 := trip c1 c2
  generalize (s1.bytesQ u2).2.2 = s2 at *
  have hb1 := (unhide K1).bytes hP (by omega) u1 hm1 e1
  have HB1 := hide hb1; clear hb1 b1 b2 c1 c2
  simp only [List.nil_append, List.cons_append, List.length_nil, List.length_cons] at *
  go_wp2_with fail
  refine (unhide HB1).mono ?_
  rintro e w4 ⟨F4, rfl, k4, st4⟩
  have n4 := (unhide N1).stp st4
  have hb2 := k4.bytes hP (by omega) u2 hm2 e2
  have HB2 := hide hb2; have N4 := hide n4; clear hb2 k4 st4 n4
  go_wp2_with fail
  refine (unhide HB2).mono ?_
  rintro e w5 ⟨F5, rfl, k5, st5⟩
  have n5 := (unhide N4).stp st5
  have hj := p2.join (j := 0) (k := 1) (t := u1) (u := u2) (by simp) rfl rfl
  have hsz : (u1 ++ u2).size = u1.size + u2.size := ByteArray.size_append
  by_cases hbig : 64 < (u1 ++ u2).size
  · rw [if_pos hbig] at hj
    have hjc := k5.join hP (by omega) 0 1 i64_0 ⟨by omega, by omega⟩ hj
    obtain ⟨d1, d2, p3⟩ := p2.copy (j := 1) (t := u2) (by simp) rfl z2 (by simp)
    have e3 := trip d1 d2
    generalize (s2.copyQ ((1 : Nat) : Int)).2.2 = s3 at *
    have q0 := p3.text (j := 0) (t := u1) (by simp) rfl
    have q1 := p3.text (j := 1) (t := u2) (by simp) rfl
    have q2 := p3.text (j := 2) (t := u2) (by simp) rfl
    have q3 := p3.same (j := 1) (k := 2) (by simp) (by simp) (by simp) (by omega)
    simp only [Int.natCast_zero, Int.natCast_one] at *
    have HJC := hide hjc; have N5 := hide n5; clear hjc n5 st5 k5
    go_wp2_with fail
    refine (unhide HJC).mono ?_
    rintro e w6 ⟨F6, rfl, k6, st6⟩
    have n6 := (unhide N5).stp st6
    have hcc := k6.copy hP (by omega) 1 ⟨by omega, by omega⟩ e3
    have HCC := hide hcc; have N6 := hide n6; clear hcc n6 st6 k6
    go_wp2_with fail
    refine (unhide HCC).mono ?_
    rintro e w7 ⟨F7, rfl, k7, st7⟩
    have n7 := (unhide N6).stp st7
    have r0 := k7.text hP (by omega) 0 i64_0 q0
    have R0 := hide r0; have N7 := hide n7; clear r0 n7 st7 k7
    go_wp2_with fail
    refine (unhide R0).mono ?_
    rintro e w8 ⟨F8, rfl, k8, st8⟩
    have n8 := (unhide N7).stp st8
    have r1 := k8.text hP (by omega) 1 ⟨by omega, by omega⟩ q1
    have R1 := hide r1; have N8 := hide n8; clear r1 n8 st8 k8
    go_wp2_with fail
    refine (unhide R1).mono ?_
    rintro e w9 ⟨F9, rfl, k9, st9⟩
    have n9 := (unhide N8).stp st9
    have r2 := k9.text hP (by omega) 2 ⟨by omega, by omega⟩ q2
    have R2 := hide r2; have N9 := hide n9; clear r2 n9 st9 k9
    go_wp2_with fail
    refine (unhide R2).mono ?_
    rintro e w10 ⟨F10, rfl, k10, st10⟩
    have n10 := (unhide N9).stp st10
    have r3 := k10.same hP (by omega) 1 2 ⟨by omega, by omega⟩ ⟨by omega, by omega⟩ q3
    have R3 := hide r3; have N10 := hide n10; clear r3 n10 st10 k10
    go_wp2_with fail
    refine (unhide R3).mono ?_
    rintro e w11 ⟨F11, rfl, k11, st11⟩
    have n11 := (unhide N10).stp st11
    have zbig : (u1.size : Int) + (u2.size : Int) > 64 := by omega
    have N11 := hide n11; clear n11 st11 k11
    go_wp2
    go_ret
    exact ⟨rfl, (unhide N11).1⟩
  · rw [if_neg hbig] at hj
    obtain ⟨f1, f2, p3⟩ := p2.bytes (t := u1 ++ u2) (by simp) (by omega) (by simp)
    have e3 := trip f1 f2
    rw [← hj] at e3
    have hjc := k5.join hP (by omega) 0 1 i64_0 ⟨by omega, by omega⟩ e3
    rw [hj] at hjc
    generalize (s2.bytesQ (u1 ++ u2)).2.2 = s3 at *
    simp only [List.nil_append, List.cons_append, List.length_nil, List.length_cons] at *
    obtain ⟨d1, d2, p4⟩ := p3.copy (j := 1) (t := u2) (by simp) rfl z2 (by simp)
    have e4 := trip d1 d2
    generalize (s3.copyQ ((1 : Nat) : Int)).2.2 = s4 at *
    have q4 := p4.text (j := 2) (t := u1 ++ u2) (by simp) rfl
    have q5 := p4.len (j := 2) (t := u1 ++ u2) (by simp) rfl
    rw [hsz] at q5
    have q0 := p4.text (j := 0) (t := u1) (by simp) rfl
    have q1 := p4.text (j := 1) (t := u2) (by simp) rfl
    have q2 := p4.text (j := 3) (t := u2) (by simp) rfl
    have q3 := p4.same (j := 1) (k := 3) (by simp) (by simp) (by simp) (by omega)
    simp only [Int.natCast_zero, Int.natCast_one] at *
    have HJC := hide hjc; have N5 := hide n5; clear hjc n5 st5 k5
    go_wp2_with fail
    refine (unhide HJC).mono ?_
    rintro e w6 ⟨F6, rfl, k6, st6⟩
    have n6 := (unhide N5).stp st6
    have hcc := k6.copy hP (by omega) 1 ⟨by omega, by omega⟩ e4
    have HCC := hide hcc; have N6 := hide n6; clear hcc n6 st6 k6
    go_wp2_with fail
    refine (unhide HCC).mono ?_
    rintro e w7 ⟨F7, rfl, k7, st7⟩
    have n7 := (unhide N6).stp st7
    have r0 := k7.text hP (by omega) 0 i64_0 q0
    have R0 := hide r0; have N7 := hide n7; clear r0 n7 st7 k7
    go_wp2_with fail
    refine (unhide R0).mono ?_
    rintro e w8 ⟨F8, rfl, k8, st8⟩
    have n8 := (unhide N7).stp st8
    have r1 := k8.text hP (by omega) 1 ⟨by omega, by omega⟩ q1
    have R1 := hide r1; have N8 := hide n8; clear r1 n8 st8 k8
    go_wp2_with fail
    refine (unhide R1).mono ?_
    rintro e w9 ⟨F9, rfl, k9, st9⟩
    have n9 := (unhide N8).stp st9
    have r2 := k9.text hP (by omega) 3 ⟨by omega, by omega⟩ q2
    have R2 := hide r2; have N9 := hide n9; clear r2 n9 st9 k9
    go_wp2_with fail
    refine (unhide R2).mono ?_
    rintro e w10 ⟨F10, rfl, k10, st10⟩
    have n10 := (unhide N9).stp st10
    have r3 := k10.same hP (by omega) 1 3 ⟨by omega, by omega⟩ ⟨by omega, by omega⟩ q3
    have R3 := hide r3; have N10 := hide n10; clear r3 n10 st10 k10
    go_wp2_with fail
    refine (unhide R3).mono ?_
    rintro e w11 ⟨F11, rfl, k11, st11⟩
    have n11 := (unhide N10).stp st11
    have r4 := k11.text hP (by omega) 2 ⟨by omega, by omega⟩ q4
    have R4 := hide r4; have N11 := hide n11; clear r4 n11 st11 k11
    have zbig : ¬ (u1.size : Int) + (u2.size : Int) > 64 := by omega
    go_wp2_with fail
    refine (unhide R4).mono ?_
    rintro e w12 ⟨F12, rfl, k12, st12⟩
    have n12 := (unhide N11).stp st12
    have r5 := k12.len hP (by omega) 2 ⟨by omega, by omega⟩ q5
    have R5 := hide r5; have N12 := hide n12; clear r5 n12 st12 k12
    go_wp2_with fail
    refine (unhide R5).mono ?_
    rintro e w13 ⟨F13, rfl, k13, st13⟩
    have n13 := (unhide N12).stp st13
    have N13 := hide n13; clear n13 st13 k13
    go_wp2
    go_ret
    exact ⟨by simp, (unhide N13).1⟩
end Go.Proofs.Ytfoncalkgmeklab

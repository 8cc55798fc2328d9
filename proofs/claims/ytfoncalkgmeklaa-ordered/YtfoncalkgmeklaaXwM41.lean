/- ask: each step plays the document. (Written by wip/genkeep.py.) -/
import Derived.Test.YtfoncalkgmeklaaXwM40
namespace Go.Proofs.Ytfoncalkgmeklaa
open Go.RowKit

set_option maxRecDepth 100000 in
set_option maxHeartbeats 4000000 in
theorem ask_kind {G : World → Nat → R → List Nat → Prop} (hG : Stays G) {bh : Nat} {s : R} (x y : Int) (k v : Int × Int) (t : ByteArray) (a : Int) (er : Int) (s' : R) (hp : PCall G 34 bh [.int .i64 x] s (.int .i64 a) er s') : KCallA G 9 bh ⟨4, x, y, k, v, t⟩ s ⟨er, a, false, ⟨#[]⟩, (0, 0)⟩ s' := by
  intro w F hg hlt
  unfold LOp.val
  have hpc : Hid (Calls Try.prog 34 #[.pointer (some ⟨bh, 0, none⟩), .int .i64 x] (kw w ⟨4, x, y, k, v, t⟩) fun e w' => ∃ F', e = .returned (.tuple #[.int .i64 a, .int .i64 er]) ∧ G w' bh s' F' ∧ (∀ b ∈ F', b < w'.heap.size) ∧ Stp F (kw w ⟨4, x, y, k, v, t⟩) F' w') := hp _ _ (hG [] _ _ _ _ _ hg (kw_chg w _) (by simp))
  have HLT := hide hlt; have HCH := hide (kw_chg w ⟨4, x, y, k, v, t⟩); have HSZ := hide (kw_size w ⟨4, x, y, k, v, t⟩); have HV1 := hide (kw_res w ⟨4, x, y, k, v, t⟩); have HV2 := hide (kw_var w ⟨4, x, y, k, v, t⟩); clear hg hlt hp
  go_enter Try.func9, Try.ntmps9
  go_wp2_with (go_at_call 34; refine (unhide hpc).mono ?_; rintro e w2 ⟨F2, rfl, hg2, hl2, st2⟩; have HG2 := hide hg2; have HL2 := hide hl2; have ST2 := hide st2; have b2 := (unhide HV2).chg st2.chg (fun hm => by have := unhide HLT _ hm; omega); have b1 := (unhide HV1).chg st2.chg (fun hm => by have := unhide HLT _ hm; omega); obtain ⟨cu0, cu1, cu2, cu3, cu4, cu5⟩ := ans_at b2; obtain ⟨cr0, cr1, cr2, cr3, cr4, cr5⟩ := ans_at b1; have fu0 := b2.frozen 0; have fu1 := b2.frozen 1; have fu2 := b2.frozen 2; have fu3 := b2.frozen 3; have fu4 := b2.frozen 4; have fu5 := b2.frozen 5; have fr0 := b1.frozen 0; have fr1 := b1.frozen 1; have fr2 := b1.frozen 2; have fr3 := b1.frozen 3; have fr4 := b1.frozen 4; have fr5 := b1.frozen 5; have B1 := hide b1; clear hg2 hl2 st2 b1 b2)
  have kx : Chg [w.heap.size + 1 + 1] w2 ((w2.setCell ⟨w.heap.size + 1 + 1, 1, none⟩ (.int .i64 a)).setCell ⟨w.heap.size + 1 + 1, 0, none⟩ (.int .i64 er)) := (((Chg.refl _ w2).setCell (.inl (by simp)) _).setCell (.inl (by simp)) _)
  obtain ⟨rb, rg, rl, rs⟩ := ans_fin hG (unhide HCH) (unhide HSZ) (unhide HLT) (unhide B1) (unhide HG2) (unhide HL2) (unhide ST2) kx ⟨er, a, false, ⟨#[]⟩, (0, 0)⟩
  obtain ⟨q0, q1, q2, q3, q4, q5⟩ := ans_at rb
  simp only [Ans.put] at q0 q1 q2 q3 q4 q5
  exact bodyPost_ret (v := Ans.val ⟨er, a, false, ⟨#[]⟩, (0, 0)⟩) (by simp [results, Try.results9, go_sem, Ans.val, Ans.nil, q0, q1, q2, q3, q4, q5]) rfl ⟨F2, rfl, rg, rl, rs⟩

set_option maxRecDepth 100000 in
set_option maxHeartbeats 4000000 in
theorem ask_len {G : World → Nat → R → List Nat → Prop} (hG : Stays G) {bh : Nat} {s : R} (x y : Int) (k v : Int × Int) (t : ByteArray) (a : Int) (er : Int) (s' : R) (hp : PCall G 35 bh [.int .i64 x] s (.int .i64 a) er s') : KCallA G 9 bh ⟨5, x, y, k, v, t⟩ s ⟨er, a, false, ⟨#[]⟩, (0, 0)⟩ s' := by
  intro w F hg hlt
  unfold LOp.val
  have hpc : Hid (Calls Try.prog 35 #[.pointer (some ⟨bh, 0, none⟩), .int .i64 x] (kw w ⟨5, x, y, k, v, t⟩) fun e w' => ∃ F', e = .returned (.tuple #[.int .i64 a, .int .i64 er]) ∧ G w' bh s' F' ∧ (∀ b ∈ F', b < w'.heap.size) ∧ Stp F (kw w ⟨5, x, y, k, v, t⟩) F' w') := hp _ _ (hG [] _ _ _ _ _ hg (kw_chg w _) (by simp))
  have HLT := hide hlt; have HCH := hide (kw_chg w ⟨5, x, y, k, v, t⟩); have HSZ := hide (kw_size w ⟨5, x, y, k, v, t⟩); have HV1 := hide (kw_res w ⟨5, x, y, k, v, t⟩); have HV2 := hide (kw_var w ⟨5, x, y, k, v, t⟩); clear hg hlt hp
  go_enter Try.func9, Try.ntmps9
  go_wp2_with (go_at_call 35; refine (unhide hpc).mono ?_; rintro e w2 ⟨F2, rfl, hg2, hl2, st2⟩; have HG2 := hide hg2; have HL2 := hide hl2; have ST2 := hide st2; have b2 := (unhide HV2).chg st2.chg (fun hm => by have := unhide HLT _ hm; omega); have b1 := (unhide HV1).chg st2.chg (fun hm => by have := unhide HLT _ hm; omega); obtain ⟨cu0, cu1, cu2, cu3, cu4, cu5⟩ := ans_at b2; obtain ⟨cr0, cr1, cr2, cr3, cr4, cr5⟩ := ans_at b1; have fu0 := b2.frozen 0; have fu1 := b2.frozen 1; have fu2 := b2.frozen 2; have fu3 := b2.frozen 3; have fu4 := b2.frozen 4; have fu5 := b2.frozen 5; have fr0 := b1.frozen 0; have fr1 := b1.frozen 1; have fr2 := b1.frozen 2; have fr3 := b1.frozen 3; have fr4 := b1.frozen 4; have fr5 := b1.frozen 5; have B1 := hide b1; clear hg2 hl2 st2 b1 b2)
  have kx : Chg [w.heap.size + 1 + 1] w2 ((w2.setCell ⟨w.heap.size + 1 + 1, 1, none⟩ (.int .i64 a)).setCell ⟨w.heap.size + 1 + 1, 0, none⟩ (.int .i64 er)) := (((Chg.refl _ w2).setCell (.inl (by simp)) _).setCell (.inl (by simp)) _)
  obtain ⟨rb, rg, rl, rs⟩ := ans_fin hG (unhide HCH) (unhide HSZ) (unhide HLT) (unhide B1) (unhide HG2) (unhide HL2) (unhide ST2) kx ⟨er, a, false, ⟨#[]⟩, (0, 0)⟩
  obtain ⟨q0, q1, q2, q3, q4, q5⟩ := ans_at rb
  simp only [Ans.put] at q0 q1 q2 q3 q4 q5
  exact bodyPost_ret (v := Ans.val ⟨er, a, false, ⟨#[]⟩, (0, 0)⟩) (by simp [results, Try.results9, go_sem, Ans.val, Ans.nil, q0, q1, q2, q3, q4, q5]) rfl ⟨F2, rfl, rg, rl, rs⟩

set_option maxRecDepth 100000 in
set_option maxHeartbeats 4000000 in
theorem ask_text {G : World → Nat → R → List Nat → Prop} (hG : Stays G) {bh : Nat} {s : R} (x y : Int) (k v : Int × Int) (t : ByteArray) (a : ByteArray) (er : Int) (s' : R) (hp : PCall G 36 bh [.int .i64 x] s (.string a) er s') : KCallA G 9 bh ⟨6, x, y, k, v, t⟩ s ⟨er, 0, false, a, (0, 0)⟩ s' := by
  intro w F hg hlt
  unfold LOp.val
  have hpc : Hid (Calls Try.prog 36 #[.pointer (some ⟨bh, 0, none⟩), .int .i64 x] (kw w ⟨6, x, y, k, v, t⟩) fun e w' => ∃ F', e = .returned (.tuple #[.string a, .int .i64 er]) ∧ G w' bh s' F' ∧ (∀ b ∈ F', b < w'.heap.size) ∧ Stp F (kw w ⟨6, x, y, k, v, t⟩) F' w') := hp _ _ (hG [] _ _ _ _ _ hg (kw_chg w _) (by simp))
  have HLT := hide hlt; have HCH := hide (kw_chg w ⟨6, x, y, k, v, t⟩); have HSZ := hide (kw_size w ⟨6, x, y, k, v, t⟩); have HV1 := hide (kw_res w ⟨6, x, y, k, v, t⟩); have HV2 := hide (kw_var w ⟨6, x, y, k, v, t⟩); clear hg hlt hp
  go_enter Try.func9, Try.ntmps9
  go_wp2_with (go_at_call 36; refine (unhide hpc).mono ?_; rintro e w2 ⟨F2, rfl, hg2, hl2, st2⟩; have HG2 := hide hg2; have HL2 := hide hl2; have ST2 := hide st2; have b2 := (unhide HV2).chg st2.chg (fun hm => by have := unhide HLT _ hm; omega); have b1 := (unhide HV1).chg st2.chg (fun hm => by have := unhide HLT _ hm; omega); obtain ⟨cu0, cu1, cu2, cu3, cu4, cu5⟩ := ans_at b2; obtain ⟨cr0, cr1, cr2, cr3, cr4, cr5⟩ := ans_at b1; have fu0 := b2.frozen 0; have fu1 := b2.frozen 1; have fu2 := b2.frozen 2; have fu3 := b2.frozen 3; have fu4 := b2.frozen 4; have fu5 := b2.frozen 5; have fr0 := b1.frozen 0; have fr1 := b1.frozen 1; have fr2 := b1.frozen 2; have fr3 := b1.frozen 3; have fr4 := b1.frozen 4; have fr5 := b1.frozen 5; have B1 := hide b1; clear hg2 hl2 st2 b1 b2)
  have kx : Chg [w.heap.size + 1 + 1] w2 ((w2.setCell ⟨w.heap.size + 1 + 1, 3, none⟩ (.string a)).setCell ⟨w.heap.size + 1 + 1, 0, none⟩ (.int .i64 er)) := (((Chg.refl _ w2).setCell (.inl (by simp)) _).setCell (.inl (by simp)) _)
  obtain ⟨rb, rg, rl, rs⟩ := ans_fin hG (unhide HCH) (unhide HSZ) (unhide HLT) (unhide B1) (unhide HG2) (unhide HL2) (unhide ST2) kx ⟨er, 0, false, a, (0, 0)⟩
  obtain ⟨q0, q1, q2, q3, q4, q5⟩ := ans_at rb
  simp only [Ans.put] at q0 q1 q2 q3 q4 q5
  exact bodyPost_ret (v := Ans.val ⟨er, 0, false, a, (0, 0)⟩) (by simp [results, Try.results9, go_sem, Ans.val, Ans.nil, q0, q1, q2, q3, q4, q5]) rfl ⟨F2, rfl, rg, rl, rs⟩

set_option maxRecDepth 100000 in
set_option maxHeartbeats 4000000 in
theorem ask_place {G : World → Nat → R → List Nat → Prop} (hG : Stays G) {bh : Nat} {s : R} (x y : Int) (k v : Int × Int) (t : ByteArray) (a : Int) (er : Int) (s' : R) (hp : PCall G 37 bh [.int .i64 x] s (.int .i64 a) er s') : KCallA G 9 bh ⟨7, x, y, k, v, t⟩ s ⟨er, a, false, ⟨#[]⟩, (0, 0)⟩ s' := by
  intro w F hg hlt
  unfold LOp.val
  have hpc : Hid (Calls Try.prog 37 #[.pointer (some ⟨bh, 0, none⟩), .int .i64 x] (kw w ⟨7, x, y, k, v, t⟩) fun e w' => ∃ F', e = .returned (.tuple #[.int .i64 a, .int .i64 er]) ∧ G w' bh s' F' ∧ (∀ b ∈ F', b < w'.heap.size) ∧ Stp F (kw w ⟨7, x, y, k, v, t⟩) F' w') := hp _ _ (hG [] _ _ _ _ _ hg (kw_chg w _) (by simp))
  have HLT := hide hlt; have HCH := hide (kw_chg w ⟨7, x, y, k, v, t⟩); have HSZ := hide (kw_size w ⟨7, x, y, k, v, t⟩); have HV1 := hide (kw_res w ⟨7, x, y, k, v, t⟩); have HV2 := hide (kw_var w ⟨7, x, y, k, v, t⟩); clear hg hlt hp
  go_enter Try.func9, Try.ntmps9
  go_wp2_with (go_at_call 37; refine (unhide hpc).mono ?_; rintro e w2 ⟨F2, rfl, hg2, hl2, st2⟩; have HG2 := hide hg2; have HL2 := hide hl2; have ST2 := hide st2; have b2 := (unhide HV2).chg st2.chg (fun hm => by have := unhide HLT _ hm; omega); have b1 := (unhide HV1).chg st2.chg (fun hm => by have := unhide HLT _ hm; omega); obtain ⟨cu0, cu1, cu2, cu3, cu4, cu5⟩ := ans_at b2; obtain ⟨cr0, cr1, cr2, cr3, cr4, cr5⟩ := ans_at b1; have fu0 := b2.frozen 0; have fu1 := b2.frozen 1; have fu2 := b2.frozen 2; have fu3 := b2.frozen 3; have fu4 := b2.frozen 4; have fu5 := b2.frozen 5; have fr0 := b1.frozen 0; have fr1 := b1.frozen 1; have fr2 := b1.frozen 2; have fr3 := b1.frozen 3; have fr4 := b1.frozen 4; have fr5 := b1.frozen 5; have B1 := hide b1; clear hg2 hl2 st2 b1 b2)
  have kx : Chg [w.heap.size + 1 + 1] w2 ((w2.setCell ⟨w.heap.size + 1 + 1, 1, none⟩ (.int .i64 a)).setCell ⟨w.heap.size + 1 + 1, 0, none⟩ (.int .i64 er)) := (((Chg.refl _ w2).setCell (.inl (by simp)) _).setCell (.inl (by simp)) _)
  obtain ⟨rb, rg, rl, rs⟩ := ans_fin hG (unhide HCH) (unhide HSZ) (unhide HLT) (unhide B1) (unhide HG2) (unhide HL2) (unhide ST2) kx ⟨er, a, false, ⟨#[]⟩, (0, 0)⟩
  obtain ⟨q0, q1, q2, q3, q4, q5⟩ := ans_at rb
  simp only [Ans.put] at q0 q1 q2 q3 q4 q5
  exact bodyPost_ret (v := Ans.val ⟨er, a, false, ⟨#[]⟩, (0, 0)⟩) (by simp [results, Try.results9, go_sem, Ans.val, Ans.nil, q0, q1, q2, q3, q4, q5]) rfl ⟨F2, rfl, rg, rl, rs⟩

set_option maxRecDepth 100000 in
set_option maxHeartbeats 4000000 in
theorem ask_get {G : World → Nat → R → List Nat → Prop} (hG : Stays G) {bh : Nat} {s : R} (x y : Int) (k v : Int × Int) (t : ByteArray) (a : Int × Int) (er : Int) (s' : R) (hp : PCall G 38 bh [.int .i64 x, .int .i64 y] s (.agg #[.int .i64 a.1, .int .i64 a.2]) er s') : KCallA G 9 bh ⟨9, x, y, k, v, t⟩ s ⟨er, 0, false, ⟨#[]⟩, a⟩ s' := by
  intro w F hg hlt
  unfold LOp.val
  have hpc : Hid (Calls Try.prog 38 #[.pointer (some ⟨bh, 0, none⟩), .int .i64 x, .int .i64 y] (kw w ⟨9, x, y, k, v, t⟩) fun e w' => ∃ F', e = .returned (.tuple #[.agg #[.int .i64 a.1, .int .i64 a.2], .int .i64 er]) ∧ G w' bh s' F' ∧ (∀ b ∈ F', b < w'.heap.size) ∧ Stp F (kw w ⟨9, x, y, k, v, t⟩) F' w') := hp _ _ (hG [] _ _ _ _ _ hg (kw_chg w _) (by simp))
  have HLT := hide hlt; have HCH := hide (kw_chg w ⟨9, x, y, k, v, t⟩); have HSZ := hide (kw_size w ⟨9, x, y, k, v, t⟩); have HV1 := hide (kw_res w ⟨9, x, y, k, v, t⟩); have HV2 := hide (kw_var w ⟨9, x, y, k, v, t⟩); clear hg hlt hp
  go_enter Try.func9, Try.ntmps9
  go_wp2_with (go_at_call 38; refine (unhide hpc).mono ?_; rintro e w2 ⟨F2, rfl, hg2, hl2, st2⟩; have HG2 := hide hg2; have HL2 := hide hl2; have ST2 := hide st2; have b2 := (unhide HV2).chg st2.chg (fun hm => by have := unhide HLT _ hm; omega); have b1 := (unhide HV1).chg st2.chg (fun hm => by have := unhide HLT _ hm; omega); obtain ⟨cu0, cu1, cu2, cu3, cu4, cu5⟩ := ans_at b2; obtain ⟨cr0, cr1, cr2, cr3, cr4, cr5⟩ := ans_at b1; have fu0 := b2.frozen 0; have fu1 := b2.frozen 1; have fu2 := b2.frozen 2; have fu3 := b2.frozen 3; have fu4 := b2.frozen 4; have fu5 := b2.frozen 5; have fr0 := b1.frozen 0; have fr1 := b1.frozen 1; have fr2 := b1.frozen 2; have fr3 := b1.frozen 3; have fr4 := b1.frozen 4; have fr5 := b1.frozen 5; have B1 := hide b1; clear hg2 hl2 st2 b1 b2)
  have kx : Chg [w.heap.size + 1 + 1] w2 (((w2.setCell ⟨w.heap.size + 1 + 1, 4, none⟩ (.int .i64 a.1)).setCell ⟨w.heap.size + 1 + 1, 5, none⟩ (.int .i64 a.2)).setCell ⟨w.heap.size + 1 + 1, 0, none⟩ (.int .i64 er)) := ((((Chg.refl _ w2).setCell (.inl (by simp)) _).setCell (.inl (by simp)) _).setCell (.inl (by simp)) _)
  obtain ⟨rb, rg, rl, rs⟩ := ans_fin hG (unhide HCH) (unhide HSZ) (unhide HLT) (unhide B1) (unhide HG2) (unhide HL2) (unhide ST2) kx ⟨er, 0, false, ⟨#[]⟩, a⟩
  obtain ⟨q0, q1, q2, q3, q4, q5⟩ := ans_at rb
  simp only [Ans.put] at q0 q1 q2 q3 q4 q5
  exact bodyPost_ret (v := Ans.val ⟨er, 0, false, ⟨#[]⟩, a⟩) (by simp [results, Try.results9, go_sem, Ans.val, Ans.nil, q0, q1, q2, q3, q4, q5]) rfl ⟨F2, rfl, rg, rl, rs⟩

set_option maxRecDepth 100000 in
set_option maxHeartbeats 4000000 in
theorem ask_same {G : World → Nat → R → List Nat → Prop} (hG : Stays G) {bh : Nat} {s : R} (x y : Int) (k v : Int × Int) (t : ByteArray) (a : Bool) (er : Int) (s' : R) (hp : PCall G 39 bh [.int .i64 x, .int .i64 y] s (.bool a) er s') : KCallA G 9 bh ⟨11, x, y, k, v, t⟩ s ⟨er, 0, a, ⟨#[]⟩, (0, 0)⟩ s' := by
  intro w F hg hlt
  unfold LOp.val
  have hpc : Hid (Calls Try.prog 39 #[.pointer (some ⟨bh, 0, none⟩), .int .i64 x, .int .i64 y] (kw w ⟨11, x, y, k, v, t⟩) fun e w' => ∃ F', e = .returned (.tuple #[.bool a, .int .i64 er]) ∧ G w' bh s' F' ∧ (∀ b ∈ F', b < w'.heap.size) ∧ Stp F (kw w ⟨11, x, y, k, v, t⟩) F' w') := hp _ _ (hG [] _ _ _ _ _ hg (kw_chg w _) (by simp))
  have HLT := hide hlt; have HCH := hide (kw_chg w ⟨11, x, y, k, v, t⟩); have HSZ := hide (kw_size w ⟨11, x, y, k, v, t⟩); have HV1 := hide (kw_res w ⟨11, x, y, k, v, t⟩); have HV2 := hide (kw_var w ⟨11, x, y, k, v, t⟩); clear hg hlt hp
  go_enter Try.func9, Try.ntmps9
  go_wp2_with (go_at_call 39; refine (unhide hpc).mono ?_; rintro e w2 ⟨F2, rfl, hg2, hl2, st2⟩; have HG2 := hide hg2; have HL2 := hide hl2; have ST2 := hide st2; have b2 := (unhide HV2).chg st2.chg (fun hm => by have := unhide HLT _ hm; omega); have b1 := (unhide HV1).chg st2.chg (fun hm => by have := unhide HLT _ hm; omega); obtain ⟨cu0, cu1, cu2, cu3, cu4, cu5⟩ := ans_at b2; obtain ⟨cr0, cr1, cr2, cr3, cr4, cr5⟩ := ans_at b1; have fu0 := b2.frozen 0; have fu1 := b2.frozen 1; have fu2 := b2.frozen 2; have fu3 := b2.frozen 3; have fu4 := b2.frozen 4; have fu5 := b2.frozen 5; have fr0 := b1.frozen 0; have fr1 := b1.frozen 1; have fr2 := b1.frozen 2; have fr3 := b1.frozen 3; have fr4 := b1.frozen 4; have fr5 := b1.frozen 5; have B1 := hide b1; clear hg2 hl2 st2 b1 b2)
  have kx : Chg [w.heap.size + 1 + 1] w2 ((w2.setCell ⟨w.heap.size + 1 + 1, 2, none⟩ (.bool a)).setCell ⟨w.heap.size + 1 + 1, 0, none⟩ (.int .i64 er)) := (((Chg.refl _ w2).setCell (.inl (by simp)) _).setCell (.inl (by simp)) _)
  obtain ⟨rb, rg, rl, rs⟩ := ans_fin hG (unhide HCH) (unhide HSZ) (unhide HLT) (unhide B1) (unhide HG2) (unhide HL2) (unhide ST2) kx ⟨er, 0, a, ⟨#[]⟩, (0, 0)⟩
  obtain ⟨q0, q1, q2, q3, q4, q5⟩ := ans_at rb
  simp only [Ans.put] at q0 q1 q2 q3 q4 q5
  exact bodyPost_ret (v := Ans.val ⟨er, 0, a, ⟨#[]⟩, (0, 0)⟩) (by simp [results, Try.results9, go_sem, Ans.val, Ans.nil, q0, q1, q2, q3, q4, q5]) rfl ⟨F2, rfl, rg, rl, rs⟩

set_option maxRecDepth 100000 in
set_option maxHeartbeats 4000000 in
theorem ask_find {G : World → Nat → R → List Nat → Prop} (hG : Stays G) {bh : Nat} {s : R} (x y : Int) (k v : Int × Int) (t : ByteArray) (a : Int × Int) (er : Int) (s' : R) (hp : PCall G 40 bh [.int .i64 x, .agg #[.int .i64 k.1, .int .i64 k.2]] s (.agg #[.int .i64 a.1, .int .i64 a.2]) er s') : KCallA G 9 bh ⟨12, x, y, k, v, t⟩ s ⟨er, 0, false, ⟨#[]⟩, a⟩ s' := by
  intro w F hg hlt
  unfold LOp.val
  have hpc : Hid (Calls Try.prog 40 #[.pointer (some ⟨bh, 0, none⟩), .int .i64 x, .agg #[.int .i64 k.1, .int .i64 k.2]] (kw w ⟨12, x, y, k, v, t⟩) fun e w' => ∃ F', e = .returned (.tuple #[.agg #[.int .i64 a.1, .int .i64 a.2], .int .i64 er]) ∧ G w' bh s' F' ∧ (∀ b ∈ F', b < w'.heap.size) ∧ Stp F (kw w ⟨12, x, y, k, v, t⟩) F' w') := hp _ _ (hG [] _ _ _ _ _ hg (kw_chg w _) (by simp))
  have HLT := hide hlt; have HCH := hide (kw_chg w ⟨12, x, y, k, v, t⟩); have HSZ := hide (kw_size w ⟨12, x, y, k, v, t⟩); have HV1 := hide (kw_res w ⟨12, x, y, k, v, t⟩); have HV2 := hide (kw_var w ⟨12, x, y, k, v, t⟩); clear hg hlt hp
  go_enter Try.func9, Try.ntmps9
  go_wp2_with (go_at_call 40; refine (unhide hpc).mono ?_; rintro e w2 ⟨F2, rfl, hg2, hl2, st2⟩; have HG2 := hide hg2; have HL2 := hide hl2; have ST2 := hide st2; have b2 := (unhide HV2).chg st2.chg (fun hm => by have := unhide HLT _ hm; omega); have b1 := (unhide HV1).chg st2.chg (fun hm => by have := unhide HLT _ hm; omega); obtain ⟨cu0, cu1, cu2, cu3, cu4, cu5⟩ := ans_at b2; obtain ⟨cr0, cr1, cr2, cr3, cr4, cr5⟩ := ans_at b1; have fu0 := b2.frozen 0; have fu1 := b2.frozen 1; have fu2 := b2.frozen 2; have fu3 := b2.frozen 3; have fu4 := b2.frozen 4; have fu5 := b2.frozen 5; have fr0 := b1.frozen 0; have fr1 := b1.frozen 1; have fr2 := b1.frozen 2; have fr3 := b1.frozen 3; have fr4 := b1.frozen 4; have fr5 := b1.frozen 5; have B1 := hide b1; clear hg2 hl2 st2 b1 b2)
  have kx : Chg [w.heap.size + 1 + 1] w2 (((w2.setCell ⟨w.heap.size + 1 + 1, 4, none⟩ (.int .i64 a.1)).setCell ⟨w.heap.size + 1 + 1, 5, none⟩ (.int .i64 a.2)).setCell ⟨w.heap.size + 1 + 1, 0, none⟩ (.int .i64 er)) := ((((Chg.refl _ w2).setCell (.inl (by simp)) _).setCell (.inl (by simp)) _).setCell (.inl (by simp)) _)
  obtain ⟨rb, rg, rl, rs⟩ := ans_fin hG (unhide HCH) (unhide HSZ) (unhide HLT) (unhide B1) (unhide HG2) (unhide HL2) (unhide ST2) kx ⟨er, 0, false, ⟨#[]⟩, a⟩
  obtain ⟨q0, q1, q2, q3, q4, q5⟩ := ans_at rb
  simp only [Ans.put] at q0 q1 q2 q3 q4 q5
  exact bodyPost_ret (v := Ans.val ⟨er, 0, false, ⟨#[]⟩, a⟩) (by simp [results, Try.results9, go_sem, Ans.val, Ans.nil, q0, q1, q2, q3, q4, q5]) rfl ⟨F2, rfl, rg, rl, rs⟩

set_option maxRecDepth 100000 in
set_option maxHeartbeats 4000000 in
theorem ask_key {G : World → Nat → R → List Nat → Prop} (hG : Stays G) {bh : Nat} {s : R} (x y : Int) (k v : Int × Int) (t : ByteArray) (a : Int × Int) (er : Int) (s' : R) (hp : PCall G 41 bh [.int .i64 x, .int .i64 y] s (.agg #[.int .i64 a.1, .int .i64 a.2]) er s') : KCallA G 9 bh ⟨15, x, y, k, v, t⟩ s ⟨er, 0, false, ⟨#[]⟩, a⟩ s' := by
  intro w F hg hlt
  unfold LOp.val
  have hpc : Hid (Calls Try.prog 41 #[.pointer (some ⟨bh, 0, none⟩), .int .i64 x, .int .i64 y] (kw w ⟨15, x, y, k, v, t⟩) fun e w' => ∃ F', e = .returned (.tuple #[.agg #[.int .i64 a.1, .int .i64 a.2], .int .i64 er]) ∧ G w' bh s' F' ∧ (∀ b ∈ F', b < w'.heap.size) ∧ Stp F (kw w ⟨15, x, y, k, v, t⟩) F' w') := hp _ _ (hG [] _ _ _ _ _ hg (kw_chg w _) (by simp))
  have HLT := hide hlt; have HCH := hide (kw_chg w ⟨15, x, y, k, v, t⟩); have HSZ := hide (kw_size w ⟨15, x, y, k, v, t⟩); have HV1 := hide (kw_res w ⟨15, x, y, k, v, t⟩); have HV2 := hide (kw_var w ⟨15, x, y, k, v, t⟩); clear hg hlt hp
  go_enter Try.func9, Try.ntmps9
  go_wp2_with (go_at_call 41; refine (unhide hpc).mono ?_; rintro e w2 ⟨F2, rfl, hg2, hl2, st2⟩; have HG2 := hide hg2; have HL2 := hide hl2; have ST2 := hide st2; have b2 := (unhide HV2).chg st2.chg (fun hm => by have := unhide HLT _ hm; omega); have b1 := (unhide HV1).chg st2.chg (fun hm => by have := unhide HLT _ hm; omega); obtain ⟨cu0, cu1, cu2, cu3, cu4, cu5⟩ := ans_at b2; obtain ⟨cr0, cr1, cr2, cr3, cr4, cr5⟩ := ans_at b1; have fu0 := b2.frozen 0; have fu1 := b2.frozen 1; have fu2 := b2.frozen 2; have fu3 := b2.frozen 3; have fu4 := b2.frozen 4; have fu5 := b2.frozen 5; have fr0 := b1.frozen 0; have fr1 := b1.frozen 1; have fr2 := b1.frozen 2; have fr3 := b1.frozen 3; have fr4 := b1.frozen 4; have fr5 := b1.frozen 5; have B1 := hide b1; clear hg2 hl2 st2 b1 b2)
  have kx : Chg [w.heap.size + 1 + 1] w2 (((w2.setCell ⟨w.heap.size + 1 + 1, 4, none⟩ (.int .i64 a.1)).setCell ⟨w.heap.size + 1 + 1, 5, none⟩ (.int .i64 a.2)).setCell ⟨w.heap.size + 1 + 1, 0, none⟩ (.int .i64 er)) := ((((Chg.refl _ w2).setCell (.inl (by simp)) _).setCell (.inl (by simp)) _).setCell (.inl (by simp)) _)
  obtain ⟨rb, rg, rl, rs⟩ := ans_fin hG (unhide HCH) (unhide HSZ) (unhide HLT) (unhide B1) (unhide HG2) (unhide HL2) (unhide ST2) kx ⟨er, 0, false, ⟨#[]⟩, a⟩
  obtain ⟨q0, q1, q2, q3, q4, q5⟩ := ans_at rb
  simp only [Ans.put] at q0 q1 q2 q3 q4 q5
  exact bodyPost_ret (v := Ans.val ⟨er, 0, false, ⟨#[]⟩, a⟩) (by simp [results, Try.results9, go_sem, Ans.val, Ans.nil, q0, q1, q2, q3, q4, q5]) rfl ⟨F2, rfl, rg, rl, rs⟩

set_option maxRecDepth 100000 in
set_option maxHeartbeats 4000000 in
theorem ask_opens {G : World → Nat → R → List Nat → Prop} (hG : Stays G) {bh : Nat} {s : R} (x y : Int) (k v : Int × Int) (t : ByteArray) (a : Int) (er : Int) (s' : R) (hp : PCall G 18 bh [] s (.int .i64 a) er s') : KCallA G 9 bh ⟨16, x, y, k, v, t⟩ s ⟨er, a, false, ⟨#[]⟩, (0, 0)⟩ s' := by
  intro w F hg hlt
  unfold LOp.val
  have hpc : Hid (Calls Try.prog 18 #[.pointer (some ⟨bh, 0, none⟩)] (kw w ⟨16, x, y, k, v, t⟩) fun e w' => ∃ F', e = .returned (.tuple #[.int .i64 a, .int .i64 er]) ∧ G w' bh s' F' ∧ (∀ b ∈ F', b < w'.heap.size) ∧ Stp F (kw w ⟨16, x, y, k, v, t⟩) F' w') := hp _ _ (hG [] _ _ _ _ _ hg (kw_chg w _) (by simp))
  have HLT := hide hlt; have HCH := hide (kw_chg w ⟨16, x, y, k, v, t⟩); have HSZ := hide (kw_size w ⟨16, x, y, k, v, t⟩); have HV1 := hide (kw_res w ⟨16, x, y, k, v, t⟩); have HV2 := hide (kw_var w ⟨16, x, y, k, v, t⟩); clear hg hlt hp
  go_enter Try.func9, Try.ntmps9
  go_wp2_with (go_at_call 18; refine (unhide hpc).mono ?_; rintro e w2 ⟨F2, rfl, hg2, hl2, st2⟩; have HG2 := hide hg2; have HL2 := hide hl2; have ST2 := hide st2; have b2 := (unhide HV2).chg st2.chg (fun hm => by have := unhide HLT _ hm; omega); have b1 := (unhide HV1).chg st2.chg (fun hm => by have := unhide HLT _ hm; omega); obtain ⟨cu0, cu1, cu2, cu3, cu4, cu5⟩ := ans_at b2; obtain ⟨cr0, cr1, cr2, cr3, cr4, cr5⟩ := ans_at b1; have fu0 := b2.frozen 0; have fu1 := b2.frozen 1; have fu2 := b2.frozen 2; have fu3 := b2.frozen 3; have fu4 := b2.frozen 4; have fu5 := b2.frozen 5; have fr0 := b1.frozen 0; have fr1 := b1.frozen 1; have fr2 := b1.frozen 2; have fr3 := b1.frozen 3; have fr4 := b1.frozen 4; have fr5 := b1.frozen 5; have B1 := hide b1; clear hg2 hl2 st2 b1 b2)
  have kx : Chg [w.heap.size + 1 + 1] w2 ((w2.setCell ⟨w.heap.size + 1 + 1, 1, none⟩ (.int .i64 a)).setCell ⟨w.heap.size + 1 + 1, 0, none⟩ (.int .i64 er)) := (((Chg.refl _ w2).setCell (.inl (by simp)) _).setCell (.inl (by simp)) _)
  obtain ⟨rb, rg, rl, rs⟩ := ans_fin hG (unhide HCH) (unhide HSZ) (unhide HLT) (unhide B1) (unhide HG2) (unhide HL2) (unhide ST2) kx ⟨er, a, false, ⟨#[]⟩, (0, 0)⟩
  obtain ⟨q0, q1, q2, q3, q4, q5⟩ := ans_at rb
  simp only [Ans.put] at q0 q1 q2 q3 q4 q5
  exact bodyPost_ret (v := Ans.val ⟨er, a, false, ⟨#[]⟩, (0, 0)⟩) (by simp [results, Try.results9, go_sem, Ans.val, Ans.nil, q0, q1, q2, q3, q4, q5]) rfl ⟨F2, rfl, rg, rl, rs⟩

set_option maxRecDepth 100000 in
set_option maxHeartbeats 4000000 in
theorem ask_escape {G : World → Nat → R → List Nat → Prop} (hG : Stays G) {bh : Nat} {s : R} (x y : Int) (k v : Int × Int) (t : ByteArray) (a : Int) (er : Int) (s' : R) (hp : PCall G 42 bh [.int .i64 x] s (.int .i64 a) er s') : KCallA G 9 bh ⟨18, x, y, k, v, t⟩ s ⟨er, a, false, ⟨#[]⟩, (0, 0)⟩ s' := by
  intro w F hg hlt
  unfold LOp.val
  have hpc : Hid (Calls Try.prog 42 #[.pointer (some ⟨bh, 0, none⟩), .int .i64 x] (kw w ⟨18, x, y, k, v, t⟩) fun e w' => ∃ F', e = .returned (.tuple #[.int .i64 a, .int .i64 er]) ∧ G w' bh s' F' ∧ (∀ b ∈ F', b < w'.heap.size) ∧ Stp F (kw w ⟨18, x, y, k, v, t⟩) F' w') := hp _ _ (hG [] _ _ _ _ _ hg (kw_chg w _) (by simp))
  have HLT := hide hlt; have HCH := hide (kw_chg w ⟨18, x, y, k, v, t⟩); have HSZ := hide (kw_size w ⟨18, x, y, k, v, t⟩); have HV1 := hide (kw_res w ⟨18, x, y, k, v, t⟩); have HV2 := hide (kw_var w ⟨18, x, y, k, v, t⟩); clear hg hlt hp
  go_enter Try.func9, Try.ntmps9
  go_wp2_with (go_at_call 42; refine (unhide hpc).mono ?_; rintro e w2 ⟨F2, rfl, hg2, hl2, st2⟩; have HG2 := hide hg2; have HL2 := hide hl2; have ST2 := hide st2; have b2 := (unhide HV2).chg st2.chg (fun hm => by have := unhide HLT _ hm; omega); have b1 := (unhide HV1).chg st2.chg (fun hm => by have := unhide HLT _ hm; omega); obtain ⟨cu0, cu1, cu2, cu3, cu4, cu5⟩ := ans_at b2; obtain ⟨cr0, cr1, cr2, cr3, cr4, cr5⟩ := ans_at b1; have fu0 := b2.frozen 0; have fu1 := b2.frozen 1; have fu2 := b2.frozen 2; have fu3 := b2.frozen 3; have fu4 := b2.frozen 4; have fu5 := b2.frozen 5; have fr0 := b1.frozen 0; have fr1 := b1.frozen 1; have fr2 := b1.frozen 2; have fr3 := b1.frozen 3; have fr4 := b1.frozen 4; have fr5 := b1.frozen 5; have B1 := hide b1; clear hg2 hl2 st2 b1 b2)
  have kx : Chg [w.heap.size + 1 + 1] w2 ((w2.setCell ⟨w.heap.size + 1 + 1, 1, none⟩ (.int .i64 a)).setCell ⟨w.heap.size + 1 + 1, 0, none⟩ (.int .i64 er)) := (((Chg.refl _ w2).setCell (.inl (by simp)) _).setCell (.inl (by simp)) _)
  obtain ⟨rb, rg, rl, rs⟩ := ans_fin hG (unhide HCH) (unhide HSZ) (unhide HLT) (unhide B1) (unhide HG2) (unhide HL2) (unhide ST2) kx ⟨er, a, false, ⟨#[]⟩, (0, 0)⟩
  obtain ⟨q0, q1, q2, q3, q4, q5⟩ := ans_at rb
  simp only [Ans.put] at q0 q1 q2 q3 q4 q5
  exact bodyPost_ret (v := Ans.val ⟨er, a, false, ⟨#[]⟩, (0, 0)⟩) (by simp [results, Try.results9, go_sem, Ans.val, Ans.nil, q0, q1, q2, q3, q4, q5]) rfl ⟨F2, rfl, rg, rl, rs⟩

set_option maxRecDepth 100000 in
set_option maxHeartbeats 4000000 in
theorem ask_keep {G : World → Nat → R → List Nat → Prop} (hG : Stays G) {bh : Nat} {s : R} (x y : Int) (k v : Int × Int) (t : ByteArray) (a : Int) (er : Int) (s' : R) (hp : PCall G 43 bh [.int .i64 x] s (.int .i64 a) er s') : KCallA G 9 bh ⟨19, x, y, k, v, t⟩ s ⟨er, a, false, ⟨#[]⟩, (0, 0)⟩ s' := by
  intro w F hg hlt
  unfold LOp.val
  have hpc : Hid (Calls Try.prog 43 #[.pointer (some ⟨bh, 0, none⟩), .int .i64 x] (kw w ⟨19, x, y, k, v, t⟩) fun e w' => ∃ F', e = .returned (.tuple #[.int .i64 a, .int .i64 er]) ∧ G w' bh s' F' ∧ (∀ b ∈ F', b < w'.heap.size) ∧ Stp F (kw w ⟨19, x, y, k, v, t⟩) F' w') := hp _ _ (hG [] _ _ _ _ _ hg (kw_chg w _) (by simp))
  have HLT := hide hlt; have HCH := hide (kw_chg w ⟨19, x, y, k, v, t⟩); have HSZ := hide (kw_size w ⟨19, x, y, k, v, t⟩); have HV1 := hide (kw_res w ⟨19, x, y, k, v, t⟩); have HV2 := hide (kw_var w ⟨19, x, y, k, v, t⟩); clear hg hlt hp
  go_enter Try.func9, Try.ntmps9
  go_wp2_with (go_at_call 43; refine (unhide hpc).mono ?_; rintro e w2 ⟨F2, rfl, hg2, hl2, st2⟩; have HG2 := hide hg2; have HL2 := hide hl2; have ST2 := hide st2; have b2 := (unhide HV2).chg st2.chg (fun hm => by have := unhide HLT _ hm; omega); have b1 := (unhide HV1).chg st2.chg (fun hm => by have := unhide HLT _ hm; omega); obtain ⟨cu0, cu1, cu2, cu3, cu4, cu5⟩ := ans_at b2; obtain ⟨cr0, cr1, cr2, cr3, cr4, cr5⟩ := ans_at b1; have fu0 := b2.frozen 0; have fu1 := b2.frozen 1; have fu2 := b2.frozen 2; have fu3 := b2.frozen 3; have fu4 := b2.frozen 4; have fu5 := b2.frozen 5; have fr0 := b1.frozen 0; have fr1 := b1.frozen 1; have fr2 := b1.frozen 2; have fr3 := b1.frozen 3; have fr4 := b1.frozen 4; have fr5 := b1.frozen 5; have B1 := hide b1; clear hg2 hl2 st2 b1 b2)
  have kx : Chg [w.heap.size + 1 + 1] w2 ((w2.setCell ⟨w.heap.size + 1 + 1, 1, none⟩ (.int .i64 a)).setCell ⟨w.heap.size + 1 + 1, 0, none⟩ (.int .i64 er)) := (((Chg.refl _ w2).setCell (.inl (by simp)) _).setCell (.inl (by simp)) _)
  obtain ⟨rb, rg, rl, rs⟩ := ans_fin hG (unhide HCH) (unhide HSZ) (unhide HLT) (unhide B1) (unhide HG2) (unhide HL2) (unhide ST2) kx ⟨er, a, false, ⟨#[]⟩, (0, 0)⟩
  obtain ⟨q0, q1, q2, q3, q4, q5⟩ := ans_at rb
  simp only [Ans.put] at q0 q1 q2 q3 q4 q5
  exact bodyPost_ret (v := Ans.val ⟨er, a, false, ⟨#[]⟩, (0, 0)⟩) (by simp [results, Try.results9, go_sem, Ans.val, Ans.nil, q0, q1, q2, q3, q4, q5]) rfl ⟨F2, rfl, rg, rl, rs⟩

set_option maxRecDepth 100000 in
set_option maxHeartbeats 4000000 in
theorem ask_made {G : World → Nat → R → List Nat → Prop} (hG : Stays G) {bh : Nat} {s : R} (o : LOp) (hk : o.kind = 1 ∨ o.kind = 2 ∨ o.kind = 3 ∨ o.kind = 22 ∨ o.kind = 23) (a : Ans) (s' : R) (hp : KCallA G 33 bh o s a s') : KCallA G 9 bh o s a s' := by
  intro w F hg hlt
  obtain ⟨kind, x, y, k, v, t⟩ := o
  unfold LOp.val
  simp only at hk
  have hpc : Hid (Calls Try.prog 33 #[.pointer (some ⟨bh, 0, none⟩), .agg #[.int .i64 kind, .int .i64 x, .int .i64 y, .int .i64 k.1, .int .i64 k.2, .int .i64 v.1, .int .i64 v.2, .string t]] (kw w ⟨kind, x, y, k, v, t⟩) fun e w' => ∃ F', e = .returned a.val ∧ G w' bh s' F' ∧ (∀ b ∈ F', b < w'.heap.size) ∧ Stp F (kw w ⟨kind, x, y, k, v, t⟩) F' w') := hp _ _ (hG [] _ _ _ _ _ hg (kw_chg w _) (by simp)) (fun b hb => Nat.lt_of_lt_of_le (hlt b hb) (kw_chg w _).size)
  have HLT := hide hlt; have HCH := hide (kw_chg w ⟨kind, x, y, k, v, t⟩); have HSZ := hide (kw_size w ⟨kind, x, y, k, v, t⟩); have HV1 := hide (kw_res w ⟨kind, x, y, k, v, t⟩); have HV2 := hide (kw_var w ⟨kind, x, y, k, v, t⟩); clear hg hlt hp
  obtain ⟨ae, an, ab, at', av⟩ := a
  simp only [Ans.val] at hpc
  rcases hk with rfl | rfl | rfl | rfl | rfl
  all_goals
    go_enter Try.func9, Try.ntmps9
    go_wp2_with (go_at_call 33; refine (unhide hpc).mono ?_; rintro e w2 ⟨F2, rfl, hg2, hl2, st2⟩; have HG2 := hide hg2; have HL2 := hide hl2; have ST2 := hide st2; have b2 := (unhide HV2).chg st2.chg (fun hm => by have := unhide HLT _ hm; omega); have b1 := (unhide HV1).chg st2.chg (fun hm => by have := unhide HLT _ hm; omega); obtain ⟨cu0, cu1, cu2, cu3, cu4, cu5⟩ := ans_at b2; obtain ⟨cr0, cr1, cr2, cr3, cr4, cr5⟩ := ans_at b1; have fu0 := b2.frozen 0; have fu1 := b2.frozen 1; have fu2 := b2.frozen 2; have fu3 := b2.frozen 3; have fu4 := b2.frozen 4; have fu5 := b2.frozen 5; have fr0 := b1.frozen 0; have fr1 := b1.frozen 1; have fr2 := b1.frozen 2; have fr3 := b1.frozen 3; have fr4 := b1.frozen 4; have fr5 := b1.frozen 5; have B1 := hide b1; clear hg2 hl2 st2 b1 b2)
    have kx : Chg [w.heap.size + 1 + 1] w2 w2 := Chg.refl _ _
    obtain ⟨rb, rg, rl, rs⟩ := ans_fin hG (unhide HCH) (unhide HSZ) (unhide HLT) (unhide B1) (unhide HG2) (unhide HL2) (unhide ST2) kx ⟨ae, an, ab, at', av⟩
    obtain ⟨q0, q1, q2, q3, q4, q5⟩ := ans_at rb
    simp only [Ans.put] at q0 q1 q2 q3 q4 q5
    exact bodyPost_ret (v := Ans.val ⟨ae, an, ab, at', av⟩) (by simp [results, Try.results9, go_sem, Ans.val, q0, q1, q2, q3, q4, q5]) rfl ⟨F2, rfl, rg, rl, rs⟩

set_option maxRecDepth 100000 in
set_option maxHeartbeats 4000000 in
theorem ask_changed {G : World → Nat → R → List Nat → Prop} (hG : Stays G) {bh : Nat} {s : R} (o : LOp) (hk : o.kind < 1 ∨ 23 < o.kind ∨ o.kind = 10 ∨ o.kind = 13 ∨ o.kind = 14 ∨ o.kind = 17 ∨ o.kind = 20 ∨ o.kind = 21) (er : Int) (s' : R) (hp : KCall1 G 44 bh o s er s') : KCallA G 9 bh o s ⟨er, 0, false, ⟨#[]⟩, (0, 0)⟩ s' := by
  intro w F hg hlt
  obtain ⟨kind, x, y, k, v, t⟩ := o
  unfold LOp.val
  simp only at hk
  have hpc : Hid (Calls Try.prog 44 #[.pointer (some ⟨bh, 0, none⟩), .agg #[.int .i64 kind, .int .i64 x, .int .i64 y, .int .i64 k.1, .int .i64 k.2, .int .i64 v.1, .int .i64 v.2, .string t]] (kw w ⟨kind, x, y, k, v, t⟩) fun e w' => ∃ F', e = .returned (.int .i64 er) ∧ G w' bh s' F' ∧ (∀ b ∈ F', b < w'.heap.size) ∧ Stp F (kw w ⟨kind, x, y, k, v, t⟩) F' w') := hp _ _ (hG [] _ _ _ _ _ hg (kw_chg w _) (by simp)) (fun b hb => Nat.lt_of_lt_of_le (hlt b hb) (kw_chg w _).size)
  have HLT := hide hlt; have HCH := hide (kw_chg w ⟨kind, x, y, k, v, t⟩); have HSZ := hide (kw_size w ⟨kind, x, y, k, v, t⟩); have HV1 := hide (kw_res w ⟨kind, x, y, k, v, t⟩); have HV2 := hide (kw_var w ⟨kind, x, y, k, v, t⟩); clear hg hlt hp
  have n1 : (kind == 1) = false := by simp; omega
  have n2 : (kind == 2) = false := by simp; omega
  have n3 : (kind == 3) = false := by simp; omega
  have n4 : (kind == 4) = false := by simp; omega
  have n5 : (kind == 5) = false := by simp; omega
  have n6 : (kind == 6) = false := by simp; omega
  have n7 : (kind == 7) = false := by simp; omega
  have n8 : (kind == 8) = false := by simp; omega
  have n9 : (kind == 9) = false := by simp; omega
  have n11 : (kind == 11) = false := by simp; omega
  have n12 : (kind == 12) = false := by simp; omega
  have n15 : (kind == 15) = false := by simp; omega
  have n16 : (kind == 16) = false := by simp; omega
  have n18 : (kind == 18) = false := by simp; omega
  have n19 : (kind == 19) = false := by simp; omega
  have n22 : (kind == 22) = false := by simp; omega
  have n23 : (kind == 23) = false := by simp; omega
  clear hk
  go_enter Try.func9, Try.ntmps9
  go_wp2_with (go_at_call 44; refine (unhide hpc).mono ?_; rintro e w2 ⟨F2, rfl, hg2, hl2, st2⟩; have HG2 := hide hg2; have HL2 := hide hl2; have ST2 := hide st2; have b2 := (unhide HV2).chg st2.chg (fun hm => by have := unhide HLT _ hm; omega); have b1 := (unhide HV1).chg st2.chg (fun hm => by have := unhide HLT _ hm; omega); obtain ⟨cu0, cu1, cu2, cu3, cu4, cu5⟩ := ans_at b2; obtain ⟨cr0, cr1, cr2, cr3, cr4, cr5⟩ := ans_at b1; have fu0 := b2.frozen 0; have fu1 := b2.frozen 1; have fu2 := b2.frozen 2; have fu3 := b2.frozen 3; have fu4 := b2.frozen 4; have fu5 := b2.frozen 5; have fr0 := b1.frozen 0; have fr1 := b1.frozen 1; have fr2 := b1.frozen 2; have fr3 := b1.frozen 3; have fr4 := b1.frozen 4; have fr5 := b1.frozen 5; have B1 := hide b1; clear hg2 hl2 st2 b1 b2)
  have kx : Chg [w.heap.size + 1 + 1] w2 (w2.setCell ⟨w.heap.size + 1 + 1, 0, none⟩ (.int .i64 er)) := (Chg.refl _ w2).setCell (.inl (by simp)) _
  obtain ⟨rb, rg, rl, rs⟩ := ans_fin hG (unhide HCH) (unhide HSZ) (unhide HLT) (unhide B1) (unhide HG2) (unhide HL2) (unhide ST2) kx ⟨er, 0, false, ⟨#[]⟩, (0, 0)⟩
  obtain ⟨q0, q1, q2, q3, q4, q5⟩ := ans_at rb
  simp only [Ans.put] at q0 q1 q2 q3 q4 q5
  exact bodyPost_ret (v := Ans.val ⟨er, 0, false, ⟨#[]⟩, (0, 0)⟩) (by simp [results, Try.results9, go_sem, Ans.val, Ans.nil, q0, q1, q2, q3, q4, q5]) rfl ⟨F2, rfl, rg, rl, rs⟩

set_option maxRecDepth 100000 in
set_option maxHeartbeats 4000000 in
theorem changed_none {G : World → Nat → R → List Nat → Prop} (hG : Stays G) {bh : Nat} {s : R} (o : LOp) (hk : o.kind < 1 ∨ 23 < o.kind) : KCall1 G 44 bh o s 0 s := by
  intro w F hg hlt
  obtain ⟨kind, x, y, k, v, t⟩ := o
  unfold LOp.val
  simp only at hk
  have n10 : (kind == 10) = false := by simp; omega
  have n13 : (kind == 13) = false := by simp; omega
  have n14 : (kind == 14) = false := by simp; omega
  have n17 : (kind == 17) = false := by simp; omega
  have n20 : (kind == 20) = false := by simp; omega
  have n21 : (kind == 21) = false := by simp; omega
  have hch : Chg [] w (w.alloc (.cells (LOp.cells ⟨kind, x, y, k, v, t⟩).toArray 35)) := ((Chg.refl [] w).alloc _)
  have HG := hide hg; have HLT := hide hlt; have HCH := hide hch; clear hg hlt hch hk
  go_enter Try.func44, Try.ntmps44
  go_wp2
  go_ret
  exact ⟨F, by simp, hG [] _ _ _ _ _ (unhide HG) (unhide HCH) (by simp), fun b hb => Nat.lt_of_lt_of_le (unhide HLT b hb) (unhide HCH).size, Stp.of_chg (unhide HCH)⟩

set_option maxRecDepth 100000 in
set_option maxHeartbeats 4000000 in
theorem ask_words {G : World → Nat → R → List Nat → Prop} (hG : Stays G) {bh : Nat} {s : R} (x y : Int) (k v : Int × Int) (t : ByteArray) (hp : PWords G bh s) : KCallA G 9 bh ⟨8, x, y, k, v, t⟩ s ⟨s.wordsE, s.wordsQ.length, false, ⟨#[]⟩, (0, 0)⟩ s := by
  intro w F hg hlt
  unfold LOp.val
  have hpc : Hid (Calls Try.prog 14 #[.pointer (some ⟨bh, 0, none⟩)] (kw w ⟨8, x, y, k, v, t⟩) fun e w' => ∃ a n c, e = .returned (.tuple #[.slice a n c, .int .i64 s.wordsE]) ∧ n = s.wordsQ.length ∧ G w' bh s F ∧ (∀ b ∈ F, b < w'.heap.size) ∧ Stp F (kw w ⟨8, x, y, k, v, t⟩) F w') := (hp _ _ (hG [] _ _ _ _ _ hg (kw_chg w _) (by simp))).mono fun e w' ⟨a, n, c, h1, h2⟩ => ⟨a, n, c, h1, h2.len.symm, hG [] _ _ _ _ _ hg ((kw_chg w _).trans h2.chg) (by simp), fun b hb => Nat.lt_of_lt_of_le (hlt b hb) ((kw_chg w _).trans h2.chg).size, Stp.of_chg h2.chg⟩
  have HLT := hide hlt; have HCH := hide (kw_chg w ⟨8, x, y, k, v, t⟩); have HSZ := hide (kw_size w ⟨8, x, y, k, v, t⟩); have HV1 := hide (kw_res w ⟨8, x, y, k, v, t⟩); have HV2 := hide (kw_var w ⟨8, x, y, k, v, t⟩); clear hg hlt hp
  generalize s.wordsE = er at *
  generalize hN : s.wordsQ.length = N at *
  clear hN
  go_enter Try.func9, Try.ntmps9
  go_wp2_with (go_at_call 14; refine (unhide hpc).mono ?_; rintro e w2 ⟨la, n, lc, rfl, rfl, hg2, hl2, st2⟩; have HG2 := hide hg2; have HL2 := hide hl2; have ST2 := hide st2; have b2 := (unhide HV2).chg st2.chg (fun hm => by have := unhide HLT _ hm; omega); have b1 := (unhide HV1).chg st2.chg (fun hm => by have := unhide HLT _ hm; omega); obtain ⟨cu0, cu1, cu2, cu3, cu4, cu5⟩ := ans_at b2; obtain ⟨cr0, cr1, cr2, cr3, cr4, cr5⟩ := ans_at b1; have fu0 := b2.frozen 0; have fu1 := b2.frozen 1; have fu2 := b2.frozen 2; have fu3 := b2.frozen 3; have fu4 := b2.frozen 4; have fu5 := b2.frozen 5; have fr0 := b1.frozen 0; have fr1 := b1.frozen 1; have fr2 := b1.frozen 2; have fr3 := b1.frozen 3; have fr4 := b1.frozen 4; have fr5 := b1.frozen 5; have B1 := hide b1; clear hg2 hl2 st2 b1 b2)
  have kx : Chg [w.heap.size + 1 + 1] w2 ((w2.setCell ⟨w.heap.size + 1 + 1, 1, none⟩ (.int .i64 n)).setCell ⟨w.heap.size + 1 + 1, 0, none⟩ (.int .i64 er)) := ((Chg.refl _ w2).setCell (.inl (by simp)) _).setCell (.inl (by simp)) _
  obtain ⟨rb, rg, rl, rs⟩ := ans_fin hG (unhide HCH) (unhide HSZ) (unhide HLT) (unhide B1) (unhide HG2) (unhide HL2) (unhide ST2) kx ⟨er, n, false, ⟨#[]⟩, (0, 0)⟩
  obtain ⟨q0, q1, q2, q3, q4, q5⟩ := ans_at rb
  simp only [Ans.put] at q0 q1 q2 q3 q4 q5
  exact bodyPost_ret (v := Ans.val ⟨er, n, false, ⟨#[]⟩, (0, 0)⟩) (by simp [results, Try.results9, go_sem, Ans.val, Ans.nil, q0, q1, q2, q3, q4, q5]) rfl ⟨F, rfl, rg, rl, rs⟩

/-- What the document answers to a step. -/
def R.askQ (s : R) (o : LOp) : Ans :=
  if o.kind = 1 then ⟨(s.arrayQ o.x).2.1, (s.arrayQ o.x).1, false, ⟨#[]⟩, (0, 0)⟩
  else if o.kind = 2 then ⟨(s.bytesQ o.s).2.1, (s.bytesQ o.s).1, false, ⟨#[]⟩, (0, 0)⟩
  else if o.kind = 3 then ⟨(s.tableQ o.x).2.1, (s.tableQ o.x).1, false, ⟨#[]⟩, (0, 0)⟩
  else if o.kind = 22 then ⟨(s.joinQ o.x o.y).2.1, (s.joinQ o.x o.y).1, false, ⟨#[]⟩, (0, 0)⟩
  else if o.kind = 23 then ⟨(s.copyQ o.x).2.1, (s.copyQ o.x).1, false, ⟨#[]⟩, (0, 0)⟩
  else if o.kind = 4 then ⟨(s.kindQ o.x).2, (s.kindQ o.x).1, false, ⟨#[]⟩, (0, 0)⟩
  else if o.kind = 5 then ⟨(s.lenQ o.x).2, (s.lenQ o.x).1, false, ⟨#[]⟩, (0, 0)⟩
  else if o.kind = 6 then ⟨(s.textQ o.x).2, 0, false, (s.textQ o.x).1, (0, 0)⟩
  else if o.kind = 7 then ⟨(s.placeQ o.x).2, (s.placeQ o.x).1, false, ⟨#[]⟩, (0, 0)⟩
  else if o.kind = 11 then ⟨(s.sameQ o.x o.y).2, 0, (s.sameQ o.x o.y).1, ⟨#[]⟩, (0, 0)⟩
  else if o.kind = 9 then ⟨(s.getQ o.x o.y).2.1, 0, false, ⟨#[]⟩, (s.getQ o.x o.y).1⟩
  else if o.kind = 12 then ⟨(s.findQ o.x o.k).2.1, 0, false, ⟨#[]⟩, (s.findQ o.x o.k).1⟩
  else if o.kind = 15 then ⟨(s.keyQ o.x o.y).2.1, 0, false, ⟨#[]⟩, (s.keyQ o.x o.y).1⟩
  else if o.kind = 16 then ⟨(s.openQ).2.1, (s.openQ).1, false, ⟨#[]⟩, (0, 0)⟩
  else if o.kind = 18 then ⟨(s.escapeQ o.x).2.1, (s.escapeQ o.x).1, false, ⟨#[]⟩, (0, 0)⟩
  else if o.kind = 19 then ⟨(s.keepQ o.x).2.1, (s.keepQ o.x).1, false, ⟨#[]⟩, (0, 0)⟩
  else if o.kind = 8 then ⟨s.wordsE, s.wordsQ.length, false, ⟨#[]⟩, (0, 0)⟩
  else if o.kind = 10 then ⟨(s.setQ o.x o.y o.v).1, 0, false, ⟨#[]⟩, (0, 0)⟩
  else if o.kind = 13 then ⟨(s.putQ o.x o.k o.v).1, 0, false, ⟨#[]⟩, (0, 0)⟩
  else if o.kind = 14 then ⟨(s.cutQ o.x o.k).1, 0, false, ⟨#[]⟩, (0, 0)⟩
  else if o.kind = 17 then ⟨(s.closeQ o.x).1, 0, false, ⟨#[]⟩, (0, 0)⟩
  else if o.kind = 20 then ⟨(s.releaseQ o.x).1, 0, false, ⟨#[]⟩, (0, 0)⟩
  else if o.kind = 21 then ⟨(s.collectQ).1, 0, false, ⟨#[]⟩, (0, 0)⟩
  else ⟨0, 0, false, ⟨#[]⟩, (0, 0)⟩

set_option maxHeartbeats 2000000 in
theorem ask_any {G : World → Nat → R → List Nat → Prop} (hG : Stays G) {bh : Nat} {s : R} (o : LOp) (hp : PStep G bh s o) : KCallA G 9 bh o s (s.askQ o) (s.stepQ o) := by
  obtain ⟨kind, x, y, k, v, t⟩ := o
  by_cases k1 : kind = 1
  · subst k1
    exact ask_made hG _ (by simp) _ _ (made_array hG x y k v t _ _ _ (hp.array rfl))
  by_cases k2 : kind = 2
  · subst k2
    exact ask_made hG _ (by simp) _ _ (made_bytes hG x y k v t _ _ _ (hp.bytes rfl))
  by_cases k3 : kind = 3
  · subst k3
    exact ask_made hG _ (by simp) _ _ (made_table hG x y k v t _ _ _ (hp.table rfl))
  by_cases k22 : kind = 22
  · subst k22
    exact ask_made hG _ (by simp) _ _ (made_join hG x y k v t _ _ _ (hp.join rfl))
  by_cases k23 : kind = 23
  · subst k23
    exact ask_made hG _ (by simp) _ _ (made_copy hG x y k v t _ _ _ (hp.copy rfl))
  by_cases k4 : kind = 4
  · subst k4
    exact ask_kind hG x y k v t _ _ _ (hp.kind rfl)
  by_cases k5 : kind = 5
  · subst k5
    exact ask_len hG x y k v t _ _ _ (hp.len rfl)
  by_cases k6 : kind = 6
  · subst k6
    exact ask_text hG x y k v t _ _ _ (hp.text rfl)
  by_cases k7 : kind = 7
  · subst k7
    exact ask_place hG x y k v t _ _ _ (hp.place rfl)
  by_cases k9 : kind = 9
  · subst k9
    exact ask_get hG x y k v t _ _ _ (hp.get rfl)
  by_cases k11 : kind = 11
  · subst k11
    exact ask_same hG x y k v t _ _ _ (hp.same rfl)
  by_cases k12 : kind = 12
  · subst k12
    exact ask_find hG x y k v t _ _ _ (hp.find rfl)
  by_cases k15 : kind = 15
  · subst k15
    exact ask_key hG x y k v t _ _ _ (hp.key rfl)
  by_cases k16 : kind = 16
  · subst k16
    exact ask_opens hG x y k v t _ _ _ (hp.opens rfl)
  by_cases k18 : kind = 18
  · subst k18
    exact ask_escape hG x y k v t _ _ _ (hp.escape rfl)
  by_cases k19 : kind = 19
  · subst k19
    exact ask_keep hG x y k v t _ _ _ (hp.keep rfl)
  by_cases k8 : kind = 8
  · subst k8
    exact ask_words hG x y k v t (hp.words rfl)
  by_cases k10 : kind = 10
  · subst k10
    exact ask_changed hG _ (by simp) _ _ (changed_set hG x y k v t _ _ (hp.set rfl))
  by_cases k13 : kind = 13
  · subst k13
    exact ask_changed hG _ (by simp) _ _ (changed_put hG x y k v t _ _ (hp.put rfl))
  by_cases k14 : kind = 14
  · subst k14
    exact ask_changed hG _ (by simp) _ _ (changed_cut hG x y k v t _ _ (hp.cut rfl))
  by_cases k17 : kind = 17
  · subst k17
    exact ask_changed hG _ (by simp) _ _ (changed_close hG x y k v t _ _ (hp.close rfl))
  by_cases k20 : kind = 20
  · subst k20
    exact ask_changed hG _ (by simp) _ _ (changed_release hG x y k v t _ _ (hp.release rfl))
  by_cases k21 : kind = 21
  · subst k21
    exact ask_changed hG _ (by simp) _ _ (changed_collect hG x y k v t _ _ (hp.collect rfl))
  have hk : kind < 1 ∨ 23 < kind := by omega
  have e1 : s.askQ ⟨kind, x, y, k, v, t⟩ = ⟨0, 0, false, ⟨#[]⟩, (0, 0)⟩ := by simp [R.askQ, k1, k2, k3, k4, k5, k6, k7, k8, k9, k10, k11, k12, k13, k14, k15, k16, k17, k18, k19, k20, k21, k22, k23]
  have e2 : s.stepQ ⟨kind, x, y, k, v, t⟩ = s := by simp [R.stepQ, k1, k2, k3, k9, k10, k12, k13, k14, k15, k16, k17, k18, k19, k20, k21, k22, k23]
  rw [e1, e2]
  exact ask_changed hG _ (by rcases hk with h | h <;> simp [h]) _ _ (changed_none hG _ hk)

end Go.Proofs.Ytfoncalkgmeklaa

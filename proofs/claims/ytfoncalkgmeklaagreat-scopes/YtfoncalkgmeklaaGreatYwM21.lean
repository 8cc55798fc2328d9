import Derived.Test.YtfoncalkgmeklaaGreatYwM20
import Derived.Laws.BytesArg

/- Text: the bytes of a text are read out of its words. -/
namespace Go.Proofs.YtfoncalkgmeklaaGreat
open Go.RowKit

theorem infoU8 : (Tryz.prog.info? 5).map (fun i => (i.zero, i.size, i.bytes)) = some (some (.int .u8 0), 1, 1) := by kernel_rfl
def u8s (l : List Int) : List Value := l.map (Value.int .u8)
theorem u8s_one (l : List Int) : ∀ u ∈ u8s l, u.oneCell' = true := by
  intro u hu
  obtain ⟨b, _, rfl⟩ := List.mem_map.1 hu
  rfl
/-- The first i bytes. -/
def bytesTo (t : ByteArray) (i : Nat) : List Int := (List.range i).map (byteAt t)
theorem bytesTo_succ (t : ByteArray) (i : Nat) : bytesTo t (i + 1) = bytesTo t i ++ [byteAt t i] := by simp [bytesTo, List.range_succ]
theorem bytesTo_all (t : ByteArray) : strOfNums (bytesTo t t.size) = t := by
  unfold strOfNums bytesTo
  apply ByteArray.ext
  apply Array.ext
  · simp
  · intro i h1 h2
    simp
    unfold byteAt
    rw [dif_pos (by simpa using h2)]
    simp
    rfl

set_option maxRecDepth 100000 in
set_option maxHeartbeats 2000000 in
theorem memText_any {w : World} {b off : Nat} {ws : List Int} (p : Nat) (t : ByteArray) (hm : MemAt w b off ws) (hl : ws.length ≤ 1000) (hp : p ≤ 1000) (ht : t.size ≤ 64) (hx : wordAt ws (p : Int) = 2 * 65536 + (t.size : Int)) (hw : ∀ m, m < (t.size + 7) / 8 → wordAt ws ((p + 1 + m : Nat) : Int) = packTo t (8 * m) 8) :
    Calls Tryz.prog 88 #[.pointer (some ⟨b, off, none⟩), .int .i64 (p : Int)] w fun e w' => e = .returned (.string t) ∧ Chg [] w w' := by
  obtain ⟨i0, hi0, hz0, hz1, hz2⟩ := info_parts infoU8
  have hsz := memSize_any (p : Int) hm (by omega) hx (by omega)
  rw [show (2 * 65536 + (t.size : Int)) % 65536 = (t.size : Int) by omega] at hsz
  have HSZ := hide hsz; have HM := hide hm; have HW := hide hw; clear hsz hm hx hw
  go_enter Tryz.func88, Tryz.ntmps88
  go_wp2_with fail
  refine (unhide HSZ).mono ?_
  rintro e w1 ⟨rfl, rfl⟩
  go_wp2_with fail
  go_loopw [6, 7] (fun v i wr => ∃ (k g c : Nat), k ≤ t.size ∧ i = .int .i64 k ∧ v = .slice (some ⟨g, 0, none⟩) k c ∧ w1.heap.size ≤ g ∧ wr.ownsRow 0 5 1 (.slice (some ⟨g, 0, none⟩) k c) k (u8s (bytesTo t k)) ∧ Chg [] w1 wr) (fun _ i _ => t.size - (intOf i).toNat)
  case atStart => exact ⟨0, w1.heap.size, 0, Nat.zero_le _, rfl, rfl, Nat.le_refl _, World.ownsRow_lit w1 #[] 0 (Nat.zero_le _) (by unfold maxLen; omega) rfl, (Chg.refl [] w1).alloc _⟩
  case round =>
    obtain ⟨k, g, c, hk, rfl, rfl, hgn, ho, hch⟩ := hrel
    by_cases hlt : k < t.size
    · have zk : (k : Int) < (t.size : Int) := by omega
      have hmr : MemAt wr b off ws := by
        obtain ⟨a, cc, h1, h2⟩ := unhide HM
        exact ⟨a, cc, cell_chg0 hch h1, owns_chg h2 hch (by simp)⟩
      have hwb := wordOfByte_any p k wr (by omega) (by omega)
      have hwd := memWord_any ((p + 1 + k / 8 : Nat) : Int) hmr (by omega)
      rw [unhide HW (k / 8) (by omega), packTo_sum] at hwd
      have hsh := shiftOfByte_any k wr (by omega)
      have hout := byte_out (f := fun j => byteAt t (8 * (k / 8) + j)) (fun j => byteAt_bd t _) (r := k % 8) (by omega)
      rw [show 8 * (k / 8) + k % 8 = k by omega, Int.fdiv_eq_ediv_of_nonneg _ (Int.pow_nonneg (by omega))] at hout
      have hmin : min (8 * (k % 8)) 64 = 8 * (k % 8) := by omega
      have hnew := bytesTo_succ t k
      have hbb := byteAt_bd t k
      generalize wrap64 (sum8 fun j => byteAt t (8 * (k / 8) + j)) = x at *
      generalize 8 * (k % 8) = sh at *
      generalize byteAt t k = y at *
      generalize ((p + 1 + k / 8 : Nat) : Int) = at' at *
      have HO := hide ho; have HC := hide hch; have H1 := hide hwb; have H2 := hide hwd; have H3 := hide hsh; have HNEW := hide hnew
      clear ho hch hwb hwd hsh hnew hmr
      go_wp2_with fail
      refine (unhide H1).mono ?_
      rintro e w2 ⟨rfl, rfl⟩
      go_wp2_with fail
      refine (unhide H2).mono ?_
      rintro e w3 ⟨rfl, rfl⟩
      go_wp2_with fail
      refine (unhide H3).mono ?_
      rintro e w4 ⟨rfl, rfl⟩
      go_wp2_with (at_builtin; go_must (refine wpList_append_gen _ rfl (.tmp 30) (.tmp 33) 148 rfl 5 i0 (.int .u8 0) 1 1 Tryz.underlying148 hi0 hz0 hz1 hz2 rfl (by decide) (.slice (some ⟨g, 0, none⟩) k c) k (u8s (bytesTo t k)) rfl ?c0 (some ⟨w4.heap.size, 0, none⟩) 1 1 (u8s [y]) rfl rfl ?c1 (u8s_one _) ?c2 ?c3 ?_))
      case c0 => exact World.ownsRow.alloc (unhide HO) _
      case c1 => first | exact fun _ => ⟨_, rfl, fun j u hj => by rw [addr_add, Nat.zero_add]; exact (Blk.new w4 (u8s [y]) 5).cell_of hj⟩ | exact fun j u hj => hj
      case c2 => unfold maxLen; omega
      case c3 => omega
      intro va cap w5 ho5 hg5 hat5
      obtain ⟨g5, hg5', hge⟩ : ∃ g5, (Value.slice va (k + 1) cap).ownBlock = some g5 ∧ w1.heap.size ≤ g5 := by
        have hz := (unhide HC).size
        rcases hat5 with h | h
        · exact ⟨g, h, hgn⟩
        · exact ⟨_, h, by first | omega | (simp; omega)⟩
      obtain rfl := owns_some ho5 hg5'
      have hch5 : Chg [] w1 w5 := ((unhide HC).alloc (.cells #[.int .u8 y] 5)).grown hg5 (fun z hz => .inr (by simp [Value.ownBlock] at hz; omega))
      have ho5' : w5.ownsRow 0 5 1 (.slice (some ⟨g5, 0, none⟩) (k + 1) cap) (k + 1) (u8s (bytesTo t (k + 1))) := by
        rw [unhide HNEW]
        simpa [u8s] using ho5
      have HO5 := hide ho5'; have HC5 := hide hch5; clear ho5 ho5' hch5 hg5 hat5 hg5'
      go_wp2
      go_roundw
      case rel =>
        have hr : ∃ (k' g' c' : Nat), k' ≤ t.size ∧ Value.int .i64 ((k : Int) + 1) = .int .i64 k' ∧ Value.slice (some ⟨g5, 0, none⟩) (k + 1) cap = .slice (some ⟨g', 0, none⟩) k' c' ∧ w1.heap.size ≤ g' ∧ w5.ownsRow 0 5 1 (.slice (some ⟨g', 0, none⟩) k' c') k' (u8s (bytesTo t k')) ∧ Chg [] w1 w5 :=
          ⟨k + 1, g5, cap, by omega, by go_num, rfl, hge, unhide HO5, unhide HC5⟩
        first | exact hr | ((repeat apply Exists.intro); exact ⟨hr, rfl⟩)
      case measure => simp [intOf]; omega
    · have hkn : k = t.size := by omega
      subst hkn
      have hcv : (convert 148 9 (.slice (some ⟨g, 0, none⟩) t.size c)).run Tryz.prog wr = .ok (.string t) wr := by
        have hlen : (bytesTo t t.size).length = t.size := by simp [bytesTo]
        have := run_convert_bytes_arg (P := Tryz.prog) wr 148 5 Tryz.underlying148 Tryz.underlying5 g 0 t.size c (bytesTo t t.size) hlen (fun i hi => by
          obtain ⟨g', hg', _, hcc⟩ := owns_at ho (by omega)
          simp only [Option.some.injEq, Addr.mk.injEq] at hg'
          obtain ⟨rfl, _⟩ := hg'
          rw [Nat.zero_add]
          refine hcc i _ ?_
          simp [u8s, List.getD, hlen, hi]) 9 Tryz.underlying9
        rw [this, bytesTo_all]
      have HC := hide hch; clear ho hch
      go_wp2
      go_ret
      exact ⟨rfl, unhide HC⟩
end Go.Proofs.YtfoncalkgmeklaaGreat

/- Bytes and Text of the program. -/
namespace Go.Proofs.YtfoncalkgmeklaaGreat
open Go.RowKit
variable {fx : Fx}

theorem pack_fits (t : ByteArray) {n : Nat} : textTo t n = (List.range n).map fun m => packTo t (8 * m) 8 := by
  induction n with
  | zero => rfl
  | succ n ih => rw [textTo, ih, List.range_succ, List.map_append]; rfl
theorem objWords_bytes (s : R) {n : Nat} {o : RObj} (h : OSh n o) (hk : o.kind = 2) : objWords s o = (2 * 65536 + o.size) :: textWords o.text := by
  obtain ⟨h1, h2⟩ := h.txt hk
  have e1 : fullWords s o = (2 * 65536 + o.size) :: textWords o.text := by
    unfold fullWords headWords
    simp [hk, h2]
  have e2 := objWords_size s h
  have e3 : ((fullWords s o).length : Int) = oWords o := by
    rw [e1]
    unfold textWords oWords wordsOf
    rw [if_neg (by omega), if_pos hk]
    simp only [List.length_cons, textTo_len]
    have := h.kind
    split <;> omega
  unfold objWords
  rw [show (oWords o).toNat - (fullWords s o).length = 0 by omega, e1]
  simp
/-- A text's words, read at its place. -/
theorem word_text {s : R} (ha : RAll s) {i : Nat} (hm : i ∈ s.row) (hk : (s.objOf i).kind = 2) {m : Nat} (h : m < ((s.objOf i).text.size + 7) / 8) : wordAt s.words (placeOf s.objs i s.row + ((1 + m : Nat) : Int)) = packTo (s.objOf i).text (8 * m) 8 := by
  have ho := ha.ok.osh (objOf_mem (ha.ok.inv.rows i hm))
  obtain ⟨h1, h2⟩ := ho.txt hk
  have hw : oWords (s.objOf i) = 1 + ((s.objOf i).text.size + 7) / 8 := by
    unfold oWords wordsOf
    rw [if_neg (by omega), if_pos hk]
    have := ho.kind
    split <;> omega
  rw [word_obj ha hm (by omega), objWords_bytes s ho hk]
  unfold textWords
  rw [pack_fits, Nat.add_comm 1 m]
  simp [List.getD, h]

set_option maxHeartbeats 1000000 in
theorem gripFindKind_any {w : World} {bh : Nat} {s : R} {F : List Nat} (x k : Int) (h : (G fx) w bh s F) (hd : s.dead = false) (ha : RAll s) (hx : x ≤ 9223372036854775807) :
    Calls Tryz.prog 87 #[.pointer (some ⟨bh, 0, none⟩), .int .i64 x, .int .i64 k] w fun e w' =>
      e = .returned (.tuple #[.int .i64 (if (s.look1 x).2 = 0 ∧ (s.objOf (s.look1 x).1).kind = k then placeOf s.objs (s.look1 x).1 s.row else 0), .int .i64 (if (s.look1 x).2 = 0 then (if (s.objOf (s.look1 x).1).kind = k then 0 else 5) else (s.look1 x).2)]) ∧ w' = w := by
  have hf := gripFind_any x h hd ha hx
  obtain ⟨sl, a, c, hmb, rfl, hl, hs⟩ := G_live h hd
  by_cases h0 : (s.look1 x).2 = 0
  · obtain ⟨h1, h2⟩ := look_place ha h0
    obtain ⟨b1, b2, b3, b4⟩ := head_bd (ha.ok.osh (objOf_mem (ha.ok.inv.rows _ h2)))
    have hk := memKind_any (placeOf s.objs (s.look1 x).1 s.row) hmb.mem (by have := words_fit ha; omega) (word_head ha h2) b1 b2
    rw [b3] at hk
    rw [if_pos h0]
    rw [h1, h0] at hf
    generalize placeOf s.objs (s.look1 x).1 s.row = p at *
    generalize (s.objOf (s.look1 x).1).kind = kd at *
    have HF := hide hf; have HK := hide hk; clear hf hk hmb hs h1 h2 b1 b2 b3 b4 h
    by_cases hkk : kd = k
    · rw [if_pos ⟨h0, hkk⟩, if_pos hkk]
      clear h0
      subst hkk
      go_enter Tryz.func87, Tryz.ntmps87
      go_wp2_with fail
      refine (unhide HF).mono ?_
      rintro e w1 ⟨rfl, rfl⟩
      go_wp2_with fail
      refine (unhide HK).mono ?_
      rintro e w2 ⟨rfl, rfl⟩
      go_wp2
      go_ret2
      exact ⟨rfl, rfl⟩
    · rw [if_neg (fun hh => hkk hh.2), if_neg hkk]
      clear h0
      have hne : (kd != k) = true := by simp [hkk]
      clear hkk
      go_enter Tryz.func87, Tryz.ntmps87
      go_wp2_with fail
      refine (unhide HF).mono ?_
      rintro e w1 ⟨rfl, rfl⟩
      go_wp2_with fail
      refine (unhide HK).mono ?_
      rintro e w2 ⟨rfl, rfl⟩
      go_wp2
      go_ret2
      exact ⟨rfl, rfl⟩
  · rw [if_neg h0, if_neg (fun hh => h0 hh.1)]
    generalize (s.look1 x).2 = er at *
    have hne : (er != 0) = true := by simp [h0]
    generalize s.placeE x = p at *
    have HF := hide hf; clear hf hmb hs h0 h
    go_enter Tryz.func87, Tryz.ntmps87
    go_wp2_with fail
    refine (unhide HF).mono ?_
    rintro e w1 ⟨rfl, rfl⟩
    go_wp2
    go_ret2
    exact ⟨rfl, rfl⟩
/-- A call that reads, and makes what nobody holds. -/
theorem pcall_quiet {f : FuncId} {bh : Nat} {rest : List Value} {s : R} {v : Value} {er : Int} (h : ∀ w F, (G fx) w bh s F → Calls Tryz.prog f ((Value.pointer (some ⟨bh, 0, none⟩) :: rest).toArray) w fun e w' => e = .returned (.tuple #[v, .int .i64 er]) ∧ Chg [] w w') : PCall (G fx) f bh rest s v er s := by
  intro w F hg
  refine (h w F hg).mono ?_
  rintro e w' ⟨rfl, hc⟩
  have hg' := stays_G [] w w' bh s F hg hc (by simp)
  exact ⟨F, rfl, hg', G_lt hg', ⟨hc.mono (by simp), fun _ h => .inl h⟩⟩
set_option maxHeartbeats 1000000 in
theorem p_text {bh : Nat} {s : R} (x : Int) (hd : s.dead = false) (ha : RAll s) (hx : x ≤ 9223372036854775807) : PCall (G fx) 43 bh [.int .i64 x] s (.string (s.textQ x).1) (s.textQ x).2 s := by
  refine pcall_quiet fun w F hg => ?_
  have hf := gripFindKind_any x 2 hg hd ha hx
  obtain ⟨sl, a, c, hmb, rfl, hl, hs⟩ := G_live hg hd
  show Calls Tryz.prog 43 #[.pointer (some ⟨bh, 0, none⟩), .int .i64 x] w _
  have bad : ∀ (er : Int), er ≠ 0 → s.textQ x = (⟨#[]⟩, er) → (∃ p, Calls Tryz.prog 87 #[.pointer (some ⟨bh, 0, none⟩), .int .i64 x, .int .i64 2] w fun e w' => e = .returned (.tuple #[.int .i64 p, .int .i64 er]) ∧ w' = w) →
      Calls Tryz.prog 43 #[.pointer (some ⟨bh, 0, none⟩), .int .i64 x] w fun e w' => e = .returned (.tuple #[.string (s.textQ x).1, .int .i64 (s.textQ x).2]) ∧ Chg [] w w' := by
    rintro er h0 hq ⟨p, hc⟩
    rw [hq]
    have hne : (er != 0) = true := by simp [h0]
    have HC := hide hc; clear hc hq h0 hf hmb hs hg
    go_enter Tryz.func43, Tryz.ntmps43
    go_wp2_with fail
    refine (unhide HC).mono ?_
    rintro e w1 ⟨rfl, rfl⟩
    go_wp2
    go_ret2
    exact ⟨rfl, Chg.refl _ _⟩
  by_cases h0 : (s.look1 x).2 = 0
  · by_cases hk : (s.objOf (s.look1 x).1).kind = 2
    · obtain ⟨h1, h2⟩ := look_place ha h0
      have ho := ha.ok.osh (objOf_mem (ha.ok.inv.rows _ h2))
      have hpb := place_bd ha h2
      have hob := (words_bd ho.kind).1
      have hq : s.textQ x = ((s.objOf (s.look1 x).1).text, 0) := by unfold R.textQ; rw [if_pos h0, if_pos hk]
      rw [if_pos ⟨h0, hk⟩, if_pos h0, if_pos hk] at hf
      obtain ⟨p, hp⟩ : ∃ p : Nat, placeOf s.objs (s.look1 x).1 s.row = (p : Int) := ⟨_, (Int.toNat_of_nonneg hpb.1).symm⟩
      have htx := text_fit ha.ok _ (objOf_mem (ha.ok.inv.rows _ h2))
      have hcall := memText_any p (s.objOf (s.look1 x).1).text hmb.mem (by have := words_fit ha; omega) (by omega) htx (by rw [← hp, word_head ha h2, hk, (ho.txt hk).1]) (fun m hm => by
        have := word_text ha h2 hk hm
        rw [hp] at this
        rw [← this]
        congr 1
        omega)
      rw [hq]
      rw [hp] at hf
      generalize (s.objOf (s.look1 x).1).text = t at *
      have HF := hide hf; have HK := hide hcall; clear hf hcall hmb hs h0 h1 h2 hg ho hpb hob hq hp htx bad hk
      go_enter Tryz.func43, Tryz.ntmps43
      go_wp2_with fail
      refine (unhide HF).mono ?_
      rintro e w1 ⟨rfl, rfl⟩
      go_wp2_with fail
      refine (unhide HK).mono ?_
      rintro e w2 ⟨rfl, hc⟩
      have HC := hide hc; clear hc
      go_wp2
      go_ret2
      exact ⟨rfl, unhide HC⟩
    · rw [if_neg (fun hh => hk hh.2), if_pos h0, if_neg hk] at hf
      exact bad 5 (by omega) (by unfold R.textQ; rw [if_pos h0, if_neg hk]) ⟨_, hf⟩
  · rw [if_neg (fun hh => h0 hh.1), if_neg h0] at hf
    exact bad _ h0 (by unfold R.textQ; rw [if_neg h0]) ⟨_, hf⟩

/-- The handle that was just made, found. -/
theorem slotPlace_new {sl : List Slot} {j : Nat} {gv p sc : Int} (hl : sl.length = 32) (hf : slotFree sl = j) (hj : j < 32) (hg : (sl.getD j slot0).given = gv) (hg0 : 0 ≤ gv) : slotPlace (slotAdd sl p sc) (32 * gv + j) = (p, true) := by
  unfold slotPlace slotIs slotAdd
  rw [hf, hg, show (32 * gv + (j : Int)) % 32 = (j : Int) by omega, show (32 * gv + (j : Int)) / 32 = gv by omega, Int.toNat_natCast]
  have e : (sl.set j ⟨true, gv + 1, p, sc⟩).getD j slot0 = ⟨true, gv + 1, p, sc⟩ := by simp [List.getD, hl, hj]
  rw [e]
  simp
  omega
set_option maxHeartbeats 1000000 in
theorem gripFind_raw {w : World} {bh : Nat} {lim : Int} {ws : List Int} {sl : List Slot} {op : Int} {a : Option Addr} {c : Nat} (x p : Int) (h : MB w bh [.bool false] lim ws (holdCells fx sl op) 67 a c) (hl : sl.length = 32) (hx : x ≤ 9223372036854775807) (hs : slotPlace sl x = (p, true)) :
    Calls Tryz.prog 77 #[.pointer (some ⟨bh, 0, none⟩), .int .i64 x] w fun e w' => e = .returned (.tuple #[.int .i64 p, .int .i64 0]) ∧ w' = w := by
  have c0 := h.blk.cell_of (i := 0) rfl
  have hp := slotsPlace_any x (h.slots hl) hx
  rw [hs] at hp
  simp only at hp
  have HP := hide hp; clear hp h hs
  go_enter Tryz.func77, Tryz.ntmps77
  go_wp2_with fail
  refine (unhide HP).mono ?_
  rintro e w1 ⟨rfl, rfl⟩
  go_wp2
  go_ret2
  exact ⟨rfl, rfl⟩
end Go.Proofs.YtfoncalkgmeklaaGreat

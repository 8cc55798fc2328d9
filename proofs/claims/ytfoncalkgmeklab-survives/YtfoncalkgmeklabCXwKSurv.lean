/- An array and a table that hold texts, by handles 0 and 1, beside what is wasted (plain). -/
import Derived.Test.YtfoncalkgmeklabCXwKHold
namespace Go.Proofs.Ytfoncalkgmeklab
open Go.RowKit

def tabV (a : Int) : List Nat → List (Int × Int)
  | [] => []
  | o :: os => (1, a) :: (2, (o : Int)) :: tabV (a + 1) os
theorem tabV_len : ∀ (os : List Nat) (a : Int), (tabV a os).length = 2 * os.length
  | [], _ => rfl
  | o :: os, a => by
    have := tabV_len os (a + 1)
    simp only [tabV, List.length_cons, this]
    omega
theorem tabV_obj : ∀ (os : List Nat) (a : Int), ∀ v ∈ tabV a os, v.1 = 2 → ∃ o ∈ os, v.2 = (o : Int)
  | [], _, v, h, _ => by simp [tabV] at h
  | o :: os, a, v, h, h2 => by
    simp only [tabV, List.mem_cons] at h
    rcases h with rfl | rfl | h
    · simp at h2
    · exact ⟨o, List.mem_cons_self, rfl⟩
    · obtain ⟨o', h3, h4⟩ := tabV_obj os (a + 1) v h h2
      exact ⟨o', List.mem_cons_of_mem _ h3, h4⟩
theorem tabV_pos : ∀ (os : List Nat) (a : Int) (j : Nat), j ≤ os.length → keyPos (1, a + (j : Int)) (tabV a os) = 2 * j
  | [], a, j, h => by
    simp at h
    subst h
    simp [tabV, keyPos]
  | o :: os, a, 0, h => by simp [tabV, keyPos]
  | o :: os, a, j + 1, h => by
    have ih := tabV_pos os (a + 1) j (by simpa using h)
    have hne : ((1, a) : Int × Int) ≠ (1, a + ((j + 1 : Nat) : Int)) := fun e => by
      have := congrArg Prod.snd e
      simp only at this
      omega
    simp only [tabV, keyPos]
    rw [if_neg hne, show a + ((j + 1 : Nat) : Int) = a + 1 + (j : Int) by omega, ih]
    omega
theorem tabV_more : ∀ (os : List Nat) (a : Int) (o : Nat), tabV a (os ++ [o]) = tabV a os ++ [(1, a + (os.length : Int)), (2, (o : Int))]
  | [], a, o => by simp [tabV]
  | p :: os, a, o => by
    have ih := tabV_more os (a + 1) o
    simp only [List.cons_append, tabV, ih, List.length_cons]
    rw [show a + 1 + (os.length : Int) = a + ((os.length + 1 : Nat) : Int) by omega]
theorem tabV_at : ∀ (os : List Nat) (a : Int) (j o : Nat), os[j]? = some o → (tabV a os).getD (2 * j + 1) (0, 0) = (2, (o : Int))
  | [], _, j, o, h => by simp at h
  | p :: os, a, 0, o, h => by simp at h; subst h; simp [tabV, List.getD]
  | p :: os, a, j + 1, o, h => by
    have ih := tabV_at os (a + 1) j o (by simpa using h)
    rw [show 2 * (j + 1) + 1 = (2 * j + 1) + 1 + 1 by omega]
    simpa [tabV, List.getD] using ih
def arrV (n : Nat) (os : List Nat) : List (Int × Int) := os.map (fun (o : Nat) => ((2, (o : Int)) : Int × Int)) ++ List.replicate (n - os.length) (0, 0)
theorem arrV_obj {n : Nat} {os : List Nat} : ∀ v ∈ arrV n os, v.1 = 2 → ∃ o ∈ os, v.2 = (o : Int) := fun v h h2 => by
  rcases List.mem_append.1 h with h | h
  · obtain ⟨o, h3, rfl⟩ := List.mem_map.1 h
    exact ⟨o, h3, rfl⟩
  · have := (List.mem_replicate.1 h).2
    subst this
    simp at h2
theorem arrV_more {n : Nat} {os : List Nat} (h : os.length < n) (o : Nat) : (arrV n os).set os.length (2, (o : Int)) = arrV n (os ++ [o]) := by
  unfold arrV
  obtain ⟨k, hk⟩ : ∃ k, n - os.length = k + 1 := ⟨n - os.length - 1, by omega⟩
  rw [hk, List.set_append_right _ _ (by simp)]
  simp only [List.length_map, Nat.sub_self, List.replicate_succ, List.set_cons_zero, List.map_append, List.map_cons, List.map_nil, List.append_assoc, List.cons_append, List.nil_append, List.length_append, List.length_cons, List.length_nil]
  rw [show n - (os.length + (0 + 1)) = k by omega]
theorem arrV_at {n : Nat} {os : List Nat} {j o : Nat} (h : os[j]? = some o) : (arrV n os).getD j (0, 0) = (2, (o : Int)) := by
  have hlt := (List.getElem?_eq_some_iff.1 h).1
  unfold arrV
  simp only [List.getD]
  rw [List.getElem?_append_left (by simpa using hlt), List.getElem?_map, h]
  rfl
/-- The array and the table, the texts that they hold, and where those are. -/
structure SV (n : Nat) (ts : List ByteArray) (os : List Nat) (objs : List RObj) : Prop where
  n8 : n ≤ 8
  arr : objs[0]? = some ⟨1, (n : Int), arrV n os, ⟨#[]⟩⟩
  tab : objs[1]? = some ⟨3, (n : Int), tabV 0 os, ⟨#[]⟩⟩
  le : os.length ≤ n
  len : ts.length = os.length
  txt : ∀ (j o : Nat), os[j]? = some o → 2 ≤ o ∧ ∃ t, ts[j]? = some t ∧ objs[o]? = some (mkBytes t) ∧ t.size ≤ 24
section
variable {n : Nat} {ts : List ByteArray} {os : List Nat}
theorem SV.two {objs : List RObj} (h : SV n ts os objs) : 2 ≤ objs.length := (List.getElem?_eq_some_iff.1 h.tab).1
theorem SV.more {objs : List RObj} (h : SV n ts os objs) (o : List RObj) : SV n ts os (objs ++ o) := by
  have e : ∀ {i : Nat} {x : RObj}, objs[i]? = some x → (objs ++ o)[i]? = some x := fun {i x} hi => by
    rw [List.getElem?_append_left (List.getElem?_eq_some_iff.1 hi).1]; exact hi
  refine ⟨h.n8, e h.arr, e h.tab, h.le, h.len, fun j p hp => ?_⟩
  obtain ⟨h2, t, ht, ho, hs⟩ := h.txt j p hp
  exact ⟨h2, t, ht, e ho, hs⟩
theorem SV.txtm {objs : List RObj} (h : SV n ts os objs) {o : Nat} (ho : o ∈ os) : 2 ≤ o ∧ ∃ t, objs[o]? = some (mkBytes t) ∧ t.size ≤ 24 := by
  obtain ⟨j, hj⟩ := List.mem_iff_getElem?.1 ho
  obtain ⟨h2, t, _, h3, h4⟩ := h.txt j o hj
  exact ⟨h2, t, h3, h4⟩
theorem SV.held {s : R} (h : SV n ts os s.objs) : Held 2 (0 :: 1 :: os) 83 s := by
  have e : ∀ {i : Nat} {x : RObj}, s.objs[i]? = some x → s.objOf i = x := fun {i x} hi => by unfold R.objOf; simp [List.getD, hi]
  refine ⟨fun k hk => ?_, fun i hi => ?_, fun i hi v hv h2 => ?_, ?_⟩
  · rcases Nat.lt_or_ge k 1 with h0 | h0
    · obtain rfl : k = 0 := by omega
      simp
    · obtain rfl : k = 1 := by omega
      simp
  · simp only [List.mem_cons] at hi
    rcases hi with rfl | rfl | hi
    · exact (List.getElem?_eq_some_iff.1 h.arr).1
    · exact (List.getElem?_eq_some_iff.1 h.tab).1
    · obtain ⟨_, t, h3, _⟩ := h.txtm hi
      exact (List.getElem?_eq_some_iff.1 h3).1
  · simp only [List.mem_cons] at hi
    rcases hi with rfl | rfl | hi
    · rw [e h.arr] at hv
      obtain ⟨o, ho, e2⟩ := arrV_obj v hv h2
      rw [e2]
      simp [ho]
    · rw [e h.tab] at hv
      obtain ⟨o, ho, e2⟩ := tabV_obj os 0 v hv h2
      rw [e2]
      simp [ho]
    · obtain ⟨_, t, h3, _⟩ := h.txtm hi
      rw [e h3] at hv
      simp [mkBytes] at hv
  · have key : ∀ (l : List Nat), (∀ o ∈ l, ∃ t, s.objs[o]? = some (mkBytes t) ∧ t.size ≤ 24) → usedOf s.objs l ≤ 4 * (l.length : Int) := by
      intro l
      induction l with
      | nil => intro _; simp [usedOf]
      | cons x r ih =>
        intro hl
        have h1 := ih (fun o ho => hl o (List.mem_cons_of_mem _ ho))
        obtain ⟨t, ht, hs⟩ := hl x List.mem_cons_self
        have e0 : oWords (s.objs.getD x robj0) = wordsOf 2 (t.size : Int) := by simp [List.getD, ht, oWords, mkBytes]
        have e1 : wordsOf 2 (t.size : Int) ≤ 4 := by
          unfold wordsOf
          rw [if_neg (by omega), if_pos rfl]
          split <;> omega
        simp only [usedOf, List.length_cons, e0]
        push_cast
        omega
    have k1 := key os (fun o ho => (h.txtm ho).2)
    have a0 : oWords (s.objs.getD 0 robj0) = 1 + 2 * (n : Int) := by simp [List.getD, h.arr, oWords, wordsOf]
    have a1 : oWords (s.objs.getD 1 robj0) = 2 + 4 * (n : Int) := by simp [List.getD, h.tab, oWords, wordsOf]
    simp only [usedOf, a0, a1]
    have := h.n8
    have := h.le
    omega
theorem SV.store {objs : List RObj} (h : SV n ts os objs) (hlt : os.length < n) {t : ByteArray} (ht : t.size ≤ 24) :
    SV n (ts ++ [t]) (os ++ [objs.length]) (((objs ++ [mkBytes t]).set 0 ⟨1, (n : Int), arrV n (os ++ [objs.length]), ⟨#[]⟩⟩).set 1 ⟨3, (n : Int), tabV 0 (os ++ [objs.length]), ⟨#[]⟩⟩) := by
  have h2 := h.two
  refine ⟨h.n8, ?_, ?_, by simp; omega, by simp [h.len], fun j o hj => ?_⟩
  · rw [List.getElem?_set_ne (by omega), List.getElem?_set_self (by simp)]
  · rw [List.getElem?_set_self (by simp; omega)]
  · have hset : ∀ {x : RObj}, 2 ≤ o → (objs ++ [mkBytes t])[o]? = some x → (((objs ++ [mkBytes t]).set 0 ⟨1, (n : Int), arrV n (os ++ [objs.length]), ⟨#[]⟩⟩).set 1 ⟨3, (n : Int), tabV 0 (os ++ [objs.length]), ⟨#[]⟩⟩)[o]? = some x := fun {x} ho hx => by
      rw [List.getElem?_set_ne (by omega), List.getElem?_set_ne (by omega)]; exact hx
    rcases Nat.lt_or_ge j os.length with hj2 | hj2
    · rw [List.getElem?_append_left hj2] at hj
      obtain ⟨q2, u, hu, ho, hs⟩ := h.txt j o hj
      refine ⟨q2, u, ?_, hset q2 ?_, hs⟩
      · rw [List.getElem?_append_left (by rw [h.len]; exact hj2)]; exact hu
      · rw [List.getElem?_append_left (List.getElem?_eq_some_iff.1 ho).1]; exact ho
    · rw [List.getElem?_append_right hj2] at hj
      obtain ⟨h0, e0⟩ := List.getElem?_eq_some_iff.1 hj
      simp at h0 e0
      subst e0
      obtain rfl : j = os.length := by omega
      refine ⟨h2, t, ?_, hset h2 (by simp), ht⟩
      rw [← h.len]
      simp
end
theorem look_at {s : R} (hd : s.dead = false) {x : Int} {i : Nat} {g : RHan} (hf : s.find? x = some i) (hg : s.handles[i]? = some g) {k v : Int × Int} {key : Bool} (hb : R.badValue k v key = false) (hs : s.stale k v = false) : s.look x k v key = (g.obj, 0) := by
  unfold R.look
  rw [if_neg (by rw [hd]; simp), if_neg (by rw [hb]; simp), hf]
  simp only
  rw [if_neg (by rw [hs]; simp)]
  simp [List.getD, hg]
theorem HB.setObj {n0 q : Nat} {c : Int} {s : R} (h : HB n0 c q s) {o : Nat} {ob : RObj} (ha : RAll (s.setObj o ob)) : HB n0 c q (s.setObj o ob) := ⟨ha, h.dead, h.limit, h.scopes, h.han, h.slot⟩
theorem HB.handle {n0 q : Nat} {s : R} (h : HB n0 1 q s) (hq : q < 32) (o : Nat) : ∃ x s', s.handle o s.scopes = (x, 0, s') ∧ (RAll s' → HB n0 1 (q + 1) s') ∧ s'.objs = s.objs ∧ s'.handles = s.handles ++ [⟨x, 1, o, true⟩] := by
  obtain ⟨k, hk, hf⟩ := h.free hq
  have hk32 := free_lt hf
  refine ⟨32 * (s.past (k : Int) : Int) + (k : Int), { s with handles := s.handles ++ [⟨32 * (s.past (k : Int) : Int) + (k : Int), s.scopes, o, true⟩] }, by unfold R.handle; rw [hf], fun ha => ⟨ha, h.dead, h.limit, h.scopes, ?_, ?_⟩, rfl, by rw [h.scopes]⟩
  · obtain ⟨t, ht, hb⟩ := h.han
    refine ⟨t ++ [⟨32 * (s.past (k : Int) : Int) + (k : Int), 1, o, true⟩], by show s.handles ++ _ = _; rw [ht, h.scopes, List.append_assoc], fun g hg hl => ?_⟩
    rcases List.mem_append.1 hg with h1 | h1
    · exact hb g h1 hl
    · simp at h1; subst h1; exact ⟨rfl, by omega⟩
  · intro g hg hl
    have hg : g ∈ s.handles ++ [⟨32 * (s.past (k : Int) : Int) + (k : Int), s.scopes, o, true⟩] := hg
    rcases List.mem_append.1 hg with h1 | h1
    · have := h.slot g h1 hl; push_cast; omega
    · simp at h1; subst h1; simp only; push_cast; omega
/-- A text is laid into both, by a handle that ends. -/
theorem sv_store {n : Nat} {ts : List ByteArray} {os : List Nat} {s : R} (h : HB 2 0 2 s) (hs : SV n ts os s.objs) (hlt : os.length < n) {t : ByteArray} (ht : t.size ≤ 24) :
    ∃ x s1 s2 s3 s4 s5, s.openQ = (1, 0, s1) ∧ s1.bytesQ t = (x, 0, s2) ∧ s2.setQ 0 (os.length : Int) (2, x) = (0, s3) ∧ s3.putQ 1 (1, (os.length : Int)) (2, x) = (0, s4) ∧ s4.closeQ 1 = (0, s5) ∧ HB 2 0 2 s5 ∧ SV n (ts ++ [t]) (os ++ [s.objs.length]) s5.objs ∧ (∃ g ∈ s2.handles, g.num = x) := by
  obtain ⟨e1, h1⟩ := h.opens
  have hal := h1.all.bytes t
  have eq : ({ s with scopes := 1 } : R).bytesQ t = ({ s with scopes := 1 } : R).make (mkBytes t) := by
    unfold R.bytesQ
    rw [if_neg (by rw [h1.dead]; simp), if_neg (by omega)]
  rw [eq] at hal
  have hd : Held 2 (0 :: 1 :: os) 83 { s with scopes := 1 } := hs.held.same rfl
  have hw : oWords (mkBytes t) ≤ 4 := by
    show wordsOf 2 (t.size : Int) ≤ 4
    unfold wordsOf
    rw [if_neg (by omega), if_pos rfl]
    split <;> omega
  obtain ⟨x, s2, e2, h2, o2, hh2⟩ := h1.make (by omega) hd (fun g hg hl => by
    obtain ⟨k, hk, rfl⟩ := h.live rfl g hg hl
    exact hd.base k hk) (by omega) hal
  have ho2 : s2.objs = s.objs ++ [mkBytes t] := o2
  have hh2' : s2.handles = s.handles ++ [⟨x, 1, s.objs.length, true⟩] := hh2
  have hg2 : s2.handles[s.handles.length]? = some ⟨x, 1, s.objs.length, true⟩ := by rw [hh2']; simp
  have hf2 : s2.find? x = some s.handles.length := find_live h2.all hg2 rfl
  have hst : s2.stale (0, 0) (2, x) = false := by unfold R.stale; simp [hf2]
  have hl2 : s2.look 0 (0, 0) (2, x) false = (0, 0) := h2.look (x := 0) (by omega) rfl hst
  have htwo := hs.two
  have hs2 := hs.more [mkBytes t]
  rw [← ho2] at hs2
  have ob0 : s2.objOf 0 = ⟨1, (n : Int), arrV n os, ⟨#[]⟩⟩ := by unfold R.objOf; simp [List.getD, hs2.arr]
  have hel : s2.element 0 (os.length : Int) (2, x) = (0, 0) := by
    unfold R.element
    rw [hl2]
    simp only [if_true, ob0]
    rw [if_neg (by omega)]
  have hin2 : s2.inner (2, x) = (2, (s.objs.length : Int)) := by
    unfold R.inner
    simp [hf2, posOf, List.getD, hg2]
  have e3 : s2.setQ 0 (os.length : Int) (2, x) = (0, s2.setObj 0 ⟨1, (n : Int), arrV n (os ++ [s.objs.length]), ⟨#[]⟩⟩) := by
    unfold R.setQ
    rw [hel]
    simp only [if_true, ob0, hin2]
    rw [show ((os.length : Nat) : Int).toNat = os.length from rfl, arrV_more hlt]
  have ha3 := h2.all.set 0 (os.length : Int) (2, x)
  rw [e3] at ha3
  have h3 := h2.setObj ha3
  have ho3 : (s2.setObj 0 ⟨1, (n : Int), arrV n (os ++ [s.objs.length]), ⟨#[]⟩⟩).objs = (s.objs ++ [mkBytes t]).set 0 ⟨1, (n : Int), arrV n (os ++ [s.objs.length]), ⟨#[]⟩⟩ := by
    show s2.objs.set 0 _ = _
    rw [ho2]
  have hh3 : (s2.setObj 0 ⟨1, (n : Int), arrV n (os ++ [s.objs.length]), ⟨#[]⟩⟩).handles = s.handles ++ [⟨x, 1, s.objs.length, true⟩] := hh2'
  generalize s2.setObj 0 ⟨1, (n : Int), arrV n (os ++ [s.objs.length]), ⟨#[]⟩⟩ = s3 at *
  have hg3 : s3.handles[s.handles.length]? = some ⟨x, 1, s.objs.length, true⟩ := by rw [hh3]; simp
  have hf3 : s3.find? x = some s.handles.length := find_live h3.all hg3 rfl
  have hst3 : s3.stale (1, (os.length : Int)) (2, x) = false := by unfold R.stale; simp [hf3]
  have hl3 : s3.look 1 (1, (os.length : Int)) (2, x) true = (1, 0) := h3.look (x := 1) (by omega) rfl hst3
  have ob1 : s3.objOf 1 = ⟨3, (n : Int), tabV 0 os, ⟨#[]⟩⟩ := by
    unfold R.objOf
    have : s3.objs[1]? = some ⟨3, (n : Int), tabV 0 os, ⟨#[]⟩⟩ := by
      rw [ho3, List.getElem?_set_ne (by omega), ← ho2]
      exact hs2.tab
    simp [List.getD, this]
  have hin3 : s3.inner (2, x) = (2, (s.objs.length : Int)) := by
    unfold R.inner
    simp [hf3, posOf, List.getD, hg3]
  have hink : s3.inner (1, (os.length : Int)) = (1, (os.length : Int)) := by simp [R.inner]
  have htb : s3.table 1 (1, (os.length : Int)) (2, x) = (1, 2 * os.length, 0) := by
    unfold R.table
    rw [hl3]
    simp only [if_true, ob1, hink]
    have := tabV_pos os 0 os.length (Nat.le_refl _)
    rw [Int.zero_add] at this
    rw [this]
  have e4 : s3.putQ 1 (1, (os.length : Int)) (2, x) = (0, s3.setObj 1 ⟨3, (n : Int), tabV 0 (os ++ [s.objs.length]), ⟨#[]⟩⟩) := by
    unfold R.putQ
    rw [htb]
    simp only [if_true, ob1, tabV_len, hin3, hink]
    rw [if_neg (by omega), tabV_more, Int.zero_add]
  have ha4 := h3.all.put 1 (1, (os.length : Int)) (2, x)
  rw [e4] at ha4
  have h4 := h3.setObj ha4
  obtain ⟨s5, e5, h5, o5, _⟩ := h4.close (by omega)
  refine ⟨x, _, s2, s3, _, s5, e1, eq.trans e2, e3, e4, e5, h5, ?_, ⟨_, List.mem_of_getElem? hg2, rfl⟩⟩
  rw [o5]
  show SV n (ts ++ [t]) (os ++ [s.objs.length]) (s3.objs.set 1 _)
  rw [ho3]
  exact hs.store hlt ht
/-- A text stands in both, and is one object; its handle ends. -/
theorem sv_there {n : Nat} {ts : List ByteArray} {os : List Nat} {s : R} (h : HB 2 0 2 s) (hs : SV n ts os s.objs) {i : Nat} (hi : i < os.length) :
    ∃ t x y s1 s2 s3 s4, ts[i]? = some t ∧ s.openQ = (1, 0, s1) ∧ s1.getQ 0 (i : Int) = ((2, x), 0, s2) ∧ s2.findQ 1 (1, (i : Int)) = ((2, y), 0, s3) ∧ s3.textQ x = (t, 0) ∧ s3.sameQ x y = (true, 0) ∧ s3.closeQ 1 = (0, s4) ∧ s4.textQ x = (⟨#[]⟩, 4) ∧ HB 2 0 2 s4 ∧ s4.objs = s.objs ∧ (∃ g ∈ s3.handles, g.num = x) ∧ (∃ g ∈ s3.handles, g.num = y) := by
  obtain ⟨o, ho⟩ : ∃ o, os[i]? = some o := ⟨_, List.getElem?_eq_getElem hi⟩
  obtain ⟨_, t, ht, hobj, _⟩ := hs.txt i o ho
  have hle := hs.le
  obtain ⟨e1, h1⟩ := h.opens
  have h1o : ({ s with scopes := 1 } : R).objs = s.objs := rfl
  have h1h : ({ s with scopes := 1 } : R).handles = s.handles := rfl
  generalize ({ s with scopes := 1 } : R) = s1 at *
  have hl1 : s1.look 0 (0, 0) (0, 0) false = (0, 0) := h1.look (x := 0) (by omega) rfl rfl
  have ob0 : s1.objOf 0 = ⟨1, (n : Int), arrV n os, ⟨#[]⟩⟩ := by unfold R.objOf; rw [h1o]; simp [List.getD, hs.arr]
  have hel : s1.element 0 (i : Int) (0, 0) = (0, 0) := by
    unfold R.element
    rw [hl1]
    simp only [if_true, ob0]
    rw [if_neg (by omega)]
  obtain ⟨x, s2, e2, h2, o2, hh2⟩ := h1.handle (by omega) o
  have eg : s1.getQ 0 (i : Int) = ((2, x), 0, s2) := by
    unfold R.getQ
    rw [hel]
    simp only [if_true, ob0]
    rw [show ((i : Nat) : Int).toNat = i from rfl, arrV_at ho]
    unfold R.outer
    simp only [if_true]
    rw [show ((o : Nat) : Int).toNat = o from rfl, e2]
    simp
  have ha2 := h1.all.get 0 (i : Int)
  rw [eg] at ha2
  have h2 := h2 ha2
  have hl2 : s2.look 1 (1, (i : Int)) (0, 0) true = (1, 0) := h2.look (x := 1) (by omega) rfl rfl
  have ob1 : s2.objOf 1 = ⟨3, (n : Int), tabV 0 os, ⟨#[]⟩⟩ := by unfold R.objOf; rw [o2, h1o]; simp [List.getD, hs.tab]
  have hink : s2.inner (1, (i : Int)) = (1, (i : Int)) := by simp [R.inner]
  have htb : s2.table 1 (1, (i : Int)) (0, 0) = (1, 2 * i, 0) := by
    unfold R.table
    rw [hl2]
    simp only [if_true, ob1, hink]
    have := tabV_pos os 0 i (by omega)
    rw [Int.zero_add] at this
    rw [this]
  obtain ⟨y, s3, e3, h3, o3, hh3⟩ := h2.handle (by omega) o
  have ef : s2.findQ 1 (1, (i : Int)) = ((2, y), 0, s3) := by
    unfold R.findQ
    rw [htb]
    simp only [if_true, ob1, tabV_len]
    rw [if_neg (by omega), tabV_at os 0 i o ho]
    unfold R.outer
    simp only [if_true]
    rw [show ((o : Nat) : Int).toNat = o from rfl, e3]
    simp
  have ha3 := h2.all.finds 1 (1, (i : Int))
  rw [ef] at ha3
  have h3 := h3 ha3
  have hh : s3.handles = s.handles ++ [⟨x, 1, o, true⟩] ++ [⟨y, 1, o, true⟩] := by rw [hh3, hh2, h1h]
  have gx : s3.handles[s.handles.length]? = some ⟨x, 1, o, true⟩ := by rw [hh]; simp
  have gy : s3.handles[s.handles.length + 1]? = some ⟨y, 1, o, true⟩ := by
    rw [hh, List.getElem?_append_right (by simp)]
    simp
  have fx : s3.find? x = some s.handles.length := find_live h3.all gx rfl
  have fy : s3.find? y = some (s.handles.length + 1) := find_live h3.all gy rfl
  have oo : s3.objs = s.objs := by rw [o3, o2, h1o]
  have obt : s3.objOf o = mkBytes t := by unfold R.objOf; rw [oo]; simp [List.getD, hobj]
  have lx : s3.look1 x = (o, 0) := look_at h3.dead fx gx rfl rfl
  have ly : s3.look1 y = (o, 0) := look_at h3.dead fy gy rfl rfl
  have lxy : s3.look x (0, 0) (2, y) false = (o, 0) := look_at h3.dead fx gx rfl (by unfold R.stale; simp [fy])
  have etx : s3.textQ x = (t, 0) := by
    unfold R.textQ
    rw [lx]
    simp only [if_true, obt]
    rfl
  have esm : s3.sameQ x y = (true, 0) := by
    unfold R.sameQ R.two
    rw [lxy, ly]
    simp
  obtain ⟨s4, e4, h4, o4, hh4⟩ := h3.close (by omega)
  have gx4 : s4.handles[s.handles.length]? = some ⟨x, 1, o, false⟩ := by
    rw [hh4, List.getElem?_map, gx]
    simp [RHan.shut, RHan.off]
  have fx4 : s4.find? x = none := find_dead h4.all gx4 rfl
  have et4 : s4.textQ x = (⟨#[]⟩, 4) := by
    have : s4.look1 x = (0, 4) := by
      unfold R.look1 R.look
      rw [if_neg (by rw [h4.dead]; simp), if_neg (by simp [R.badValue]), fx4]
    unfold R.textQ
    rw [this]
    simp
  exact ⟨t, x, y, s1, s2, s3, s4, ht, e1, eg, ef, etx, esm, e4, et4, h4, by rw [o4, oo], ⟨_, List.mem_of_getElem? gx, rfl⟩, ⟨_, List.mem_of_getElem? gy, rfl⟩⟩
theorem sv_waste {n : Nat} {ts : List ByteArray} {os : List Nat} {s : R} (h : HB 2 0 2 s) (hs : SV n ts os s.objs) {k : Int} (h0 : 0 ≤ k ∧ k ≤ 16) :
    ∃ x s1 s2 s3, s.openQ = (1, 0, s1) ∧ s1.arrayQ k = (x, 0, s2) ∧ s2.closeQ 1 = (0, s3) ∧ HB 2 0 2 s3 ∧ SV n ts os s3.objs ∧ (∀ m, RUp m s → RUp (m + 1) s3) := by
  obtain ⟨x, s2, s3, e1, e2, e3, hb, ho, _⟩ := h.waste (by omega) hs.held h0 (by omega)
  refine ⟨x, _, s2, s3, e1, e2, e3, hb, by rw [ho]; exact hs.more _, fun m hm => ?_⟩
  have u1 : RUp m ({ s with scopes := 1 } : R) := ⟨hm.objs, hm.handles, hm.made⟩
  have u2 := u1.array k
  rw [e2] at u2
  have u3 : RUp (m + 1) (s2.closeQ 1).2 := by
    unfold R.closeQ
    repeat' split
    · exact u2
    · exact u2
    · exact ⟨u2.objs, by simpa using u2.handles, u2.made⟩
  rw [e3] at u3
  exact u3
theorem sv_start {n : Nat} (hn : n ≤ 8) (fs : List Bool) (hf : fs.length ≤ 64) : ∃ s1 s2, (R.init 512 fs).arrayQ (n : Int) = (0, 0, s1) ∧ s1.tableQ (n : Int) = (1, 0, s2) ∧ HB 2 0 2 s2 ∧ SV n [] [] s2.objs := by
  have p0 : PH 512 [] (R.init 512 fs) := ⟨all_init (by omega) (by omega) hf, rfl, rfl, rfl, rfl, rfl⟩
  have e1 : (R.init 512 fs).arrayQ (n : Int) = (R.init 512 fs).make (mkArray (n : Int)) := by
    unfold R.arrayQ
    rw [if_neg (by simp [R.init]), if_neg (by omega)]
  have ow1 : oWords (mkArray (n : Int)) = 1 + 2 * (n : Int) := rfl
  obtain ⟨q1, q2, q3⟩ := p0.make (o := mkArray (n : Int)) (by simp) (osh_array (by omega)) (fun v hv h2 => by
    have := (List.mem_replicate.1 hv).2
    subst this
    simp at h2) (by rw [ow1]; simp; omega)
  have e1' : (R.init 512 fs).make (mkArray (n : Int)) = (0, 0, ((R.init 512 fs).make (mkArray (n : Int))).2.2) := Prod.ext q1 (Prod.ext q2 rfl)
  generalize ((R.init 512 fs).make (mkArray (n : Int))).2.2 = s1 at *
  have e2 : s1.tableQ (n : Int) = s1.make (mkTable (n : Int)) := by
    unfold R.tableQ
    rw [if_neg (by rw [q3.dead]; simp), if_neg (by omega)]
  have ow2 : oWords (mkTable (n : Int)) = 2 + 4 * (n : Int) := rfl
  obtain ⟨r1, r2, r3⟩ := q3.make (o := mkTable (n : Int)) (by simp) (osh_table (by omega)) (fun v hv => by simp [mkTable] at hv) (by rw [ow2]; simp; omega)
  have e2' : s1.make (mkTable (n : Int)) = (1, 0, (s1.make (mkTable (n : Int))).2.2) := Prod.ext r1 (Prod.ext r2 rfl)
  generalize (s1.make (mkTable (n : Int))).2.2 = s2 at *
  have hh : s2.handles = baseH 2 := by have := r3.handles; simpa [baseH] using this
  have ho : s2.objs = [mkArray (n : Int), mkTable (n : Int)] := by have := r3.objs; simpa using this
  refine ⟨s1, s2, e1.trans e1', e2.trans e2', ⟨r3.all, r3.dead, r3.limit, r3.scopes, ⟨[], by rw [hh]; simp, by simp⟩, ?_⟩, ⟨hn, ?_, ?_, by simp, rfl, by simp⟩⟩
  · intro g hg _
    rw [hh] at hg
    obtain ⟨k, hk, rfl⟩ := baseH_mem hg
    simp only
    omega
  · rw [ho]
    simp [mkArray, arrV]
  · rw [ho]
    simp [mkTable, tabV]
end Go.Proofs.Ytfoncalkgmeklab

/- DevicePlays holds: for every room, list of files and list of calls the call returns true, and each argument reads behind it as it did. No condition. -/
import Derived.Test.YteonkojfnmbpoaaK9
namespace Go.Proofs.Yteonkojfnmbpoaa
open Go.RowKit Go.Lib Go.Maps Go.ChangeMaps Go.Sort

/-- Both devices behind k calls. -/
def PairK (w0 wr : World) (db fb gb rb k : Nat) : Prop :=
  ∃ (d o : Owner) (D E : DataW Unit) (m : DevM) (r : RDm), Dev True wr d db fb gb D E (64 + k) m ∧ RD wr d o rb (64 + k) r ∧ Agree m r ∧ NamesOk r ∧ OnceGone r ∧ (∀ b, o b ≠ none → d b = none) ∧ r.acts ≤ k ∧ Step (fun _ => none) (both d o) w0 wr

theorem appendR_acts (r : RDm) (nm : List UInt8) (bl : Nat) (x : RF) : (appendR r nm bl x).1.acts ≤ r.acts + 1 := by
  unfold appendR
  repeat' split
  all_goals simp only [powerR, didR] <;> omega
theorem removeR_acts (r : RDm) (nm : List UInt8) : (removeR r nm).1.acts ≤ r.acts + 1 := by
  unfold removeR
  repeat' split
  all_goals simp only [powerR, didR] <;> omega
theorem syncR_acts (r : RDm) : (syncR r).1.acts ≤ r.acts + 1 := by
  unfold syncR
  repeat' split
  all_goals simp only [powerR, didR] <;> omega

section
variable {r : RDm}
theorem NamesOk.append (h : NamesOk r) {s : ByteArray} {bs : List UInt8} {x : RF} (bl : Nat) (hx : Grown (fileR r s) bs x) : NamesOk (appendR r s.data.toList bl x).1 := by
  unfold appendR
  split
  · exact h
  split
  · exact h
  rename_i hk
  split
  · exact h
  split
  · exact h
  refine ⟨fun f hf => ?_, h.2⟩
  rcases putL_mem f hf with rfl | hf
  · have hnm : f.nm = s.data.toList := by
      unfold RF.nm
      rw [hx.name]
      unfold fileR
      cases hq : r.L.find? (fun f => f.nm == s.data.toList) with
      | none => rfl
      | some g => exact (find_name hq).1
    rw [hnm]
    simpa using hk
  · exact h.1 f hf
theorem NamesOk.remove (h : NamesOk r) (nm : List UInt8) : NamesOk (removeR r nm).1 := by
  unfold removeR
  split
  · exact h
  split
  · exact h
  split
  · exact h
  rename_i f hf
  refine ⟨fun g hg => h.1 g (List.mem_filter.1 hg).1, fun g hg => ?_⟩
  have hg' : g ∈ (if f.there = true then r.Gone ++ [f] else r.Gone) := hg
  split at hg'
  · rcases List.mem_append.1 hg' with h1 | h1
    · exact h.2 g h1
    · obtain rfl : g = f := by simpa using h1
      exact h.1 g (find_name hf).2
  · exact h.2 g hg'
theorem NamesOk.sync (h : NamesOk r) : NamesOk (syncR r).1 := by
  unfold syncR
  split
  · exact h
  · refine ⟨fun g hg => ?_, fun g hg => by cases hg⟩
    obtain ⟨f, hf, rfl⟩ := List.mem_map.1 (show g ∈ r.L.map syncF from hg)
    exact h.1 f hf
theorem NamesOk.crash (h : NamesOk r) {ks : List (ByteArray × Int)} {L' : List RF} (hc : Crashed ks r L') : NamesOk (crashR r L') := by
  refine ⟨fun f hf => ?_, fun g hg => by cases hg⟩
  have h1 := hc.files f.nm
  rw [hc.rising.find hf] at h1
  cases hg : r.Gone.find? (fun g => g.nm == f.nm) with
  | some g =>
    obtain ⟨e, hm⟩ := find_name hg
    rw [← e]
    exact h.2 g hm
  | none =>
    rw [hg] at h1
    cases hl : r.L.find? (fun g => g.nm == f.nm) with
    | none => rw [hl] at h1; cases h1
    | some g =>
      obtain ⟨e, hm⟩ := find_name hl
      rw [← e]
      exact h.1 g hm
end

theorem BArg.left {w : World} {d o : Owner} {bv : Value} {bs : List UInt8} (h : BArg w (both d o) bv bs) : BArg w d bv bs := by
  rcases h with h | ⟨A, c, h1, h2, h3⟩
  · exact Or.inl h
  · exact Or.inr ⟨A, c, h1, fun e => (both_none.1 (h2 e)).1, h3⟩
theorem KArg.left {w : World} {d o : Owner} {kv : Value} {ks : List (ByteArray × Int)} (h : KArg w (both d o) kv ks) : KArg w d kv ks := by
  rcases h with h | ⟨A, c, h1, h2, h3⟩
  · exact Or.inl h
  · exact Or.inr ⟨A, c, h1, fun e => (both_none.1 (h2 e)).1, h3⟩

section
variable {w0 wr w1 w2 : World} {d d1 o o2 : Owner} {db fb gb rb k n1 n2 : Nat} {D D1 E1 : DataW Unit} {m1 : DevM} {r r2 : RDm}

theorem both_step (hs : Step d d1 wr w1) : Step (both d o) (both d1 o) wr w1 := ⟨hs.fr.mono (fun k hk e => hk (both_none.1 e).1), fun b hb e => both_none.2 ⟨hs.own b hb (both_none.1 e).1, (both_none.1 e).2⟩⟩

theorem PairK.mk' (hd1 : Dev True w1 d1 db fb gb D1 E1 n1 m1) (hdj1 : ∀ b, o b ≠ none → d1 b = none) (hr2 : RD w2 d1 o2 rb n2 r2) (st2 : RStep o o2 w1 w2) (ha : Agree m1 r2) (hnk : NamesOk r2) (hon : OnceGone r2)
    (hn1 : n1 ≤ 64 + k) (hn2 : n2 ≤ 64 + k) (hac : r2.acts ≤ k) (st1 : Step (fun _ => none) (both d1 o) w0 w1) : PairK w0 w2 db fb gb rb k := by
  refine ⟨d1, o2, D1, E1, m1, r2, (hd1.fr st2.fr (fun b hb h2 => hb (hdj1 b h2))).mono hn1, hr2.mono hn2, ha, hnk, hon, fun b hb => ?_, hac, st1.trans (st2.both d1)⟩
  rcases Nat.lt_or_ge b w1.heap.size with h | h
  · exact hdj1 b (by rw [← st2.own b h]; exact hb)
  · exact hd1.old b h

theorem PairK.below (h : PairK w0 wr db fb gb rb k) (hb : Below wr.heap.size wr w1) : PairK w0 w1 db fb gb rb k := by
  obtain ⟨d, o, D, E, m, r, hd, hr, ha, hnk, hon, hdj, hac, hst⟩ := h
  exact ⟨d, o, D, E, m, r, hd.below hb, hr.below hb, ha, hnk, hon, hdj, hac, hst.trans (below_step _ hb)⟩

/-- What a new block is behind a call on the program's device. -/
theorem new_kept {x : Obj} (hd : ∀ b, wr.heap.size ≤ b → d b = none) (hs : Step d d1 (wr.alloc x) w1) : w1.heap[wr.heap.size]? = (wr.alloc x).heap[wr.heap.size]? :=
  hs.fr.block _ (by simp) (by simp [hd])

theorem PairK.append (h : PairK w0 wr db fb gb rb k) (hk : k ≤ 1000) (x : Obj) {s : ByteArray} (hs : s.size ≤ maxLen) {bv : Value} {bs : List UInt8} (hb : BArg w0 (fun _ => none) bv bs) (hbl : bs.length ≤ 20000) :
    Calls Try.prog 9 #[.pointer (some ⟨db, 0, none⟩), .string s, bv] (wr.alloc x) fun e w1 => ∃ c : Int, e = .returned (.int .i64 c) ∧ w1.heap[wr.heap.size]? = (wr.alloc x).heap[wr.heap.size]? ∧
      Hid (Calls Try.prog 10 #[.pointer (some ⟨rb, 0, none⟩), .string s, bv] w1 fun e w2 => e = .returned (.int .i64 c) ∧ Hid (PairK w0 w2 db fb gb rb (k + 1))) := by
  obtain ⟨d, o, D, E, m, r, hd, hr, ha, hnk, hon, hdj, hac, hst⟩ := h
  have hdo := hd.old
  have hbx : Below wr.heap.size wr (wr.alloc x) := (Below.refl _ _).alloc (Nat.le_refl _) _
  replace hst := hst.trans (below_step _ hbx)
  replace hd := hd.below hbx
  replace hr := hr.below hbx
  obtain ⟨e1, e2, _⟩ := ha.count hd (fun f hf => by obtain ⟨_, _, _, h⟩ := hr; exact (h.rowL.good f hf).hl)
  have hma : m.acts ≤ k := by rw [ha.acts]; exact hac
  refine (hd.append (by omega) (by omega) hs (hb.step hst).left).mono ?_
  rintro e w1 ⟨rfl, d1, D1, hd1, st1⟩
  refine ⟨_, rfl, new_kept hdo st1, ?_⟩
  have hr1 := hr.dstep st1 hdj hd1.old
  have hdj1 : ∀ b, o b ≠ none → d1 b = none := fun b hb => st1.own b (hr.lt hb) (hdj b hb)
  refine (hr1.append (by omega) (by omega) hs (hb.step (hst.trans (both_step st1))) (by omega)).mono ?_
  rintro e w2 ⟨y, hg, rfl, o2, hr2, st2⟩
  obtain ⟨ec, ha2⟩ := ha.append e1 e2 hg
  refine ⟨by rw [ec], ?_⟩
  have hac2 := appendR_acts r s.data.toList bs.length y
  exact PairK.mk' hd1 hdj1 hr2 st2 ha2 (hnk.append _ hg) (hon.append _ _ _) (by omega) (by omega) (by omega) (hst.trans (both_step st1))

theorem PairK.remove (h : PairK w0 wr db fb gb rb k) (hk : k ≤ 1000) (x : Obj) {s : ByteArray} (hs : s.size ≤ maxLen) :
    Calls Try.prog 11 #[.pointer (some ⟨db, 0, none⟩), .string s] (wr.alloc x) fun e w1 => ∃ c : Int, e = .returned (.int .i64 c) ∧ w1.heap[wr.heap.size]? = (wr.alloc x).heap[wr.heap.size]? ∧
      Hid (Calls Try.prog 12 #[.pointer (some ⟨rb, 0, none⟩), .string s] w1 fun e w2 => e = .returned (.int .i64 c) ∧ Hid (PairK w0 w2 db fb gb rb (k + 1))) := by
  obtain ⟨d, o, D, E, m, r, hd, hr, ha, hnk, hon, hdj, hac, hst⟩ := h
  have hdo := hd.old
  have hbx : Below wr.heap.size wr (wr.alloc x) := (Below.refl _ _).alloc (Nat.le_refl _) _
  replace hst := hst.trans (below_step _ hbx)
  replace hd := hd.below hbx
  replace hr := hr.below hbx
  have hma : m.acts ≤ k := by rw [ha.acts]; exact hac
  refine (hd.remove (by omega) (by omega) hs).mono ?_
  rintro e w1 ⟨rfl, d1, D1, E1, hd1, st1⟩
  refine ⟨_, rfl, new_kept hdo st1, ?_⟩
  have hr1 := hr.dstep st1 hdj hd1.old
  have hdj1 : ∀ b, o b ≠ none → d1 b = none := fun b hb => st1.own b (hr.lt hb) (hdj b hb)
  refine (hr1.remove (by omega) (by omega) hs).mono ?_
  rintro e w2 ⟨rfl, o2, hr2, st2⟩
  obtain ⟨ec, ha2⟩ := ha.remove s.data.toList
  refine ⟨by rw [ec], ?_⟩
  have hac2 := removeR_acts r s.data.toList
  exact PairK.mk' hd1 hdj1 hr2 st2 ha2 (hnk.remove _) (hon.remove ha _) (by omega) (by omega) (by omega) (hst.trans (both_step st1))

theorem PairK.sync (h : PairK w0 wr db fb gb rb k) (hk : k ≤ 1000) (x : Obj) :
    Calls Try.prog 13 #[.pointer (some ⟨db, 0, none⟩)] (wr.alloc x) fun e w1 => ∃ c : Int, e = .returned (.int .i64 c) ∧ w1.heap[wr.heap.size]? = (wr.alloc x).heap[wr.heap.size]? ∧
      Hid (Calls Try.prog 14 #[.pointer (some ⟨rb, 0, none⟩)] w1 fun e w2 => e = .returned (.int .i64 c) ∧ Hid (PairK w0 w2 db fb gb rb (k + 1))) := by
  obtain ⟨d, o, D, E, m, r, hd, hr, ha, hnk, hon, hdj, hac, hst⟩ := h
  have hdo := hd.old
  have hbx : Below wr.heap.size wr (wr.alloc x) := (Below.refl _ _).alloc (Nat.le_refl _) _
  replace hst := hst.trans (below_step _ hbx)
  replace hd := hd.below hbx
  replace hr := hr.below hbx
  have hma : m.acts ≤ k := by rw [ha.acts]; exact hac
  refine (hd.sync (by omega)).mono ?_
  rintro e w1 ⟨rfl, E1, hd1, st1⟩
  refine ⟨_, rfl, new_kept hdo st1, ?_⟩
  have hr1 := hr.dstep st1 hdj hd1.old
  refine (hr1.sync (by omega) (by omega)).mono ?_
  rintro e w2 ⟨rfl, o2, hr2, st2⟩
  obtain ⟨ec, ha2⟩ := ha.sync
  refine ⟨by rw [ec], ?_⟩
  have hac2 := syncR_acts r
  exact PairK.mk' hd1 hdj hr2 st2 ha2 hnk.sync hon.sync (by omega) (by omega) (by omega) (hst.trans (both_step st1))

theorem PairK.fuse (h : PairK w0 wr db fb gb rb k) (x : Obj) {y : Int} (hy : -9223372036854775808 ≤ y ∧ y ≤ 9223372036854775807) :
    Calls Try.prog 17 #[.pointer (some ⟨db, 0, none⟩), .int .i64 y] (wr.alloc x) fun e w1 => e = .returned (.tuple #[]) ∧ w1.heap[wr.heap.size]? = (wr.alloc x).heap[wr.heap.size]? ∧
      Hid (Calls Try.prog 18 #[.pointer (some ⟨rb, 0, none⟩), .int .i64 y] w1 fun e w2 => e = .returned (.tuple #[]) ∧ Hid (PairK w0 w2 db fb gb rb (k + 1))) := by
  obtain ⟨d, o, D, E, m, r, hd, hr, ha, hnk, hon, hdj, hac, hst⟩ := h
  have hdo := hd.old
  have hbx : Below wr.heap.size wr (wr.alloc x) := (Below.refl _ _).alloc (Nat.le_refl _) _
  replace hst := hst.trans (below_step _ hbx)
  replace hd := hd.below hbx
  replace hr := hr.below hbx
  obtain ⟨hd1, st1⟩ := hd.fused hy
  refine (fuse_calls db y m.fuse (wr.alloc x) (cell_of_blk hd.blk rfl) (frozen_of_blk hd.blk)).mono ?_
  rintro e w1 ⟨rfl, rfl⟩
  refine ⟨rfl, new_kept hdo st1, ?_⟩
  have hr1 := hr.dstep st1 hdj hd1.old
  refine (hr1.fuse hy.2).mono ?_
  rintro e w2 ⟨rfl, hr2, st2⟩
  exact ⟨rfl, PairK.mk' hd1 hdj hr2 st2 (ha.fuse y) hnk (hon.fuse y) (by omega) (by omega) (by show r.acts ≤ _; omega) (hst.trans (both_step st1))⟩

theorem PairK.crash (h : PairK w0 wr db fb gb rb k) (hk : k ≤ 1000) (x : Obj) {ka : Option Addr} {kc : Nat} {ks : List (ByteArray × Int)} (hka : KArg w0 (fun _ => none) (.slice ka ks.length kc) ks) (hkl : ks.length ≤ 1000000000000) :
    Calls Try.prog 19 #[.pointer (some ⟨db, 0, none⟩), .slice ka ks.length kc] (wr.alloc x) fun e w1 => e = .returned (.tuple #[]) ∧ w1.heap[wr.heap.size]? = (wr.alloc x).heap[wr.heap.size]? ∧
      Hid (Calls Try.prog 20 #[.pointer (some ⟨rb, 0, none⟩), .slice ka ks.length kc] w1 fun e w2 => e = .returned (.tuple #[]) ∧ Hid (PairK w0 w2 db fb gb rb (k + 1))) := by
  obtain ⟨d, o, D, E, m, r, hd, hr, ha, hnk, hon, hdj, hac, hst⟩ := h
  have hdo := hd.old
  have hbx : Below wr.heap.size wr (wr.alloc x) := (Below.refl _ _).alloc (Nat.le_refl _) _
  replace hst := hst.trans (below_step _ hbx)
  replace hd := hd.below hbx
  replace hr := hr.below hbx
  refine (hd.crash trivial (by omega) (hka.step hst).left hkl).mono ?_
  rintro e w1 ⟨rfl, d1, D1, hd1, st1⟩
  refine ⟨rfl, new_kept hdo st1, ?_⟩
  have hr1 := hr.dstep st1 hdj hd1.old
  have hdj1 : ∀ b, o b ≠ none → d1 b = none := fun b hb => st1.own b (hr.lt hb) (hdj b hb)
  obtain ⟨la, lc, gv, hr1⟩ := hr1
  refine (hr1.crash (by omega) ha.rising hon (hka.step (hst.trans (both_step st1))) hkl).mono ?_
  rintro e w2 ⟨rfl, L', o2, hc, hr2, st2⟩
  exact ⟨rfl, PairK.mk' hd1 hdj1 hr2 st2 (ha.crash hc) (hnk.crash hc) (OnceGone.crash r L') (by omega) (by omega) (by show r.acts ≤ _; omega) (hst.trans (both_step st1))⟩

theorem PairK.read (h : PairK w0 wr db fb gb rb k) (hk : k ≤ 1000) (x : Obj) {s : ByteArray} (hs : s.size ≤ maxLen) :
    Calls Try.prog 15 #[.pointer (some ⟨db, 0, none⟩), .string s] (wr.alloc x) fun e w1 => ∃ (c : Int) (a : Option Addr) (l cc : Nat), e = .returned (.tuple #[.slice a l cc, .int .i64 c]) ∧ w1.heap[wr.heap.size]? = (wr.alloc x).heap[wr.heap.size]? ∧
      Hid (Calls Try.prog 16 #[.pointer (some ⟨rb, 0, none⟩), .string s] w1 fun e w2 => ∃ (a2 : Option Addr) (c2 : Nat) (xx : ByteArray), e = .returned (.tuple #[.slice a2 l c2, .int .i64 c]) ∧
        (∀ q, (convert 31 9 (.slice a l cc)).run Try.prog (w2.drewN q) = .ok (.string xx) (w2.drewN q)) ∧ (∀ q, (convert 31 9 (.slice a2 l c2)).run Try.prog (w2.drewN q) = .ok (.string xx) (w2.drewN q)) ∧ Hid (PairK w0 w2 db fb gb rb (k + 1))) := by
  obtain ⟨d, o, D, E, m, r, hd, hr, ha, hnk, hon, hdj, hac, hst⟩ := h
  have hdo := hd.old
  have hbx : Below wr.heap.size wr (wr.alloc x) := (Below.refl _ _).alloc (Nat.le_refl _) _
  replace hst := hst.trans (below_step _ hbx)
  replace hd := hd.below hbx
  replace hr := hr.below hbx
  refine (hd.read hs).mono ?_
  rintro e w1 ⟨v, rfl, hrow, hb1⟩
  obtain ⟨a, cc, rfl⟩ := row_slice hrow
  refine ⟨_, a, _, cc, rfl, new_kept hdo (below_step d hb1), ?_⟩
  refine ((hr.below hb1).read (by omega) hs).mono ?_
  rintro e w2 ⟨v2, rfl, hrow2, hb2⟩
  rw [← ha.read] at hrow2
  obtain ⟨a2, c2, rfl⟩ := row_slice hrow2
  have h1 := BArg.of_row (own := fun _ => none) hrow (fun _ _ => rfl)
  have h2 := BArg.of_row (own := fun _ => none) hrow2 (fun _ _ => rfl)
  refine ⟨a2, c2, _, by rw [ha.read], fun q => conv_barg (h1.step (below_step _ (below_drewN (hb2.mono (Nat.le_refl _)) q))), fun q => conv_barg (h2.step (below_step _ (below_drewN (Below.refl _ w2) q))), ?_⟩
  have hb12 : Below (wr.alloc x).heap.size (wr.alloc x) w2 := hb1.trans (hb2.mono hb1.size)
  exact ⟨d, o, D, E, m, r, (hd.below hb12).mono (by omega), (hr.below hb12).mono (by omega), ha, hnk, hon, hdj, by omega, hst.trans (below_step _ hb12)⟩

theorem PairK.same (h : PairK w0 wr db fb gb rb k) (hk : k ≤ 1000) :
    Calls Try.prog 21 #[.pointer (some ⟨db, 0, none⟩), .pointer (some ⟨rb, 0, none⟩)] wr fun e w' => e = .returned (.bool true) ∧ Hid (PairK w0 w' db fb gb rb k) := by
  have h0 := h
  obtain ⟨d, o, D, E, m, r, hd, hr, ha, hnk, hon, hdj, hac, hst⟩ := h
  refine (same_calls hd hr ha hnk (by omega) (by omega)).mono ?_
  rintro e w1 ⟨rfl, hb⟩
  exact ⟨rfl, h0.below hb⟩

/-- What both Ofs leave. -/
theorem PairK.of {w w1 w2 : World} {room : Int} {ls : List LogV} {d : Owner} {db fb gb rb n n' : Nat} {D : DataW Unit} {o : Owner} {L : List RF} (hd : Dev True w1 d db fb gb D (.map []) n (ofM room ls)) (hn : n ≤ 64) (st : Step (fun _ => none) d w w1)
    (hok : OfOk ls) (hr : RD w2 d o rb n' (ofRM room L)) (hL : OfR ls ls.length L) (hn' : n' ≤ 64) (ho : ∀ b, b < w1.heap.size → o b = none) (hb : Below w1.heap.size w1 w2) : PairK w w2 db fb gb rb 0 := by
  refine ⟨d, o, D, _, _, _, (hd.below hb).mono (by omega), hr.mono (by omega), hL.agree, ⟨fun f hf => ?_, fun f hf => by cases hf⟩, List.Pairwise.nil, fun b hb2 => ?_, Int.le_refl 0, ?_⟩
  · have h1 := hL.files f.nm
    rw [hL.rising.find hf] at h1
    cases hq : ofF ls ls.length f.nm with
    | none => rw [hq] at h1; cases h1
    | some y =>
      unfold ofF at hq
      cases hp : (ls.take ls.length).find? (fun p => p.name.data.toList == f.nm) with
      | none => rw [hp] at hq; cases hq
      | some p =>
        have h2 : p.name.data.toList = f.nm := by simpa using List.find?_some hp
        have h3 : p ∈ ls := by have := List.mem_of_find?_eq_some hp; rwa [List.take_length] at this
        obtain ⟨j, hj⟩ := List.getElem?_of_mem h3
        rw [← h2]
        exact (hok.2 j p hj).1
  · rcases Nat.lt_or_ge b w1.heap.size with h | h
    · exact absurd (ho b h) hb2
    · exact hd.old b h
  · have h8 := st.trans (below_step d hb)
    exact ⟨h8.fr, fun b hb3 _ => both_none.2 ⟨h8.own b hb3 rfl, ho b (Nat.lt_of_lt_of_le hb3 st.fr.size)⟩⟩
end

end Go.Proofs.Yteonkojfnmbpoaa
namespace Go.Proofs.Yteonkojfnmbpoaa
open Go.RowKit Go.Lib Go.Maps Go.ChangeMaps Go.Sort

theorem PairK.next {w0 wr : World} {db fb gb rb k : Nat} (h : PairK w0 wr db fb gb rb k) : PairK w0 wr db fb gb rb (k + 1) := by
  obtain ⟨d, o, D, E, m, r, hd, hr, ha, hnk, hon, hdj, hac, hst⟩ := h
  exact ⟨d, o, D, E, m, r, hd.mono (by omega), hr.mono (by omega), ha, hnk, hon, hdj, by omega, hst⟩
theorem PairK.bel {w0 wr : World} {db fb gb rb k : Nat} (h : PairK w0 wr db fb gb rb k) : Below w0.heap.size w0 wr := by
  obtain ⟨d, o, D, E, m, r, hd, hr, ha, hnk, hon, hdj, hac, hst⟩ := h
  exact hst.below

set_option maxHeartbeats 16000000 in
set_option maxRecDepth 100000 in
theorem plays_walk (room : Int) (la : Option Addr) (lc : Nat) (ls : List LogV) (oa : Option Addr) (oc : Nat) (os : List OpV) (w : World) (hr : -9223372036854775808 ≤ room ∧ room ≤ 9223372036854775807)
    (hls : LRow w la ls) (hl : ls.length ≤ maxLen) (hos : ORow w oa os) (hol : os.length ≤ maxLen) :
    Calls Try.prog 3 #[.int .i64 room, .slice la ls.length lc, .slice oa os.length oc] w (Fine w) := by
  have Hls := Lib.hid hls
  have Hos := Lib.hid hos
  have hl' : Hid (ls.length ≤ maxLen) := hl
  have hol' : Hid (os.length ≤ maxLen) := hol
  have hr' : Hid (-9223372036854775808 ≤ room ∧ room ≤ 9223372036854775807) := hr
  have hof := fun w1 (h : LRow w1 la ls) => of_calls room la lc ls w1 hr'.out h hl'.out
  have hrof := fun w1 (h : LRow w1 la ls) (d : Owner) (h2 : ∀ (j : Nat) (p : LogV), ls[j]? = some p → BArg w1 d (.slice p.da p.ds.length p.dc) p.ds) (h3 : ∀ b, w1.heap.size ≤ b → d b = Option.none) => rof_calls room la lc ls w1 d hr'.out h h2 h3 hl'.out
  have hgl := fun w1 (h : LRow w1 la ls) => greatLogs_calls la lc ls w1 h hl'.out
  have hgr := fun w1 (h : ORow w1 oa os) => great2_calls oa oc os w1 h hol'.out
  obtain ⟨l, hll⟩ : ∃ l, ls.length = l := ⟨_, rfl⟩
  obtain ⟨ol, hool⟩ : ∃ ol, os.length = ol := ⟨_, rfl⟩
  rw [hll] at hl hof hgl hrof ⊢
  rw [hool] at hol hgr ⊢
  have Hof := Lib.hid hof
  have Hrof := Lib.hid hrof
  have Hgl := Lib.hid hgl
  have Hgr := Lib.hid hgr
  have Hol := Lib.hid hool
  unfold maxLen at hl hol
  clear hls hos hll hool hof hgl hgr hrof hr
  go_enter Try.func3, Try.ntmps3
  go_wp2_with fail
  refine (head_calls w).mono ?_
  rintro e w1 ⟨rfl, hb1⟩
  have Hb1 := Lib.hid hb1
  clear hb1
  go_wp2_with fail
  refine (Hgr.out w1 (Hos.out.below Hb1.out)).mono ?_
  rintro e w2 ⟨g, rfl, hg300, hb2⟩
  have Hb2 := Lib.hid (Hb1.out.trans (hb2.mono Hb1.out.size))
  have Hg300 := Lib.hid hg300
  clear hb2 hg300
  cases g with
  | true =>
    go_wp2_with fail
    go_ret
    exact Fine.below Hb2.out
  | false =>
  have hol3 : ol ≤ 300 := by have := (Hg300.out rfl).1; first | exact this | (rw [Hol.out] at this; exact this)
  have HBL := Lib.hid (Hg300.out rfl).2
  go_wp2_with fail
  refine (Hgl.out w2 (Hls.out.below Hb2.out)).mono ?_
  rintro e w3 ⟨g, rfl, hb3⟩
  have Hb3 := Lib.hid (Hb2.out.trans (hb3.mono Hb2.out.size))
  clear hb3
  cases g with
  | true =>
    go_wp2_with fail
    go_ret
    exact Fine.below Hb3.out
  | false =>
  have Hls3 := Lib.hid (Hls.out.below Hb3.out)
  go_wp2_with fail
  refine (Hof.out w3 Hls3.out).mono ?_
  rintro e w4 (⟨rfl, hb4, hnok⟩ | ⟨db, fb, gb, d, D, n, rfl, hok, hd, hn, st⟩)
  · have Hnok := Lib.hid hnok
    have Hb4 := Lib.hid (Hb3.out.trans (hb4.mono Hb3.out.size))
    have Hls4 := Lib.hid (Hls3.out.below hb4)
    have HRO := Lib.hid (Hrof.out w4 Hls4.out (fun _ => Option.none) (fun j p hj => by obtain ⟨A, _, hat⟩ := Hls4.out j p hj; exact hat.hb) (fun _ _ => rfl))
    clear hb4 hnok
    go_wp2_with fail
    refine HRO.out.mono ?_
    rintro e w5 (⟨rfl, hb5, _⟩ | ⟨rb, o, L, n', rfl, hok, _⟩)
    · have Hb5 := Lib.hid (Hb4.out.trans (hb5.mono Hb4.out.size))
      clear hb5
      go_wp2_with fail
      go_ret
      exact Fine.below Hb5.out
    · exact absurd hok Hnok.out
  have Hok := Lib.hid hok
  have HD := Lib.hid hd
  have HST := Lib.hid st
  have Hls4 := Lib.hid (Hls3.out.below st.below)
  have HRO := Lib.hid (Hrof.out w4 Hls4.out d (fun j p hj => by obtain ⟨A, _, hat⟩ := Hls3.out j p hj; exact hat.hb.step st) hd.old)
  have Hn := Lib.hid hn
  clear hok hd st hn
  go_wp2_with fail
  refine HRO.out.mono ?_
  rintro e w5 (⟨rfl, _, hno⟩ | ⟨rb, o, L, n', rfl, _, hr2, hL, hn2, ho, hb5⟩)
  · exact absurd Hok.out hno
  have HP0 : Hid (PairK w w5 db fb gb rb 0) := PairK.of HD.out Hn.out ((below_step (fun _ => Option.none) Hb3.out).trans HST.out) Hok.out hr2 hL hn2 ho hb5
  clear hr2 hL hn2 ho hb5 HRO HD HST Hn
  go_wp2_with fail
  go_loopw [10] (fun i wr => ∃ k : Nat, k ≤ ol ∧ i = .int .i64 k ∧ Hid (PairK w wr db fb gb rb k)) (fun i _ => ol - (intOf i).toNat)
  case atStart => exact ⟨0, Nat.zero_le _, rfl, HP0⟩
  case round =>
    obtain ⟨k, hk, rfl, HP⟩ := hrel
    by_cases hlt : k < ol
    · obtain ⟨p, ho⟩ : ∃ p, os[k]? = some p := ⟨_, List.getElem?_eq_getElem (by rw [Hol.out]; exact hlt)⟩
      obtain ⟨A, rfl, hat0⟩ := Hos.out k p ho
      have hat := hat0.below HP.out.bel
      have hbl : p.bs.length ≤ 20000 := (HBL.out p (List.mem_of_getElem? ho)).1
      have hkl2 : p.ks.length ≤ 20000 := (HBL.out p (List.mem_of_getElem? ho)).2
      have hwf : (-9223372036854775808 : Int) ≤ p.n ∧ p.n ≤ 9223372036854775807 := by
        have h8 : (decide ((-9223372036854775808 : Int) ≤ p.n) && decide (p.n ≤ 9223372036854775807)) = true := hat0.hn
        simpa using h8
      have hk0 : (0 : Int) ≤ (k : Int) := by omega
      have hk1 : (k : Int) < (ol : Int) := by omega
      have hk3 : k ≤ 1000 := by omega
      have X1 := Lib.hid (HP.out.append hk3 (.cells #[.int .i64 p.what, .string p.name, .slice p.ba p.bs.length p.bc, .int .i64 p.n, .slice p.ka p.ks.length p.kc] 34) hat0.hname hat0.hb hbl)
      have X2 := Lib.hid (HP.out.remove hk3 (.cells #[.int .i64 p.what, .string p.name, .slice p.ba p.bs.length p.bc, .int .i64 p.n, .slice p.ka p.ks.length p.kc] 34) hat0.hname)
      have X3 := Lib.hid (HP.out.sync hk3 (.cells #[.int .i64 p.what, .string p.name, .slice p.ba p.bs.length p.bc, .int .i64 p.n, .slice p.ka p.ks.length p.kc] 34))
      have X4 := Lib.hid (HP.out.read hk3 (.cells #[.int .i64 p.what, .string p.name, .slice p.ba p.bs.length p.bc, .int .i64 p.n, .slice p.ka p.ks.length p.kc] 34) hat0.hname)
      have X5 := Lib.hid (HP.out.fuse (.cells #[.int .i64 p.what, .string p.name, .slice p.ba p.bs.length p.bc, .int .i64 p.n, .slice p.ka p.ks.length p.kc] 34) hwf)
      have X7 := Lib.hid (HP.out.next.below ((Below.refl _ wr).alloc (Nat.le_refl _) (.cells #[.int .i64 p.what, .string p.name, .slice p.ba p.bs.length p.bc, .int .i64 p.n, .slice p.ka p.ks.length p.kc] 34)))
      have HX : Hid ((wr.alloc (.cells #[.int .i64 p.what, .string p.name, .slice p.ba p.bs.length p.bc, .int .i64 p.n, .slice p.ka p.ks.length p.kc] 34)).heap[wr.heap.size]? = some (.cells #[.int .i64 p.what, .string p.name, .slice p.ba p.bs.length p.bc, .int .i64 p.n, .slice p.ka p.ks.length p.kc] 34 (0, 0))) := heap_alloc_new wr _
      have c0 := hat.c0
      have c1 := hat.c1
      have c2 := hat.c2
      have c3 := hat.c3
      have c4 := hat.c4
      obtain ⟨what, name, ba, bc, bs, on, ka, kc, ks⟩ := p
      dsimp only at c0 c1 c2 c3 c4 X1 X2 X3 X4 X5 X7 HX
      unfold fld at c1 c2 c3 c4
      have hkl : ks.length ≤ 20000 := hkl2
      have HKA := Lib.hid hat0.hk
      dsimp only at HKA
      clear ho hat hat0 hwf hbl hkl2
      by_cases h012 : what = 0 ∨ what = 1 ∨ what = 2
      · rcases h012 with rfl | rfl | rfl
        all_goals
          clear X2 X3 X4 X5 X7 HKA
          go_wp2_with fail
          refine X1.out.mono ?_
          rintro e w6 ⟨c, rfl, hblk, hc2⟩
          have hB := hblk.trans HX.out
          have y1 : w6.cell? ⟨wr.heap.size, 1, none⟩ = some (.string name) := cell_of_blk hB rfl
          have y2 : w6.cell? ⟨wr.heap.size, 2, none⟩ = some (.slice ba bs.length bc) := cell_of_blk hB rfl
          have y3 : w6.cell? ⟨wr.heap.size, 3, none⟩ = some (.int .i64 on) := cell_of_blk hB rfl
          have y4 : w6.cell? ⟨wr.heap.size, 4, none⟩ = some (.slice ka ks.length kc) := cell_of_blk hB rfl
          clear hB hblk HX c0 c1 c2 c3 c4 X1
          go_wp2_with fail
          refine hc2.out.mono ?_
          rintro e w7 ⟨rfl, hp2⟩
          clear hc2 y1 y2 y3 y4
          go_wp2_with fail
          refine (hp2.out.same (by omega)).mono ?_
          rintro e w8 ⟨rfl, hp3⟩
          go_wp2_with fail
          go_roundw
          case rel => exact ⟨k + 1, by omega, by go_num, hp3⟩
          case measure => simp [intOf]; omega
      by_cases h3 : what = 3
      · subst h3
        clear X1 X3 X4 X5 X7 HKA h012
        go_wp2_with fail
        refine X2.out.mono ?_
        rintro e w6 ⟨c, rfl, hblk, hc2⟩
        have hB := hblk.trans HX.out
        have y1 : w6.cell? ⟨wr.heap.size, 1, none⟩ = some (.string name) := cell_of_blk hB rfl
        have y2 : w6.cell? ⟨wr.heap.size, 2, none⟩ = some (.slice ba bs.length bc) := cell_of_blk hB rfl
        have y3 : w6.cell? ⟨wr.heap.size, 3, none⟩ = some (.int .i64 on) := cell_of_blk hB rfl
        have y4 : w6.cell? ⟨wr.heap.size, 4, none⟩ = some (.slice ka ks.length kc) := cell_of_blk hB rfl
        clear hB hblk HX c0 c1 c2 c3 c4 X2
        go_wp2_with fail
        refine hc2.out.mono ?_
        rintro e w7 ⟨rfl, hp2⟩
        clear hc2 y1 y2 y3 y4
        go_wp2_with fail
        refine (hp2.out.same (by omega)).mono ?_
        rintro e w8 ⟨rfl, hp3⟩
        go_wp2_with fail
        go_roundw
        case rel => exact ⟨k + 1, by omega, by go_num, hp3⟩
        case measure => simp [intOf]; omega
      by_cases h4 : what = 4
      · subst h4
        clear X1 X2 X4 X5 X7 HKA h012 h3
        go_wp2_with fail
        refine X3.out.mono ?_
        rintro e w6 ⟨c, rfl, hblk, hc2⟩
        have hB := hblk.trans HX.out
        have y1 : w6.cell? ⟨wr.heap.size, 1, none⟩ = some (.string name) := cell_of_blk hB rfl
        have y2 : w6.cell? ⟨wr.heap.size, 2, none⟩ = some (.slice ba bs.length bc) := cell_of_blk hB rfl
        have y3 : w6.cell? ⟨wr.heap.size, 3, none⟩ = some (.int .i64 on) := cell_of_blk hB rfl
        have y4 : w6.cell? ⟨wr.heap.size, 4, none⟩ = some (.slice ka ks.length kc) := cell_of_blk hB rfl
        clear hB hblk HX c0 c1 c2 c3 c4 X3
        go_wp2_with fail
        refine hc2.out.mono ?_
        rintro e w7 ⟨rfl, hp2⟩
        clear hc2 y1 y2 y3 y4
        go_wp2_with fail
        refine (hp2.out.same (by omega)).mono ?_
        rintro e w8 ⟨rfl, hp3⟩
        go_wp2_with fail
        go_roundw
        case rel => exact ⟨k + 1, by omega, by go_num, hp3⟩
        case measure => simp [intOf]; omega
      by_cases h5 : what = 5
      · subst h5
        clear X1 X2 X3 X5 X7 HKA h012 h3 h4
        go_wp2_with fail
        refine X4.out.mono ?_
        rintro e w6 ⟨c, ra, rl, rc, rfl, hblk, hc2⟩
        have hB := hblk.trans HX.out
        have y1 : w6.cell? ⟨wr.heap.size, 1, none⟩ = some (.string name) := cell_of_blk hB rfl
        have y2 : w6.cell? ⟨wr.heap.size, 2, none⟩ = some (.slice ba bs.length bc) := cell_of_blk hB rfl
        have y3 : w6.cell? ⟨wr.heap.size, 3, none⟩ = some (.int .i64 on) := cell_of_blk hB rfl
        have y4 : w6.cell? ⟨wr.heap.size, 4, none⟩ = some (.slice ka ks.length kc) := cell_of_blk hB rfl
        clear hB hblk HX c0 c1 c2 c3 c4 X4
        go_wp2_with fail
        refine hc2.out.mono ?_
        rintro e w7 ⟨a2, c2, xx, rfl, v1, v2, hp2⟩
        have v1' := v1 0
        have v2' := v2 0
        change (convert 31 9 (.slice ra rl rc)).run Try.prog w7 = .ok (.string xx) w7 at v1'
        change (convert 31 9 (.slice a2 rl c2)).run Try.prog w7 = .ok (.string xx) w7 at v2'
        clear hc2 y1 y2 y3 y4
        go_wp2_with fail
        refine (hp2.out.same (by omega)).mono ?_
        rintro e w8 ⟨rfl, hp3⟩
        go_wp2_with fail
        go_roundw
        case rel => exact ⟨k + 1, by omega, by go_num, hp3⟩
        case measure => simp [intOf]; omega
      by_cases h6 : what = 6
      · subst h6
        clear X1 X2 X3 X4 X7 HKA h012 h3 h4 h5
        go_wp2_with fail
        refine X5.out.mono ?_
        rintro e w6 ⟨rfl, hblk, hc2⟩
        have hB := hblk.trans HX.out
        have y1 : w6.cell? ⟨wr.heap.size, 1, none⟩ = some (.string name) := cell_of_blk hB rfl
        have y2 : w6.cell? ⟨wr.heap.size, 2, none⟩ = some (.slice ba bs.length bc) := cell_of_blk hB rfl
        have y3 : w6.cell? ⟨wr.heap.size, 3, none⟩ = some (.int .i64 on) := cell_of_blk hB rfl
        have y4 : w6.cell? ⟨wr.heap.size, 4, none⟩ = some (.slice ka ks.length kc) := cell_of_blk hB rfl
        clear hB hblk HX c0 c1 c2 c3 c4 X5
        go_wp2_with fail
        refine hc2.out.mono ?_
        rintro e w7 ⟨rfl, hp2⟩
        clear hc2 y1 y2 y3 y4
        go_wp2_with fail
        refine (hp2.out.same (by omega)).mono ?_
        rintro e w8 ⟨rfl, hp3⟩
        go_wp2_with fail
        go_roundw
        case rel => exact ⟨k + 1, by omega, by go_num, hp3⟩
        case measure => simp [intOf]; omega
      by_cases h7 : what = 7
      · subst h7
        have X6 := Lib.hid (HP.out.crash hk3 (.cells #[.int .i64 7, .string name, .slice ba bs.length bc, .int .i64 on, .slice ka ks.length kc] 34) HKA.out (by omega))
        clear X1 X2 X3 X4 X5 X7 HKA h012 h3 h4 h5 h6
        go_wp2_with fail
        refine X6.out.mono ?_
        rintro e w6 ⟨rfl, hblk, hc2⟩
        have hB := hblk.trans HX.out
        have y1 : w6.cell? ⟨wr.heap.size, 1, none⟩ = some (.string name) := cell_of_blk hB rfl
        have y2 : w6.cell? ⟨wr.heap.size, 2, none⟩ = some (.slice ba bs.length bc) := cell_of_blk hB rfl
        have y3 : w6.cell? ⟨wr.heap.size, 3, none⟩ = some (.int .i64 on) := cell_of_blk hB rfl
        have y4 : w6.cell? ⟨wr.heap.size, 4, none⟩ = some (.slice ka ks.length kc) := cell_of_blk hB rfl
        clear hB hblk HX c0 c1 c2 c3 c4 X6
        go_wp2_with fail
        refine hc2.out.mono ?_
        rintro e w7 ⟨rfl, hp2⟩
        clear hc2 y1 y2 y3 y4
        go_wp2_with fail
        refine (hp2.out.same (by omega)).mono ?_
        rintro e w8 ⟨rfl, hp3⟩
        go_wp2_with fail
        go_roundw
        case rel => exact ⟨k + 1, by omega, by go_num, hp3⟩
        case measure => simp [intOf]; omega
      have t0 : (what == 0) = false := by rw [beq_eq_false_iff_ne]; omega
      have t1 : (what == 1) = false := by rw [beq_eq_false_iff_ne]; omega
      have t2 : (what == 2) = false := by rw [beq_eq_false_iff_ne]; omega
      have t3 : (what == 3) = false := by rw [beq_eq_false_iff_ne]; omega
      have t4 : (what == 4) = false := by rw [beq_eq_false_iff_ne]; omega
      have t5 : (what == 5) = false := by rw [beq_eq_false_iff_ne]; omega
      have t6 : (what == 6) = false := by rw [beq_eq_false_iff_ne]; omega
      have t7 : (what == 7) = false := by rw [beq_eq_false_iff_ne]; omega
      clear X1 X2 X3 X4 X5 HKA HX h012 h3 h4 h5 h6 h7
      have hp2 : Hid (PairK w (wr.alloc (.cells #[.int .i64 what, .string name, .slice ba bs.length bc, .int .i64 on, .slice ka ks.length kc] 34)) db fb gb rb (k + 1)) := X7
      clear X7
      go_wp2_with fail
      refine (hp2.out.same (by omega)).mono ?_
      rintro e w8 ⟨rfl, hp3⟩
      go_wp2_with fail
      go_roundw
      case rel => exact ⟨k + 1, by omega, by go_num, hp3⟩
      case measure => simp [intOf]; omega
    · go_wp2_with fail
      go_ret
      exact Fine.below HP.out.bel

end Go.Proofs.Yteonkojfnmbpoaa
namespace Go.Proofs.Yteonkojfnmbpoaa
open Go.ChangeShapes Go.WideShapes Go.ChangeAt Go.RowKit Go.Lib Go.Deep
open Go.ChangeMaps (open_string shut_string)

namespace devicePlays
set_option maxRecDepth 100000 in
theorem lifted (os : Os) (started : os.Started) (H : Type) (enc : TypeId × Value → H) :
    ReturnsInHanded {} Try.checked os 3 .any (Rows.devicePlaysSpec.pre6 enc Try.prog Try.f3 Rows.devicePlaysRow.domain false) (Rows.devicePlaysSpec.post enc Try.prog Try.f3 false true false false) := by
  refine returnsInHanded_of_change (C := Try.checked) own_ started (by kernel_rfl) Try.func3
    (ChangeSpec.witness6 (enc := enc) (C := Try.checked) false ⟨#[], #[.int .i64 0, .slice none 0 0, .slice none 0 0], []⟩ 8 (by kernel_rfl) (by kernel_rfl) (by kernel_rfl) (by kernel_rfl)) ?_
  intro W base args ds gs before hval0 hW _ _
  have hval : ∀ (j : Nat) t v, Try.f3.params[j]? = some t → args[j]? = some v → Value.okWide Try.prog W .any base t v := hval0
  have hW' := hW
  obtain ⟨p, q, hA0, hV, rfl, _, _⟩ := hW
  have hA : DataW.TrodAll enc Try.prog W 0 (fun _ => true) true Try.f3.params.toList args.toList ds p := hA0
  rw [Try.params3] at hA hval
  obtain ⟨v0, vs0, d0, ds0, p0, q0, hargs, rfl, rfl, h0, r0⟩ := trodAll_cons hA
  obtain ⟨v1, vs1, d1, ds1, p1, q1, rfl, rfl, rfl, h1, r1⟩ := trodAll_cons r0
  obtain ⟨v2, vs2, d2, ds2, p2, q2, rfl, rfl, rfl, h2, r2⟩ := trodAll_cons r1
  obtain ⟨rfl, rfl, rfl⟩ := trodAll_nil r2
  obtain rfl : args = #[v0, v1, v2] := by cases args; simp_all
  obtain ⟨rfl, rfl⟩ := trodVars_none hV
  have lt0 : ∀ x ∈ p0, x.block < W.heap.size := by obtain ⟨m, hm⟩ := h0; exact DataW.trod_lt m _ _ _ hm
  have lt1 : ∀ x ∈ p1, x.block < W.heap.size := by obtain ⟨m, hm⟩ := h1; exact DataW.trod_lt m _ _ _ hm
  have lt2 : ∀ x ∈ p2, x.block < W.heap.size := by obtain ⟨m, hm⟩ := h2; exact DataW.trod_lt m _ _ _ hm
  have k0 := h0
  have k1 := h1
  have k2 := h2
  obtain ⟨a1, l1, c1, rfl⟩ := okWide_slice Try.underlying22 (hval 1 22 v1 rfl rfl)
  obtain ⟨a2, l2, c2, rfl⟩ := okWide_slice Try.underlying23 (hval 2 23 v2 rfl rfl)
  obtain ⟨n0, rfl, _, _, hw0⟩ := open_int Try.underlying3 (hval 0 3 v0 rfl rfl) h0
  have hn0 : (-9223372036854775808 : Int) ≤ n0 ∧ n0 ≤ 9223372036854775807 := by
    have h8 : (decide ((-9223372036854775808 : Int) ≤ n0) && decide (n0 ≤ 9223372036854775807)) = true := hw0
    simpa using h8
  obtain ⟨m1, hm1⟩ := h1
  obtain ⟨ls1, rfl, hll1, hls1⟩ := open_logs hm1
  obtain ⟨m2, hm2⟩ := h2
  obtain ⟨os2, rfl, hol2, hos2⟩ := open_ops hm2
  clear hA0 hval0
  refine (plays_walk n0 a1 c1 ls1 a2 c2 os2 W hn0 hls1 hll1 hos2 hol2).mono fun e W' ⟨he, bel⟩ => ?_
  subst he
  exact ⟨_, rfl, _, _, _, [], _, [], hW', trodAll_mk1 (shut_bool Try.underlying4 _), (trodAll_cons_mk (Below.trod laidOut (by kernel_rfl) (of_decide_eq_true (by kernel_rfl)) k0 bel lt0) (trodAll_cons_mk (Below.trod laidOut (by kernel_rfl) (of_decide_eq_true (by kernel_rfl)) k1 bel lt1) (trodAll_cons_mk (Below.trod laidOut (by kernel_rfl) (of_decide_eq_true (by kernel_rfl)) k2 bel lt2) trodAll_mk0))), rfl, bel.frame _, fun h => by cases h⟩

theorem holds : Rows.DevicePlaysSaid :=
  OpenClaim.holds_of_wide 3 Try.f3 rfl rfl rfl rfl rfl rfl rfl ⟨rfl, rfl, rfl, rfl, rfl⟩ rfl rfl rfl rfl rfl (by kernel_rfl) Try.func3 (by kernel_rfl)
    (of_decide_eq_true (by kernel_rfl)) (by unfold Func.isWrapper; first | (rw [if_pos (by decide +kernel)]; kernel_rfl) | (rw [if_neg (by decide +kernel)]; exact ⟨rfl, rfl⟩))
    (fun os started H enc _ => lifted os started H enc)
end devicePlays
end Go.Proofs.Yteonkojfnmbpoaa

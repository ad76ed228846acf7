/- What Open finds of a journal's device, in plain words: it hangs on the files' bytes alone. | What leaving files and Open do, in plain words, with the power on. | A journal to which records are added, in plain words: what its device has then, and what Open finds of it. | A journal to which records are added, in plain words: a crash, and what Add does. -/
import Derived.Test.YtdpbnacabinlgaaGreatDoorMC
namespace Go.Proofs.YtdpbnacabinlgaaGreatDoor
open Go.RowKit Go.Lib Go.Maps Go.ChangeMaps Go.Sort Go.Shelf

/-- The record of a picture's file, if it is one. -/
def picOf (b : List UInt8) : Option (List UInt8) := if (cutB b).length = 1 ∧ cutN b = b.length then (cutB b).head? else none

theorem picOf_nil : picOf [] = none := by unfold picOf; rw [cutB_nil]; rfl

theorem stepPic_of (r : RDm) (p : Nat × List UInt8) (x : I63) : stepPic r p x = if x.1 < p.1 then p else match picOf (bytesR r (numName snapM x.1)) with | some rec => (x.1, rec) | none => p := by
  unfold stepPic picOf
  by_cases h : x.1 < p.1
  · rw [if_pos h, if_pos h]
  · rw [if_neg h, if_neg h]
    cases hc : cutB (bytesR r (numName snapM x.1)) with
    | nil => simp
    | cons a l =>
      cases l with
      | nil =>
        by_cases h2 : cutN (bytesR r (numName snapM x.1)) = (bytesR r (numName snapM x.1)).length
        · simp [h2]
        · simp [h2]
      | cons b l => simp

/-- What is folded: none of those is one, or the greatest. -/
def PicIs (V : Nat → Option (List UInt8)) (xs : List Nat) (p : Nat × List UInt8) : Prop := (p = (0, []) ∧ ∀ n ∈ xs, V n = none) ∨ (p.1 ∈ xs ∧ V p.1 = some p.2 ∧ ∀ n ∈ xs, V n ≠ none → n ≤ p.1)

theorem PicIs.step {V : Nat → Option (List UInt8)} {xs : List Nat} {p : Nat × List UInt8} (h : PicIs V xs p) {x : Nat} (hx : 1 ≤ x) : PicIs V (xs ++ [x]) (if x < p.1 then p else match V x with | some rec => (x, rec) | none => p) := by
  by_cases hlt : x < p.1
  · rw [if_pos hlt]
    rcases h with ⟨rfl, _⟩ | ⟨h1, h2, h3⟩
    · cases hlt
    · refine .inr ⟨List.mem_append_left _ h1, h2, fun n hn hv => ?_⟩
      rcases List.mem_append.1 hn with hn | hn
      · exact h3 n hn hv
      · obtain rfl : n = x := by simpa using hn
        omega
  · rw [if_neg hlt]
    cases hv : V x with
    | none =>
      rcases h with ⟨rfl, h1⟩ | ⟨h1, h2, h3⟩
      · refine .inl ⟨rfl, fun n hn => ?_⟩
        rcases List.mem_append.1 hn with hn | hn
        · exact h1 n hn
        · obtain rfl : n = x := by simpa using hn
          exact hv
      · refine .inr ⟨List.mem_append_left _ h1, h2, fun n hn hw => ?_⟩
        rcases List.mem_append.1 hn with hn | hn
        · exact h3 n hn hw
        · obtain rfl : n = x := by simpa using hn
          exact absurd hv hw
    | some rec =>
      refine .inr ⟨by simp, hv, fun n hn hw => ?_⟩
      show n ≤ x
      rcases List.mem_append.1 hn with hn | hn
      · rcases h with ⟨rfl, h1⟩ | ⟨h1, h2, h3⟩
        · exact absurd (h1 n hn) hw
        · have := h3 n hn hw
          omega
      · obtain rfl : n = x := by simpa using hn
        exact Nat.le_refl _

theorem PicIs.unique {V V' : Nat → Option (List UInt8)} {xs xs' : List Nat} {p p' : Nat × List UInt8} (h : PicIs V xs p) (h' : PicIs V' xs' p') (hV : ∀ n, n ∈ xs → V n ≠ none → n ∈ xs' ∧ V' n = V n) (hV' : ∀ n, n ∈ xs' → V' n ≠ none → n ∈ xs ∧ V n = V' n) : p = p' := by
  rcases h with ⟨rfl, h1⟩ | ⟨h1, h2, h3⟩
  · rcases h' with ⟨rfl, _⟩ | ⟨k1, k2, _⟩
    · rfl
    · obtain ⟨a, b⟩ := hV' p'.1 k1 (by rw [k2]; simp)
      rw [h1 _ a, k2] at b
      cases b
  · obtain ⟨a, b⟩ := hV p.1 h1 (by rw [h2]; simp)
    rcases h' with ⟨rfl, k1⟩ | ⟨k1, k2, k3⟩
    · rw [k1 _ a, h2] at b
      cases b
    · obtain ⟨c, d⟩ := hV' p'.1 k1 (by rw [k2]; simp)
      have e1 := k3 p.1 a (by rw [b, h2]; simp)
      have e2 := h3 p'.1 c (by rw [d, k2]; simp)
      have e3 : p.1 = p'.1 := Nat.le_antisymm e1 e2
      have e4 : p.2 = p'.2 := by
        rw [e3, d, k2] at h2
        injection h2 with h2
        exact h2.symm
      exact Prod.ext e3 e4

/-- The record of a picture's number. -/
def picN (r : RDm) (n : Nat) : Option (List UInt8) := picOf (bytesR r (numName snapM n))

theorem picL_is (r : RDm) : ∀ (xs : List I63) (ys : List Nat) (p : Nat × List UInt8), PicIs (picN r) ys p → PicIs (picN r) (ys ++ xs.map (·.1)) (xs.foldl (stepPic r) p)
  | [], ys, p, h => by simpa using h
  | x :: xs, ys, p, h => by
    have h1 := h.step x.2.1
    have h2 := picL_is r xs (ys ++ [x.1]) _ h1
    rw [List.foldl_cons, stepPic_of]
    simpa [picN] using h2

theorem lastP_is (r : RDm) : PicIs (picN r) ((numsL r snapM).map (·.1)) (lastP r) := by
  have := picL_is r (numsL r snapM) [] (0, []) (.inl ⟨rfl, fun n hn => by cases hn⟩)
  simpa [lastP, picL] using this

theorem numsL_mem {r : RDm} {mark : List UInt8} {n : Nat} : n ∈ (numsL r mark).map (·.1) ↔ 1 ≤ n ∧ n ≤ 9223372036854775807 ∧ (look r (numName mark n)).isSome = true := by
  rw [look_mem]
  unfold numsL
  simp only [List.mem_map, List.mem_filterMap]
  constructor
  · rintro ⟨x, ⟨nm, ⟨f, hf, rfl⟩, hx⟩, rfl⟩
    exact ⟨x.2.1, x.2.2, f, hf, (numI_some hx).2⟩
  · rintro ⟨h1, h2, f, hf, hnm⟩
    refine ⟨⟨n, h1, h2⟩, ⟨f.nm, ⟨f, hf, rfl⟩, ?_⟩, rfl⟩
    rw [hnm]
    unfold numI
    have h3 := numOf_name (mark := mark) h1 (by omega)
    rw [dif_pos (by rw [h3]; omega)]
    congr 1
    apply Subtype.ext
    show (numOf mark (numName mark n)).toNat = n
    rw [h3]
    omega

theorem pow_digits : ∀ n : Nat, n < 10 ^ (decDigits n).length := by
  intro n
  induction n using Nat.strongRecOn with
  | ind n ih =>
    rw [decDigits]
    split
    · show n < 10 ^ 1
      omega
    · have h := ih (n / 10) (by omega)
      rw [List.length_append]
      show n < 10 ^ ((decDigits (n / 10)).length + 1)
      rw [Nat.pow_succ]
      omega

theorem name_num {mark : List UInt8} {n : Nat} (hm : 4 ≤ mark.length) (h : nameOk (numName mark n) = true) : n < 10000000000000000 := by
  have h1 : (numName mark n).length ≤ 20 := by
    unfold nameOk at h
    simp only [Bool.and_eq_true, decide_eq_true_eq] at h
    exact h.1.2
  unfold numName at h1
  rw [List.length_append] at h1
  refine Nat.lt_of_lt_of_le (pow_digits n) ?_
  exact Nat.le_trans (Nat.pow_le_pow_right (by decide) (show (decDigits n).length ≤ 16 by omega)) (by decide)

theorem look_num {r : RDm} (hn : NamesOk r) {mark : List UInt8} {n : Nat} (hm : 4 ≤ mark.length) (h : (look r (numName mark n)).isSome = true) : n < 10000000000000000 := by
  cases hx : look r (numName mark n) with
  | none => rw [hx] at h; cases h
  | some x => exact name_num hm (look_ok hn hx)

theorem picN_some {r : RDm} {n : Nat} (hn : NamesOk r) (ho : r.off = false) (h : picN r n ≠ none) : (look r (numName snapM n)).isSome = true := by
  cases hl : look r (numName snapM n) with
  | some x => rfl
  | none =>
    refine absurd ?_ h
    unfold picN
    rw [bytes_look hn ho, hl]
    exact picOf_nil

/-- The last picture hangs on the pictures' bytes alone. -/
theorem lastP_congr {r r' : RDm} (hn : NamesOk r) (hn' : NamesOk r') (ho : r.off = false) (ho' : r'.off = false) (h : ∀ n, 1 ≤ n → picN r n = picN r' n) : lastP r = lastP r' := by
  refine (lastP_is r).unique (lastP_is r') (fun n h1 h2 => ?_) (fun n h1 h2 => ?_)
  · obtain ⟨a, b, c⟩ := numsL_mem.1 h1
    have h3 := h n a
    refine ⟨numsL_mem.2 ⟨a, b, picN_some hn' ho' ?_⟩, h3.symm⟩
    rw [← h3]
    exact h2
  · obtain ⟨a, b, c⟩ := numsL_mem.1 h1
    have h3 := h n a
    refine ⟨numsL_mem.2 ⟨a, b, picN_some hn ho ?_⟩, h3⟩
    rw [h3]
    exact h2

theorem lastP_none {r : RDm} (h : ∀ n, 1 ≤ n → picN r n = none) : lastP r = (0, []) := by
  rcases lastP_is r with ⟨h1, _⟩ | ⟨h1, h2, _⟩
  · exact h1
  · obtain ⟨a, _, _⟩ := numsL_mem.1 h1
    rw [h _ a] at h2
    cases h2

theorem lastP_some {r : RDm} (hn : NamesOk r) (ho : r.off = false) {n : Nat} {p : List UInt8} (h1 : 1 ≤ n) (h : picN r n = some p) (hall : ∀ m, n < m → picN r m = none) : lastP r = (n, p) := by
  have hl := picN_some hn ho (n := n) (by rw [h]; simp)
  have hlt := look_num hn (by decide) hl
  have hmem : n ∈ (numsL r snapM).map (·.1) := numsL_mem.2 ⟨h1, by omega, hl⟩
  rcases lastP_is r with ⟨_, h2⟩ | ⟨h2, h3, h4⟩
  · rw [h2 n hmem] at h
    cases h
  · have h5 := h4 n hmem (by rw [h]; simp)
    have h6 : (lastP r).1 = n := by
      rcases Nat.lt_or_eq_of_le h5 with h6 | h6
      · rw [hall _ h6] at h3
        cases h3
      · exact h6.symm
    refine Prod.ext h6 ?_
    rw [h6, h] at h3
    injection h3 with h3
    exact h3.symm

/-- The last picture is one, or there is none. -/
theorem lastP_here (r : RDm) : (lastP r = (0, []) ∧ ∀ n, 1 ≤ n → n ≤ 9223372036854775807 → (look r (numName snapM n)).isSome = true → picN r n = none) ∨ (1 ≤ (lastP r).1 ∧ picN r (lastP r).1 = some (lastP r).2 ∧ ∀ n, (look r (numName snapM n)).isSome = true → n ≤ 9223372036854775807 → picN r n ≠ none → n ≤ (lastP r).1) := by
  rcases lastP_is r with ⟨h1, h2⟩ | ⟨h1, h2, h3⟩
  · exact .inl ⟨h1, fun n a b c => h2 n (numsL_mem.2 ⟨a, b, c⟩)⟩
  · obtain ⟨a, b, c⟩ := numsL_mem.1 h1
    refine .inr ⟨a, h2, fun n hl hb hv => ?_⟩
    by_cases h0 : 1 ≤ n
    · exact h3 n (numsL_mem.2 ⟨h0, hb, hl⟩) hv
    · omega

/-- Sorted numbers, none twice, are told by which they are. -/
theorem sorted_same : ∀ {l l' : List Nat}, l.Pairwise (· < ·) → l'.Pairwise (· < ·) → (∀ n, n ∈ l ↔ n ∈ l') → l = l'
  | [], [], _, _, _ => rfl
  | [], b :: l', _, _, h => by have := (h b).2 (by simp); cases this
  | a :: l, [], _, _, h => by have := (h a).1 (by simp); cases this
  | a :: l, b :: l', h1, h2, h => by
    rw [List.pairwise_cons] at h1 h2
    have e : a = b := by
      have k1 := (h a).1 (by simp)
      have k2 := (h b).2 (by simp)
      rcases List.mem_cons.1 k1 with k1 | k1
      · exact k1
      · rcases List.mem_cons.1 k2 with k2 | k2
        · exact k2.symm
        · have := h1.1 b k2
          have := h2.1 a k1
          omega
    subst e
    congr 1
    refine sorted_same h1.2 h2.2 fun n => ⟨fun hn => ?_, fun hn => ?_⟩
    · rcases List.mem_cons.1 ((h n).1 (List.mem_cons_of_mem _ hn)) with k | k
      · have := h1.1 n hn
        omega
      · exact k
    · rcases List.mem_cons.1 ((h n).2 (List.mem_cons_of_mem _ hn)) with k | k
      · have := h2.1 n hn
        omega
      · exact k

theorem numsL_nodup {r : RDm} (hr : Rising r.L) (mark : List UInt8) : ((numsL r mark).map (·.1)).Nodup := by
  unfold numsL
  rw [List.map_filterMap]
  have hnd := hr.nodup
  refine List.Pairwise.filterMap (R := (· ≠ ·)) _ (fun a b hab x hx y hy hxy => ?_) hnd
  subst hxy
  rw [Option.map_eq_some_iff] at hx hy
  obtain ⟨u, hu, rfl⟩ := hx
  obtain ⟨v, hv, he⟩ := hy
  exact hab (by rw [(numI_some hu).2, (numI_some hv).2, he])

theorem behindL_lt {r : RDm} (hr : Rising r.L) (at_ : Nat) : (behindL r at_).Pairwise (· < ·) := by
  have h1 := behindL_sorted r at_
  have h2 : (behindL r at_).Nodup := by
    unfold behindL behF
    refine (List.mergeSort_perm _ _).nodup_iff.2 ?_
    exact (numsL_nodup hr logM).sublist List.filter_sublist
  exact (h1.and h2).imp (fun h => by omega)

theorem behindL_look {r : RDm} {at_ n : Nat} (hn : NamesOk r) : n ∈ behindL r at_ ↔ at_ < n ∧ (look r (numName logM n)).isSome = true := by
  rw [behindL_mem]
  have h := numsL_mem (r := r) (mark := logM) (n := n)
  rw [List.mem_map] at h
  constructor
  · rintro ⟨h1, h2⟩
    exact ⟨h1, (h.1 h2).2.2⟩
  · rintro ⟨h1, h2⟩
    have := look_num hn (by decide) h2
    exact ⟨h1, h.2 ⟨by omega, by omega, h2⟩⟩

theorem behindL_is {r : RDm} (hr : ROk r) {at_ : Nat} {l : List Nat} (hl : l.Pairwise (· < ·)) (h : ∀ n, n ∈ l ↔ at_ < n ∧ (look r (numName logM n)).isSome = true) : behindL r at_ = l :=
  sorted_same (behindL_lt hr.rising at_) hl fun n => by rw [behindL_look hr.names, h]

/-- What Open finds: the picture, and all records. -/
def recsR (r : RDm) (ns : List Nat) : List (List UInt8) := (ns.map fun n => cutB (bytesR r (numName logM n))).flatten
def viewR (r : RDm) : (Nat × List UInt8) × List (List UInt8) := (lastP r, recsR r (behindL r (lastP r).1))

theorem viewR_congr {r r' : RDm} (h : ROk r) (h' : ROk r') (ho : r.off = false) (ho' : r'.off = false) (hd : ∀ k, (look r k).map (·.data) = (look r' k).map (·.data)) : viewR r = viewR r' := by
  have hb : ∀ k, bytesR r k = bytesR r' k := fun k => by rw [bytes_look h.names ho, bytes_look h'.names ho', hd]
  have hs : ∀ k, (look r k).isSome = (look r' k).isSome := fun k => by
    have := congrArg Option.isSome (hd k)
    simpa using this
  have e1 : lastP r = lastP r' := lastP_congr h.names h'.names ho ho' fun n _ => by unfold picN; rw [hb]
  have e2 : behindL r (lastP r).1 = behindL r' (lastP r').1 := by
    rw [e1]
    exact behindL_is h (behindL_lt h'.rising _) fun n => by rw [behindL_look h'.names, hs]
  unfold viewR recsR
  rw [e2, e1]
  congr 2
  exact List.map_congr_left fun n _ => by rw [hb]

end Go.Proofs.YtdpbnacabinlgaaGreatDoor
namespace Go.Proofs.YtdpbnacabinlgaaGreatDoor
open Go.RowKit Go.Lib Go.Maps Go.ChangeMaps Go.Sort Go.Shelf

/-- The power is on, and no fuse burns. -/
def On (r : RDm) : Prop := r.off = false ∧ r.fused = false
theorem On.isOff {r : RDm} (h : On r) : isOff r = false := by unfold Go.Proofs.YtdpbnacabinlgaaGreatDoor.isOff; rw [h.1, h.2]; rfl

theorem remove_flags (r : RDm) (k : List UInt8) (ho : isOff r = false) : (removeR r k).1.off = false ∧ (removeR r k).1.fused = r.fused := by
  unfold removeR
  rw [ho]
  cases nameOk k with
  | false => exact ⟨ho, rfl⟩
  | true => cases r.L.find? (fun f => f.nm == k) <;> exact ⟨ho, rfl⟩
theorem sync_flags (r : RDm) (ho : isOff r = false) : (syncR r).2 = 0 ∧ (syncR r).1.off = false ∧ (syncR r).1.fused = r.fused ∧ (syncR r).1.Gone = [] ∧ (syncR r).1.room = r.room := by
  unfold syncR
  rw [ho]
  exact ⟨rfl, ho, rfl, rfl, rfl⟩
theorem On.remove {r : RDm} (h : On r) (k : List UInt8) : On (removeR r k).1 := by
  have := remove_flags r k h.isOff
  exact ⟨this.1, this.2.trans h.2⟩
theorem On.sync {r : RDm} (h : On r) : On (syncR r).1 := by
  have := sync_flags r h.isOff
  exact ⟨this.2.1, this.2.2.1.trans h.2⟩
theorem On.new (room : Int) : On (newR room) := ⟨rfl, rfl⟩
theorem On.crash (r : RDm) (L' : List RF) : On (crashR r L') := ⟨rfl, rfl⟩

/-- Files that are there are removed, one behind the other. -/
theorem leave_names : ∀ (ns : List (List UInt8)) (r : RDm), On r → ROk r → ns.Nodup → (∀ k ∈ ns, (look r k).isSome = true) →
    (seqS (ns.map fun nm r => removeR r nm) r).2 = 0 ∧ On (seqS (ns.map fun nm r => removeR r nm) r).1 ∧ ROk (seqS (ns.map fun nm r => removeR r nm) r).1 ∧ (∀ k, look (seqS (ns.map fun nm r => removeR r nm) r).1 k = if k ∈ ns then none else look r k) ∧ (seqS (ns.map fun nm r => removeR r nm) r).1.room = r.room
  | [], r, h, hk, _, _ => ⟨rfl, h, hk, fun k => by simp [seqS], rfl⟩
  | n :: ns, r, h, hk, hd, hall => by
    obtain ⟨h1, h2, h3, _⟩ := remove_ok h.isOff hk.names (hall n (by simp))
    rw [List.nodup_cons] at hd
    obtain ⟨k1, k2, k3, k4, k5⟩ := leave_names ns (removeR r n).1 (h.remove n) (hk.remove n) hd.2 (fun k hkn => by
      rw [h2, if_neg (fun e : k = n => hd.1 (by rw [← e]; exact hkn))]
      exact hall k (List.mem_cons_of_mem _ hkn))
    rw [List.map_cons, seqS, if_pos h1]
    refine ⟨k1, k2, k3, fun k => ?_, k5.trans h3⟩
    rw [k4, h2]
    by_cases e : k = n
    · subst e
      simp
    · by_cases e2 : k ∈ ns
      · simp [e2]
      · simp [e, e2]

theorem leaveR_on {r : RDm} (h : On r) (hk : ROk r) (st : List (List UInt8)) :
    (leaveR r st).2 = 0 ∧ On (leaveR r st).1 ∧ ROk (leaveR r st).1 ∧ (∀ k, look (leaveR r st).1 k = if k ∈ st then look r k else none) ∧ (leaveR r st).1.room = r.room := by
  have hnd : (dropL r st).Nodup := hk.rising.nodup.sublist List.filter_sublist
  obtain ⟨h1, h2, h3, h4, h5⟩ := leave_names (dropL r st) r h hk hnd (fun k hkn => look_mem.2 (List.mem_filter.1 hkn).1)
  refine ⟨h1, h2, h3, fun k => ?_, h5⟩
  show look (seqS _ r).1 k = _
  rw [h4]
  unfold dropL
  by_cases e : k ∈ st
  · rw [if_pos e, if_neg (fun x => by simpa [e] using (List.mem_filter.1 x).2)]
  · rw [if_neg e]
    by_cases e2 : k ∈ r.L.map RF.nm
    · rw [if_pos (List.mem_filter.2 ⟨e2, by simpa using e⟩)]
    · rw [if_neg (fun x => e2 (List.mem_filter.1 x).1)]
      cases hl : look r k with
      | none => rfl
      | some x => exact absurd (look_mem.1 (by rw [hl]; rfl)) e2

/-- The names that stay, as Open has it. -/
def stR (r : RDm) : List (List UInt8) := staysL (lastP r).1 (behindL r (lastP r).1)
/-- What Open makes of a device that is not down, and its error. -/
def openS (r : RDm) : RDm × Int := seqS [fun r => leaveR r (stR r), syncR] r

theorem seq_two {σ : Type} (f g : σ → σ × Int) (x : σ) : seqS [f, g] x = if (f x).2 = 0 then g (f x).1 else f x := by
  unfold seqS
  unfold seqS
  split
  · unfold seqS
    split
    · rename_i h2
      exact Prod.ext rfl h2.symm
    · rfl
  · rfl

theorem marks_ne (a b : Nat) : numName snapM a ≠ numName logM b := fun e => by
  unfold numName snapM logM at e
  injection e with e
  cases e

theorem mem_stR {r : RDm} {k : List UInt8} : k ∈ stR r ↔ (0 < (lastP r).1 ∧ k = numName snapM (lastP r).1) ∨ ∃ n ∈ behindL r (lastP r).1, k = numName logM n := by
  unfold stR staysL
  rw [List.mem_append, List.mem_map]
  constructor
  · rintro (h | ⟨n, hn, rfl⟩)
    · split at h
      · rename_i h0
        exact .inl ⟨h0, by simpa using h⟩
      · cases h
    · exact .inr ⟨n, hn, rfl⟩
  · rintro (⟨h, rfl⟩ | ⟨n, hn, rfl⟩)
    · rw [if_pos h]
      exact .inl (by simp)
    · exact .inr ⟨n, hn, rfl⟩

theorem snap_stR {r : RDm} {n : Nat} : numName snapM n ∈ stR r ↔ 0 < (lastP r).1 ∧ n = (lastP r).1 := by
  rw [mem_stR]
  constructor
  · rintro (⟨h, e⟩ | ⟨m, _, e⟩)
    · exact ⟨h, numName_inj e⟩
    · exact absurd e (marks_ne _ _)
  · rintro ⟨h, rfl⟩
    exact .inl ⟨h, rfl⟩
theorem log_stR {r : RDm} {n : Nat} : numName logM n ∈ stR r ↔ n ∈ behindL r (lastP r).1 := by
  rw [mem_stR]
  constructor
  · rintro (⟨h, e⟩ | ⟨m, hm, e⟩)
    · exact absurd e.symm (marks_ne _ _)
    · rw [numName_inj e]
      exact hm
  · intro h
    exact .inr ⟨n, h, rfl⟩

/-- Open, with the power on: what is there is as it was, and synced; nothing else is. -/
theorem openS_on {r : RDm} (h : On r) (hk : ROk r) :
    (openS r).2 = 0 ∧ On (openS r).1 ∧ ROk (openS r).1 ∧ (∀ k, look (openS r).1 k = if k ∈ stR r then (look r k).map settleF else none) ∧ Settled (openS r).1 ∧ (openS r).1.Gone = [] ∧ (openS r).1.room = r.room := by
  obtain ⟨h1, h2, h3, h4, h5⟩ := leaveR_on h hk (stR r)
  have e : openS r = syncR (leaveR r (stR r)).1 := by
    unfold openS
    rw [seq_two, if_pos h1]
  rw [e]
  obtain ⟨k1, k2, k3, k4, k5⟩ := sync_flags _ h2.isOff
  refine ⟨k1, h2.sync, h3.synced, fun k => ?_, settled_sync h2.isOff, k4, k5.trans h5⟩
  rw [look_sync h2.isOff, h4]
  split <;> rfl

theorem bytes_open {r : RDm} (h : On r) (hk : ROk r) {k : List UInt8} (hm : k ∈ stR r) : bytesR (openS r).1 k = bytesR r k := by
  obtain ⟨_, h2, h3, h4, _⟩ := openS_on h hk
  rw [bytes_look h3.names h2.1, bytes_look hk.names h.1, h4, if_pos hm]
  cases look r k <;> rfl

theorem lastP_open {r : RDm} (h : On r) (hk : ROk r) : lastP (openS r).1 = lastP r := by
  obtain ⟨_, h2, h3, h4, _⟩ := openS_on h hk
  have hno : ∀ n, numName snapM n ∉ stR r → picN (openS r).1 n = none := fun n hn => by
    unfold picN
    rw [bytes_look h3.names h2.1, h4, if_neg hn]
    exact picOf_nil
  have hyes : 1 ≤ (lastP r).1 → picN (openS r).1 (lastP r).1 = picN r (lastP r).1 := fun h5 => by
    unfold picN
    rw [bytes_open h hk (snap_stR.2 ⟨h5, rfl⟩)]
  have hone : ∀ n, numName snapM n ∈ stR r → 0 < (lastP r).1 ∧ n = (lastP r).1 := fun n hn => snap_stR.1 hn
  have hh := lastP_here r
  obtain ⟨p, hp⟩ : ∃ p, lastP r = p := ⟨_, rfl⟩
  rw [hp] at hyes hone hh ⊢
  rcases hh with ⟨h5, _⟩ | ⟨h5, h6, _⟩
  · rw [h5]
    refine lastP_none fun n _ => hno n (fun e => ?_)
    have := (hone n e).1
    rw [h5] at this
    cases this
  · have h7 : lastP (openS r).1 = (p.1, p.2) := lastP_some h3.names h2.1 h5 ((hyes h5).trans h6) (fun m hm => hno m (fun e => by have := (hone m e).2; omega))
    exact h7

theorem behindL_open {r : RDm} (h : On r) (hk : ROk r) : behindL (openS r).1 (lastP r).1 = behindL r (lastP r).1 := by
  obtain ⟨_, h2, h3, h4, _⟩ := openS_on h hk
  refine behindL_is h3 (behindL_lt hk.rising _) fun n => ?_
  rw [h4]
  constructor
  · intro hn
    have h5 := (behindL_look hk.names).1 hn
    rw [if_pos (log_stR.2 hn), Option.isSome_map]
    exact h5
  · rintro ⟨h5, h6⟩
    by_cases hm : numName logM n ∈ stR r
    · exact log_stR.1 hm
    · rw [if_neg hm] at h6
      cases h6

theorem recs_open {r : RDm} (h : On r) (hk : ROk r) : recsR (openS r).1 (behindL r (lastP r).1) = recsR r (behindL r (lastP r).1) := by
  unfold recsR
  congr 1
  exact List.map_congr_left fun n hn => by rw [bytes_open h hk (log_stR.2 hn)]

/-- What was opened is opened alike again. -/
theorem view_open {r : RDm} (h : On r) (hk : ROk r) : viewR (openS r).1 = viewR r := by
  unfold viewR
  rw [lastP_open h hk, behindL_open h hk, recs_open h hk]

/-- The greatest number that Open finds. -/
def topR (r : RDm) : Nat := (behindL r (lastP r).1).getLast?.getD (lastP r).1

theorem topR_le {r : RDm} (hn : NamesOk r) : (lastP r).1 ≤ topR r ∧ (∀ n ∈ behindL r (lastP r).1, 1 ≤ n) := by
  refine ⟨?_, fun n h => (behindL_le h).1⟩
  unfold topR
  cases hg : (behindL r (lastP r).1).getLast? with
  | none => exact Nat.le_refl _
  | some n => exact Nat.le_of_lt ((behindL_look hn).1 (List.mem_of_getLast? hg)).1

theorem le_topR {r : RDm} (hk : ROk r) {n : Nat} (h : n ∈ behindL r (lastP r).1) : n ≤ topR r := by
  unfold topR
  cases hg : (behindL r (lastP r).1).getLast? with
  | none =>
    rw [List.getLast?_eq_none_iff] at hg
    rw [hg] at h
    cases h
  | some m =>
    obtain ⟨ys, hys⟩ := List.getLast?_eq_some_iff.1 hg
    have hp := behindL_lt hk.rising (lastP r).1
    rw [hys] at h hp
    rw [List.pairwise_append] at hp
    rcases List.mem_append.1 h with h | h
    · exact Nat.le_of_lt (hp.2.2 n h m (by simp))
    · obtain rfl : n = m := by simpa using h
      exact Nat.le_refl _

/-- Behind what Open finds no log is there of a greater number. -/
theorem no_log {r : RDm} (hk : ROk r) {n : Nat} (hn : topR r < n) : look r (numName logM n) = none := by
  cases hl : look r (numName logM n) with
  | none => rfl
  | some x =>
    have h1 := (topR_le hk.names).1
    have h2 : n ∈ behindL r (lastP r).1 := (behindL_look hk.names).2 ⟨Nat.lt_of_le_of_lt h1 hn, by rw [hl]; rfl⟩
    have := le_topR hk h2
    omega

theorem topR_lt {r : RDm} (hk : ROk r) (ho : r.off = false) : topR r < 10000000000000000 := by
  unfold topR
  cases hg : (behindL r (lastP r).1).getLast? with
  | some n => exact look_num hk.names (by decide) ((behindL_look hk.names).1 (List.mem_of_getLast? hg)).2
  | none =>
    show (lastP r).1 < _
    rcases lastP_here r with ⟨h5, _⟩ | ⟨h5, h6, _⟩
    · rw [h5]
      decide
    · exact look_num hk.names (by decide) (picN_some hk.names ho (by rw [h6]; simp))

end Go.Proofs.YtdpbnacabinlgaaGreatDoor
namespace Go.Proofs.YtdpbnacabinlgaaGreatDoor
open Go.RowKit Go.Lib Go.Maps Go.ChangeMaps Go.Sort Go.Shelf

/-- Of the bytes of records that are cut off some first records are left, and all whose bytes are there. -/
theorem cut_take : ∀ (l : List (List UInt8)) (m : Nat), (∀ r ∈ l, r.length ≤ 4096) → ∃ q, cutB ((allB l).take m) = l.take q ∧ q ≤ l.length ∧ ∀ s, s ≤ l.length → (allB (l.take s)).length ≤ m → s ≤ q
  | [], m, _ => ⟨0, by rw [allB_nil, List.take_nil, cutB_nil]; rfl, Nat.le_refl _, fun s hs _ => by simpa using hs⟩
  | r :: l, m, h => by
    have hr := h r (by simp)
    rw [allB_cons, putB_ok hr]
    by_cases hm : m < r.length + 5
    · refine ⟨0, ?_, Nat.zero_le _, fun s hs h2 => ?_⟩
      · rw [List.take_append_of_le_length (by rw [frameB_length]; omega), cutB_none (firstB_torn r m hm hr)]
        rfl
      · cases s with
        | zero => exact Nat.le_refl _
        | succ s =>
          rw [List.take_succ_cons, allB_cons, putB_ok hr, List.length_append, frameB_length] at h2
          omega
    · obtain ⟨q, h1, h2, h3⟩ := cut_take l (m - (r.length + 5)) (fun x hx => h x (List.mem_cons_of_mem _ hx))
      refine ⟨q + 1, ?_, by simp; omega, fun s hs h4 => ?_⟩
      · rw [List.take_append, List.take_of_length_le (by rw [frameB_length]; omega), frameB_length, cutB_frame r _ hr, h1]
        rfl
      · cases s with
        | zero => exact Nat.zero_le _
        | succ s =>
          rw [List.take_succ_cons, allB_cons, putB_ok hr, List.length_append, frameB_length] at h4
          have := h3 s (by simpa using hs) (by omega)
          omega

theorem okR_id {l : List (List UInt8)} (h : ∀ r ∈ l, r.length ≤ 4096) : okR l = l := by
  unfold okR
  exact List.filter_eq_self.2 (fun r hr => by simpa using h r hr)

/-- What is there when a journal is opened. -/
structure Base (r0 : RDm) (l0 : Nat) : Prop where
  on : On r0
  rok : ROk r0
  settled : Settled r0
  pic : (lastP r0).1 ≤ l0
  top : ∀ n, l0 < n → look r0 (numName logM n) = none
  snaps : ∀ n, (look r0 (numName snapM n)).isSome = true → n = (lastP r0).1

theorem Base.opened {r : RDm} (h : On r) (hk : ROk r) : Base (openS r).1 (topR r) := by
  obtain ⟨_, h2, h3, h4, h5, _⟩ := openS_on h hk
  refine ⟨h2, h3, h5, ?_, fun n hn => ?_, fun n hn => ?_⟩
  · rw [lastP_open h hk]
    exact (topR_le hk.names).1
  · rw [h4]
    split
    · rename_i hm
      have := le_topR hk (log_stR.1 hm)
      omega
    · rfl
  · rw [h4] at hn
    split at hn
    · rename_i hm
      rw [lastP_open h hk]
      exact (snap_stR.1 hm).2
    · cases hn

/-- Logs behind what was there. -/
theorem behind_grown {r0 r : RDm} {l0 : Nat} (hb : Base r0 l0) (hk : ROk r) (ho : r.off = false) (ds : List (List UInt8))
    (old : ∀ k, (∀ i, i < ds.length → k ≠ numName logM (l0 + 1 + i)) → (look r k).map (·.data) = (look r0 k).map (·.data)) (new : ∀ i d, ds[i]? = some d → (look r (numName logM (l0 + 1 + i))).map (·.data) = some d) :
    lastP r = lastP r0 ∧ behindL r (lastP r0).1 = behindL r0 (lastP r0).1 ++ (List.range ds.length).map (l0 + 1 + ·) := by
  have hbytes : ∀ k, (∀ i, i < ds.length → k ≠ numName logM (l0 + 1 + i)) → bytesR r k = bytesR r0 k := fun k hk2 => by
    rw [bytes_look hk.names ho, bytes_look hb.rok.names hb.on.1, old k hk2]
  have hsome : ∀ k, (∀ i, i < ds.length → k ≠ numName logM (l0 + 1 + i)) → (look r k).isSome = (look r0 k).isSome := fun k hk2 => by
    have := congrArg Option.isSome (old k hk2)
    simpa using this
  have e1 : lastP r = lastP r0 := lastP_congr hk.names hb.rok.names ho hb.on.1 fun n _ => by
    unfold picN
    rw [hbytes _ (fun i _ => marks_ne _ _)]
  have e2 : behindL r (lastP r0).1 = behindL r0 (lastP r0).1 ++ (List.range ds.length).map (l0 + 1 + ·) := by
    refine behindL_is hk ?_ fun n => ?_
    · rw [List.pairwise_append]
      refine ⟨behindL_lt hb.rok.rising _, ?_, fun a ha b hb2 => ?_⟩
      · rw [List.pairwise_map]
        exact List.pairwise_lt_range.imp (fun h => by omega)
      · obtain ⟨i, _, rfl⟩ := List.mem_map.1 hb2
        have h3 := (behindL_look hb.rok.names).1 ha
        have : ¬ l0 < a := fun h4 => by rw [hb.top a h4] at h3; cases h3.2
        show a < l0 + 1 + i
        omega
    · rw [List.mem_append, behindL_look hb.rok.names, List.mem_map]
      constructor
      · rintro (⟨h1, h2⟩ | ⟨i, hi, rfl⟩)
        · refine ⟨h1, ?_⟩
          rw [hsome _ (fun i _ e => ?_)]
          · exact h2
          · have := numName_inj e
            rw [hb.top n (by omega)] at h2
            cases h2
        · have hi := List.mem_range.1 hi
          have h1 := new i _ (List.getElem?_eq_getElem hi)
          refine ⟨by have := hb.pic; show _ < l0 + 1 + i; omega, ?_⟩
          cases hl : look r (numName logM (l0 + 1 + i)) with
          | none => rw [hl] at h1; cases h1
          | some x => rfl
      · rintro ⟨h1, h2⟩
        by_cases h3 : ∃ i, i < ds.length ∧ n = l0 + 1 + i
        · obtain ⟨i, hi, rfl⟩ := h3
          exact .inr ⟨i, List.mem_range.2 hi, rfl⟩
        · refine .inl ⟨h1, ?_⟩
          rw [← hsome _ (fun i hi e => h3 ⟨i, hi, numName_inj e⟩)]
          exact h2
  exact ⟨e1, e2⟩

theorem view_grown {r0 r : RDm} {l0 : Nat} (hb : Base r0 l0) (hk : ROk r) (ho : r.off = false) (ds : List (List UInt8))
    (old : ∀ k, (∀ i, i < ds.length → k ≠ numName logM (l0 + 1 + i)) → (look r k).map (·.data) = (look r0 k).map (·.data)) (new : ∀ i d, ds[i]? = some d → (look r (numName logM (l0 + 1 + i))).map (·.data) = some d) :
    viewR r = (lastP r0, recsR r0 (behindL r0 (lastP r0).1) ++ (ds.map cutB).flatten) := by
  have hbytes : ∀ k, (∀ i, i < ds.length → k ≠ numName logM (l0 + 1 + i)) → bytesR r k = bytesR r0 k := fun k hk2 => by
    rw [bytes_look hk.names ho, bytes_look hb.rok.names hb.on.1, old k hk2]
  obtain ⟨e1, e2⟩ := behind_grown hb hk ho ds old new
  unfold viewR
  rw [e1, e2]
  unfold recsR
  rw [List.map_append, List.flatten_append]
  congr 2
  · congr 1
    refine List.map_congr_left fun n hn => ?_
    rw [hbytes _ (fun i _ e => ?_)]
    have h3 := (behindL_look hb.rok.names).1 hn
    have := numName_inj e
    rw [hb.top n (by omega)] at h3
    cases h3.2
  · congr 1
    rw [List.map_map]
    apply List.ext_getElem?
    intro i
    rw [List.getElem?_map, List.getElem?_map]
    by_cases hi : i < ds.length
    · rw [List.getElem?_range hi, List.getElem?_eq_getElem hi]
      show some (cutB (bytesR r (numName logM (l0 + 1 + i)))) = some (cutB ds[i])
      rw [bytes_look hk.names ho, new i _ (List.getElem?_eq_getElem hi)]
      rfl
    · rw [List.getElem?_eq_none (by simpa using hi), List.getElem?_eq_none (by simpa using hi)]
      rfl

/-- How many records the last log has. -/
def lastLen (ls : List (List (List UInt8))) : Nat := (ls.getLast?.getD []).length
/-- How many records are synced at least. -/
def cntS (ls : List (List (List UInt8))) (sy : Nat) : Nat := ls.dropLast.flatten.length + sy

/-- A journal that was opened, and added to: ls are the records of the logs behind what was there, sy how many of the last one are synced. -/
structure Grows (r0 : RDm) (l0 : Nat) (j : JM) (ls : List (List (List UInt8))) (sy : Nat) : Prop where
  rok : ROk j.r
  gone : j.r.Gone = []
  last : j.last = l0 + ls.length
  wr : j.wr = decide (0 < ls.length)
  old : ∀ k, (∀ i, i < ls.length → k ≠ numName logM (l0 + 1 + i)) → look j.r k = look r0 k
  new : ∀ i l, ls[i]? = some l → ∃ x, look j.r (numName logM (l0 + 1 + i)) = some x ∧ x.data = allB l ∧ (i + 1 < ls.length → x.synced = x.data.length ∧ x.fresh = false) ∧ (i + 1 = ls.length → x.synced = (allB (l.take sy)).length ∧ (x.fresh = true → sy = 0))
  ok : ∀ l ∈ ls, l ≠ [] ∧ (∀ r ∈ l, r.length ≤ 4096) ∧ (l.length = 1 ∨ (allB l).length ≤ 1024)
  most : sy ≤ lastLen ls

theorem Grows.start {r0 : RDm} {l0 : Nat} (hb : Base r0 l0) (hg : r0.Gone = []) : Grows r0 l0 ⟨r0, l0, false⟩ [] 0 :=
  ⟨hb.rok, hg, rfl, rfl, fun _ _ => rfl, (fun i l h => by simp at h), (fun l h => by cases h), Nat.le_refl _⟩

theorem len_snoc {ls : List (List (List UInt8))} {l : List (List UInt8)} : lastLen (ls ++ [l]) = l.length := by unfold lastLen; simp
theorem cnt_snoc {ls : List (List (List UInt8))} {l : List (List UInt8)} {sy : Nat} : cntS (ls ++ [l]) sy = ls.flatten.length + sy := by unfold cntS; simp
theorem cnt_le {ls : List (List (List UInt8))} {sy : Nat} (h : sy ≤ lastLen ls) : cntS ls sy ≤ ls.flatten.length := by
  rcases List.eq_nil_or_concat ls with rfl | ⟨l', x, rfl⟩
  · simpa [cntS, lastLen] using h
  · rw [List.concat_eq_append] at h ⊢
    rw [len_snoc] at h
    rw [cnt_snoc, List.flatten_append, List.length_append]
    simp
    exact h
theorem cnt_all (ls : List (List (List UInt8))) : cntS ls (lastLen ls) = ls.flatten.length := by
  rcases List.eq_nil_or_concat ls with rfl | ⟨l', x, rfl⟩
  · rfl
  · rw [List.concat_eq_append, len_snoc, cnt_snoc, List.flatten_append, List.length_append]
    simp

section
variable {r0 : RDm} {l0 : Nat} {j : JM} {ls : List (List (List UInt8))} {sy : Nat}

/-- Nothing of its files is changed. -/
theorem Grows.same {r' : RDm} (h : Grows r0 l0 j ls sy) (hk : ROk r') (hg : r'.Gone = []) (hl : ∀ k, look r' k = look j.r k) : Grows r0 l0 ⟨r', j.last, j.wr⟩ ls sy :=
  ⟨hk, hg, h.last, h.wr, fun k hk2 => (hl k).trans (h.old k hk2), fun i l hi => by rw [hl]; exact h.new i l hi, h.ok, h.most⟩
theorem Grows.power (h : Grows r0 l0 j ls sy) : Grows r0 l0 ⟨powerR j.r, j.last, j.wr⟩ ls sy := h.same h.rok.power h.gone (fun _ => rfl)
theorem Grows.fuse (h : Grows r0 l0 j ls sy) (x : Int) : Grows r0 l0 ⟨fuseR j.r x, j.last, j.wr⟩ ls sy := h.same (h.rok.fuse x) h.gone (fun _ => rfl)

/-- All is synced. -/
theorem Grows.synced (h : Grows r0 l0 j ls sy) (hb : Base r0 l0) (ho : isOff j.r = false) : Grows r0 l0 ⟨(syncR j.r).1, j.last, j.wr⟩ ls (lastLen ls) where
  rok := h.rok.synced
  gone := (sync_flags _ ho).2.2.2.1
  last := h.last
  wr := h.wr
  old k hk := by
    show look (syncR j.r).1 k = _
    rw [look_sync ho, h.old k hk]
    cases hl : look r0 k with
    | none => rfl
    | some x =>
      obtain ⟨h1, h2⟩ := hb.settled k x hl
      show some (settleF x) = _
      unfold settleF
      cases x
      simp_all
  new i l hi := by
    obtain ⟨x, h1, h2, h3, h4⟩ := h.new i l hi
    refine ⟨settleF x, ?_, h2, fun _ => ⟨rfl, rfl⟩, fun e => ⟨?_, fun e2 => by cases e2⟩⟩
    · show look (syncR j.r).1 _ = _
      rw [look_sync ho, h1]
      rfl
    · show x.data.length = _
      have hl : ls.getLast? = some l := by rw [List.getLast?_eq_getElem?, show ls.length - 1 = i by omega]; exact hi
      rw [show lastLen ls = l.length by unfold lastLen; rw [hl]; rfl, List.take_length, h2]
  ok := h.ok
  most := Nat.le_refl _

/-- What Open finds of it. -/
theorem Grows.view (h : Grows r0 l0 j ls sy) (hb : Base r0 l0) (ho : j.r.off = false) : viewR j.r = (lastP r0, recsR r0 (behindL r0 (lastP r0).1) ++ ls.flatten) := by
  have h1 := view_grown hb h.rok ho (ls.map allB) (fun k hk => by rw [h.old k (fun i hi => hk i (by simpa using hi))]) (fun i d hi => by
    rw [List.getElem?_map, Option.map_eq_some_iff] at hi
    obtain ⟨l, hl, rfl⟩ := hi
    obtain ⟨x, h2, h3, _⟩ := h.new i l hl
    rw [h2]
    show some x.data = _
    rw [h3])
  rw [h1, List.map_map]
  congr 3
  have : ∀ l ∈ ls, (cutB ∘ allB) l = l := fun l hl => by
    show cutB (allB l) = l
    rw [cutB_all', okR_id (h.ok l hl).2.1]
  rw [List.map_congr_left this]
  simp
end

end Go.Proofs.YtdpbnacabinlgaaGreatDoor
namespace Go.Proofs.YtdpbnacabinlgaaGreatDoor
open Go.RowKit Go.Lib Go.Maps Go.ChangeMaps Go.Sort Go.Shelf

section
variable {r0 : RDm} {l0 : Nat} {j : JM} {ls : List (List (List UInt8))} {sy : Nat}

theorem look_crash0 {r : RDm} {ks : List (ByteArray × Int)} {L' : List RF} {k : List UInt8} (hg : r.Gone = []) (hc : Crashed ks r L') : look (crashR r L') k = (look r k).bind fun x => (crashF ks k x).map settleF := by
  rw [look_crash hc, hg]
  rfl

/-- Behind a crash there is a beginning of what was added, with all that was synced. -/
theorem Grows.crash (h : Grows r0 l0 j ls sy) (hb : Base r0 l0) {ks : List (ByteArray × Int)} {L' : List RF} (hc : Crashed ks j.r L') :
    ∃ q, viewR (crashR j.r L') = (lastP r0, recsR r0 (behindL r0 (lastP r0).1) ++ ls.flatten.take q) ∧ cntS ls sy ≤ q ∧ q ≤ ls.flatten.length ∧ ((∀ k, manyK ks k < 0) → q = cntS ls sy) := by
  obtain ⟨hk, _⟩ := h.rok.crash hc
  have hold : ∀ k, (∀ i, i < ls.length → k ≠ numName logM (l0 + 1 + i)) → look (crashR j.r L') k = look r0 k := fun k hkn => by
    rw [look_crash0 h.gone hc, h.old k hkn]
    cases hl : look r0 k with
    | none => rfl
    | some x =>
      obtain ⟨h1, h2⟩ := hb.settled k x hl
      exact settle_crash h1 h2
  rcases List.eq_nil_or_concat ls with rfl | ⟨ini, l, rfl⟩
  · have hsy0 : sy = 0 := by simpa [lastLen] using h.most
    refine ⟨0, ?_, by simpa [cntS, lastLen] using h.most, Nat.zero_le _, fun _ => by rw [hsy0]; rfl⟩
    rw [view_grown hb hk rfl [] (fun k hkn => by rw [hold k (fun i hi => absurd hi (Nat.not_lt_zero i))]) (fun i d hi => by simp at hi)]
    simp
  · rw [List.concat_eq_append] at h hold ⊢
    have hlen : (ini ++ [l]).length = ini.length + 1 := by simp
    obtain ⟨hl0, hl1, hl2⟩ := h.ok l (by simp)
    have hini : ∀ i d, ini[i]? = some d → look (crashR j.r L') (numName logM (l0 + 1 + i)) = some ⟨allB d, (allB d).length, false⟩ := fun i d hi => by
      have hil := (List.getElem?_eq_some_iff.1 hi).1
      obtain ⟨x, h1, h2, h3, _⟩ := h.new i d (by rw [List.getElem?_append_left hil]; exact hi)
      obtain ⟨h4, h5⟩ := h3 (by omega)
      rw [look_crash0 h.gone hc, h1]
      show (crashF ks _ x).map settleF = _
      rw [settle_crash h4 h5, ← h2, ← h4]
      cases x
      simp_all
    obtain ⟨x, h1, h2, _, h4⟩ := h.new ini.length l (by simp)
    obtain ⟨h5, h6⟩ := h4 (by omega)
    have hsyl : sy ≤ l.length := by have := h.most; rwa [len_snoc] at this
    have hlast : look (crashR j.r L') (numName logM (l0 + 1 + ini.length)) = (crashF ks (numName logM (l0 + 1 + ini.length)) x).map settleF := by rw [look_crash0 h.gone hc, h1]; rfl
    have hfl : (ini ++ [l]).flatten = ini.flatten ++ l := by simp
    have hini2 : (ini.map allB).map cutB = ini := by
      rw [List.map_map]
      have : ∀ d ∈ ini, (cutB ∘ allB) d = d := fun d hd => by
        show cutB (allB d) = d
        rw [cutB_all', okR_id (h.ok d (by simp [hd])).2.1]
      rw [List.map_congr_left this, List.map_id']
    by_cases hno : x.fresh = true ∧ manyK ks (numName logM (l0 + 1 + ini.length)) < 0
    · have hsy : sy = 0 := h6 hno.1
      refine ⟨ini.flatten.length, ?_, by rw [cnt_snoc, hsy]; exact Nat.le_refl _, by rw [hfl, List.length_append]; omega, fun _ => by rw [cnt_snoc, hsy]; rfl⟩
      have hnone : look (crashR j.r L') (numName logM (l0 + 1 + ini.length)) = none := by
        rw [hlast]
        unfold crashF
        rw [if_pos hno]
        rfl
      rw [view_grown hb hk rfl (ini.map allB) (fun k hkn => ?_) (fun i d hi => ?_), hini2, hfl, List.take_left']
      · rfl
      · by_cases e : k = numName logM (l0 + 1 + ini.length)
        · subst e
          rw [hnone, hb.top _ (by omega)]
        · rw [hold k (fun i hi => ?_)]
          by_cases e2 : i < ini.length
          · exact hkn i (by simpa using e2)
          · rw [hlen] at hi
            rw [show i = ini.length by omega]
            exact e
      · rw [List.getElem?_map, Option.map_eq_some_iff] at hi
        obtain ⟨d', hd', rfl⟩ := hi
        rw [hini i d' hd']
        rfl
    · obtain ⟨q, hq1, hq2, hq3⟩ := cut_take l (cutK ks (numName logM (l0 + 1 + ini.length)) x) hl1
      have hck := cutK_le ks (numName logM (l0 + 1 + ini.length)) x (h.rok.sync _ _ h1)
      refine ⟨ini.flatten.length + q, ?_, ?_, by rw [hfl, List.length_append]; omega, fun hneg => ?_⟩
      · have hsome : (look (crashR j.r L') (numName logM (l0 + 1 + ini.length))).map (·.data) = some ((allB l).take (cutK ks (numName logM (l0 + 1 + ini.length)) x)) := by
          rw [hlast]
          unfold crashF
          rw [if_neg hno, ← h2]
          rfl
        rw [view_grown hb hk rfl (ini.map allB ++ [(allB l).take (cutK ks (numName logM (l0 + 1 + ini.length)) x)]) (fun k hkn => ?_) (fun i d hi => ?_), List.map_append, hini2, hfl, List.flatten_append, List.map_cons, List.map_nil, hq1]
        · rw [List.take_length_add_append]
          simp
        · rw [hold k (fun i hi => hkn i (by rw [hlen] at hi; simpa using hi))]
        · by_cases e2 : i < ini.length
          · rw [List.getElem?_append_left (by simpa using e2), List.getElem?_map, Option.map_eq_some_iff] at hi
            obtain ⟨d', hd', rfl⟩ := hi
            rw [hini i d' hd']
            rfl
          · have hil := (List.getElem?_eq_some_iff.1 hi).1
            rw [List.length_append, List.length_map] at hil
            obtain rfl : i = ini.length := by simp at hil; omega
            rw [List.getElem?_append_right (by simp)] at hi
            simp at hi
            rw [← hi]
            exact hsome
      · rw [cnt_snoc]
        have := hq3 sy hsyl (by rw [← h5]; exact hck.1)
        omega
      · rw [cnt_snoc]
        have hcut : cutK ks (numName logM (l0 + 1 + ini.length)) x = x.synced := by
          unfold cutK
          have := hneg (numName logM (l0 + 1 + ini.length))
          have hs := h.rok.sync _ _ h1
          omega
        rw [hcut, h5] at hq1
        have e1 : (allB l).take (allB (l.take sy)).length = allB (l.take sy) := by
          have e2 : allB l = allB (l.take sy) ++ allB (l.drop sy) := by rw [← allB_append, List.take_append_drop]
          rw [e2, List.take_left']
          rfl
        rw [e1, cutB_all', okR_id (fun r hr => hl1 r (List.mem_of_mem_take hr))] at hq1
        have e3 := congrArg List.length hq1
        rw [List.length_take, List.length_take] at e3
        omega

theorem nameB_nm (mark : List UInt8) (k : Nat) : (nameB mark k).data.toList = numName mark k := nameB_list mark k

/-- A new log. -/
theorem Grows.fresh (h : Grows r0 l0 j ls (lastLen ls)) (hb : Base r0 l0) {rec : List UInt8} (hr : rec.length ≤ 4096) (h0 : (appP j.r (nameB logM (j.last + 1)) (frameB rec)).2 = 0) (hall : ∀ i l, ls[i]? = some l → ∀ x, look j.r (numName logM (l0 + 1 + i)) = some x → x.fresh = false) :
    Grows r0 l0 ⟨(appP j.r (nameB logM (j.last + 1)) (frameB rec)).1, j.last + 1, true⟩ (ls ++ [[rec]]) 0 := by
  have hgone : (appP j.r (nameB logM (j.last + 1)) (frameB rec)).1.Gone = [] := by
    unfold appP appendR
    repeat' split
    all_goals exact h.gone
  have hlook : ∀ k, look (appP j.r (nameB logM (j.last + 1)) (frameB rec)).1 k = if k = numName logM (l0 + 1 + ls.length) then some (grown (look j.r k) (frameB rec)) else look j.r k := fun k => by
    rw [look_app h0, nameB_nm, h.last, show l0 + ls.length + 1 = l0 + 1 + ls.length by omega]
  have hnone : look j.r (numName logM (l0 + 1 + ls.length)) = none := by
    rw [h.old _ (fun i hi e => by have := numName_inj e; omega)]
    exact hb.top _ (by omega)
  refine ⟨h.rok.append _ _, hgone, by rw [h.last, List.length_append]; rfl, by simp, fun k hk => ?_, fun i l hi => ?_, fun l hl => ?_, by rw [len_snoc]; exact Nat.zero_le _⟩
  · show look (appP j.r (nameB logM (j.last + 1)) (frameB rec)).1 k = _
    rw [hlook, if_neg (hk ls.length (by simp))]
    exact h.old k (fun i hi => hk i (by simp; omega))
  · show ∃ x, look (appP j.r (nameB logM (j.last + 1)) (frameB rec)).1 _ = some x ∧ _
    rw [hlook]
    by_cases e : i = ls.length
    · subst e
      rw [if_pos rfl, hnone]
      have hl : l = [rec] := by simpa using hi.symm
      subst hl
      exact ⟨_, rfl, by show [] ++ frameB rec = _; rw [allB_cons, putB_ok hr, allB_nil]; simp, fun h2 => by simp at h2, fun _ => ⟨by show 0 = _; rfl, fun _ => rfl⟩⟩
    · have hil : i < ls.length := by have := (List.getElem?_eq_some_iff.1 hi).1; simp at this; omega
      rw [if_neg (fun e2 => e (by have := numName_inj e2; omega))]
      rw [List.getElem?_append_left hil] at hi
      obtain ⟨x, h1, h2, h3, h4⟩ := h.new i l hi
      refine ⟨x, h1, h2, fun _ => ?_, fun e2 => by simp at e2; omega⟩
      by_cases e2 : i + 1 < ls.length
      · exact h3 e2
      · refine ⟨?_, hall i l hi x h1⟩
        have e3 : i + 1 = ls.length := by omega
        have hl : ls.getLast? = some l := by rw [List.getLast?_eq_getElem?, show ls.length - 1 = i by omega]; exact hi
        have h5 := (h4 e3).1
        rw [show lastLen ls = l.length by unfold lastLen; rw [hl]; rfl, List.take_length, ← h2] at h5
        exact h5
  · rcases List.mem_append.1 hl with hl | hl
    · exact h.ok l hl
    · obtain rfl : l = [rec] := by simpa using hl
      exact ⟨by simp, fun r hr2 => by obtain rfl : r = rec := by simpa using hr2
                                      exact hr, .inl rfl⟩

/-- More in the log that is written. -/
theorem Grows.more {ini : List (List (List UInt8))} {l : List (List UInt8)} (h : Grows r0 l0 j (ini ++ [l]) sy) {rec : List UInt8} (hr : rec.length ≤ 4096) (h0 : (appP j.r (nameB logM j.last) (frameB rec)).2 = 0) (hfit : (allB l).length + (frameB rec).length ≤ 1024) :
    Grows r0 l0 ⟨(appP j.r (nameB logM j.last) (frameB rec)).1, j.last, j.wr⟩ (ini ++ [l ++ [rec]]) sy := by
  have hgone : (appP j.r (nameB logM j.last) (frameB rec)).1.Gone = [] := by
    unfold appP appendR
    repeat' split
    all_goals exact h.gone
  have hlast : j.last = l0 + 1 + ini.length := by rw [h.last, List.length_append]; simp; omega
  have hlook : ∀ k, look (appP j.r (nameB logM j.last) (frameB rec)).1 k = if k = numName logM (l0 + 1 + ini.length) then some (grown (look j.r k) (frameB rec)) else look j.r k := fun k => by
    rw [look_app h0, nameB_nm, hlast]
  have hsyl : sy ≤ l.length := by have := h.most; rwa [len_snoc] at this
  obtain ⟨_, hok1, _⟩ := h.ok l (by simp)
  refine ⟨h.rok.append _ _, hgone, by rw [h.last]; simp, by rw [h.wr]; simp, fun k hk => ?_, fun i d hi => ?_, fun d hd => ?_, by rw [len_snoc, List.length_append]; omega⟩
  · show look (appP j.r (nameB logM j.last) (frameB rec)).1 k = _
    rw [hlook, if_neg (hk ini.length (by simp))]
    exact h.old k (fun i hi => hk i (by simpa using hi))
  · show ∃ x, look (appP j.r (nameB logM j.last) (frameB rec)).1 _ = some x ∧ _
    rw [hlook]
    by_cases e : i = ini.length
    · subst e
      obtain ⟨x, h1, h2, h3, h4⟩ := h.new ini.length l (by simp)
      obtain ⟨h5, h6⟩ := h4 (by simp)
      rw [if_pos rfl, h1]
      have hl : d = l ++ [rec] := by simpa using hi.symm
      subst hl
      refine ⟨_, rfl, by show x.data ++ frameB rec = _; rw [h2, allB_snoc, putB_ok hr], fun h2 => by simp at h2, fun _ => ⟨?_, h6⟩⟩
      show x.synced = _
      rw [h5, List.take_append_of_le_length hsyl]
    · have hil : i < ini.length := by have := (List.getElem?_eq_some_iff.1 hi).1; simp at this; omega
      rw [if_neg (fun e2 => e (by have := numName_inj e2; omega))]
      rw [List.getElem?_append_left hil] at hi
      obtain ⟨x, h1, h2, h3, h4⟩ := h.new i d (by rw [List.getElem?_append_left hil]; exact hi)
      exact ⟨x, h1, h2, fun _ => h3 (by simp; omega), fun e2 => by simp at e2; omega⟩
  · rcases List.mem_append.1 hd with hd | hd
    · exact h.ok d (by simp [hd])
    · obtain rfl : d = l ++ [rec] := by simpa using hd
      refine ⟨by simp, fun r hr2 => ?_, .inr ?_⟩
      · rcases List.mem_append.1 hr2 with hr2 | hr2
        · exact hok1 r hr2
        · obtain rfl : r = rec := by simpa using hr2
          exact hr
      · rw [allB_snoc, List.length_append, putB_ok hr]
        exact hfit

theorem seq_three {σ : Type} (f g k : σ → σ × Int) (x : σ) : seqS [f, g, k] x = if (f x).2 = 0 then seqS [g, k] (f x).1 else f x := rfl
theorem seq_one {σ : Type} (f : σ → σ × Int) (x : σ) : seqS [f] x = f x := by
  unfold seqS
  split
  · unfold seqS
    rename_i h
    exact Prod.ext rfl h.symm
  · rfl

/-- What Add does. -/
theorem Grows.add (h : Grows r0 l0 j ls sy) (hb : Base r0 l0) (rec : List UInt8) :
    ((addJ j rec).2 = 0 ∧ rec.length ≤ 4096 ∧ ∃ ls' sy', Grows r0 l0 (addJ j rec).1 ls' sy' ∧ ls'.flatten = ls.flatten ++ [rec] ∧ cntS ls sy ≤ cntS ls' sy' ∧ cntS ls' sy' ≤ ls.flatten.length) ∨
    ((addJ j rec).2 ≠ 0 ∧ ∃ sy', Grows r0 l0 (addJ j rec).1 ls sy' ∧ cntS ls sy ≤ cntS ls sy') := by
  unfold addJ
  by_cases hbig : 4096 < rec.length
  · rw [if_pos hbig]
    exact .inr ⟨(show (1 : Int) ≠ 0 by decide), sy, h, Nat.le_refl _⟩
  rw [if_neg hbig]
  have hr : rec.length ≤ 4096 := by omega
  by_cases hfit : (j.wr && decide ((bytesR j.r (numName logM j.last)).length + (frameB rec).length ≤ 1024)) = true
  · rw [if_pos hfit, seq_one]
    rw [Bool.and_eq_true, decide_eq_true_eq] at hfit
    obtain ⟨hw, hfit⟩ := hfit
    by_cases h0 : (putJ logM j.last (frameB rec) j).2 = 0
    · refine .inl ⟨h0, hr, ?_⟩
      have h0' : (appP j.r (nameB logM j.last) (frameB rec)).2 = 0 := h0
      have hon : j.r.off = false := by
        cases ho : j.r.off with
        | false => rfl
        | true =>
          unfold appP appendR at h0'
          rw [if_pos (by unfold isOff; rw [ho]; rfl)] at h0'
          cases h0'
      rcases List.eq_nil_or_concat ls with rfl | ⟨ini, l, rfl⟩
      · rw [h.wr] at hw
        simp at hw
      rw [List.concat_eq_append] at h ⊢
      have hlast : j.last = l0 + 1 + ini.length := by rw [h.last, List.length_append]; simp; omega
      obtain ⟨x, h1, h2, _⟩ := h.new ini.length l (by simp)
      have hby : bytesR j.r (numName logM j.last) = allB l := by rw [bytes_look h.rok.names hon, hlast, h1, ← h2]; rfl
      rw [hby] at hfit
      refine ⟨ini ++ [l ++ [rec]], sy, h.more hr h0' hfit, by simp, by rw [cnt_snoc, cnt_snoc]; exact Nat.le_refl _, by rw [cnt_snoc, ← cnt_snoc (l := l)]; exact cnt_le h.most⟩
    · refine .inr ⟨h0, sy, ?_, Nat.le_refl _⟩
      have h1 : putJ logM j.last (frameB rec) j = (⟨powerR j.r, j.last, j.wr⟩, (putJ logM j.last (frameB rec) j).2) := by
        unfold putJ
        rw [look_app_no h0]
      rw [h1]
      exact h.power
  · rw [if_neg hfit, seq_three, seq_two]
    have hkey : ((finJ j).2 = 0 ∧ Grows r0 l0 (finJ j).1 ls (lastLen ls) ∧ (∀ i l, ls[i]? = some l → ∀ x, look (finJ j).1.r (numName logM (l0 + 1 + i)) = some x → x.fresh = false) ∧ (finJ j).1.last = j.last) ∨ ((finJ j).2 ≠ 0 ∧ Grows r0 l0 (finJ j).1 ls sy) := by
      unfold finJ finR
      cases hw : j.wr with
      | false =>
        have hnil : ls = [] := by
          have := h.wr
          rw [hw] at this
          cases ls with
          | nil => rfl
          | cons a b => simp at this
        subst hnil
        have hsy : sy = 0 := by have := h.most; simpa [lastLen] using this
        subst hsy
        refine .inl ⟨rfl, ?_, fun i l hi => by simp at hi, rfl⟩
        have : (⟨j.r, j.last, false⟩ : JM) = j := by cases j; simp_all
        show Grows r0 l0 ⟨j.r, j.last, false⟩ [] 0
        rw [this]
        exact h
      | true =>
        cases ho : isOff j.r with
        | false =>
          refine .inl ⟨(sync_flags _ ho).1, ?_, fun i l hi x hx => ?_, rfl⟩
          · have := h.synced hb ho
            rw [hw] at this
            exact this
          · exact (settled_sync ho _ _ hx).2
        | true =>
          have hs : syncR j.r = (powerR j.r, 13) := by unfold syncR; rw [ho]; rfl
          refine .inr ⟨?_, ?_⟩
          · show (syncR j.r).2 ≠ 0
            rw [hs]
            show (13 : Int) ≠ 0
            decide
          · show Grows r0 l0 ⟨(syncR j.r).1, j.last, true⟩ ls sy
            rw [hs, ← hw]
            exact h.power
    rcases hkey with ⟨k0, k1, k2, k3⟩ | ⟨k0, k1⟩
    · rw [if_pos k0]
      by_cases h0 : (putJ logM (j.last + 1) (frameB rec) (finJ j).1).2 = 0
      · rw [if_pos h0]
        refine .inl ⟨rfl, hr, ls ++ [[rec]], 0, ?_, by simp, by rw [cnt_snoc]; exact cnt_le h.most, by rw [cnt_snoc]; exact Nat.le_refl _⟩
        have h0' : (appP (finJ j).1.r (nameB logM ((finJ j).1.last + 1)) (frameB rec)).2 = 0 := by rw [k3]; exact h0
        have h1 := k1.fresh hb hr h0' k2
        rw [k3] at h1
        exact h1
      · rw [if_neg h0]
        refine .inr ⟨h0, lastLen ls, ?_, by rw [cnt_all]; exact cnt_le h.most⟩
        have h1 : putJ logM (j.last + 1) (frameB rec) (finJ j).1 = (⟨powerR (finJ j).1.r, (finJ j).1.last, (finJ j).1.wr⟩, (putJ logM (j.last + 1) (frameB rec) (finJ j).1).2) := by
          unfold putJ
          rw [look_app_no h0]
        rw [h1]
        exact k1.power
    · rw [if_neg k0]
      exact .inr ⟨k0, sy, k1, Nat.le_refl _⟩

/-- What Sync does. -/
theorem Grows.sync (h : Grows r0 l0 j ls sy) (hb : Base r0 l0) : ((syncJ j).2 = 0 ∧ Grows r0 l0 (syncJ j).1 ls (lastLen ls)) ∨ ((syncJ j).2 ≠ 0 ∧ Grows r0 l0 (syncJ j).1 ls sy) := by
  cases ho : isOff j.r with
  | false => exact .inl ⟨(sync_flags _ ho).1, h.synced hb ho⟩
  | true =>
    have hs : syncR j.r = (powerR j.r, 13) := by unfold syncR; rw [ho]; rfl
    refine .inr ⟨?_, ?_⟩
    · show (syncR j.r).2 ≠ 0
      rw [hs]
      show (13 : Int) ≠ 0
      decide
    · show Grows r0 l0 ⟨(syncR j.r).1, j.last, j.wr⟩ ls sy
      rw [hs]
      exact h.power
end

end Go.Proofs.YtdpbnacabinlgaaGreatDoor

/- The program's way of reading a value, and the document's, tell what a way must. -/
import Derived.Test.YtefcbgnckgapgaaV0
namespace Go.Proofs.Ytefcbgnckgapgaa

theorem dgo_there {n K : Nat} (t : List UInt8) (h : (digsN n).length ≤ K) : dgo ((digsN n ++ t).take K) 0 0 = (n, (digsN n).length) := by
  rw [dgo_digs n K 0 0 t h (.inl rfl)]
  simp

theorem dgo_said {l : List UInt8} {K : Nat} (h : (dgo (l.take K) 0 0).2 ≠ 0) : (dgo (l.take K) 0 0).2 ≤ l.length ∧ (dgo (l.take K) 0 0).2 ≤ K ∧ digsN (dgo (l.take K) 0 0).1 = l.take (dgo (l.take K) 0 0).2 := by
  obtain ⟨m, d, h1, h2, h3, h4, _, _⟩ := dgo_back (l.take K) 0 0 _ _ rfl (Nat.pos_of_ne_zero h)
  simp only [Nat.zero_add, Nat.pow_zero, Nat.mul_one] at h1 h2
  rw [List.length_take] at h3
  rw [List.take_take, Nat.min_eq_left (by omega)] at h4
  rw [h1, h2]
  exact ⟨by omega, by omega, h4⟩

theorem digsN_lt_pow : ∀ (n : Nat), n < 128 ^ (digsN n).length := by
  intro n
  induction n using Nat.strongRecOn with
  | _ n ih =>
    by_cases h : n < 128
    · rw [digsN_lt h]; simpa using h
    · rw [digsN_ge (by omega)]
      have := ih (n / 128) (by omega)
      simp only [List.length_cons, Nat.pow_succ]
      omega

theorem dgo_six {l : List UInt8} (h : (dgo (l.take 6) 0 0).2 ≠ 0) : (dgo (l.take 6) 0 0).1 < 4398046511104 := by
  obtain ⟨h1, h2, h3⟩ := dgo_said h
  have h4 := digsN_lt_pow (dgo (l.take 6) 0 0).1
  have h5 : (digsN (dgo (l.take 6) 0 0).1).length ≤ 6 := by rw [h3, List.length_take]; omega
  exact Nat.lt_of_lt_of_le h4 (Nat.pow_le_pow_right (by omega) h5)

theorem dgo_one {l : List UInt8} {K : Nat} (h : (dgo (l.take K) 0 0).2 ≠ 0) (hn : (dgo (l.take K) 0 0).1 < 128) : (dgo (l.take K) 0 0).2 = 1 ∧ l.take 1 = [UInt8.ofNat (dgo (l.take K) 0 0).1] := by
  obtain ⟨h1, h2, h3⟩ := dgo_said h
  rw [digsN_lt hn] at h3
  have h4 := congrArg List.length h3
  rw [List.length_take] at h4
  simp at h4
  have h5 : (dgo (l.take K) 0 0).2 = 1 := by omega
  exact ⟨h5, by rw [← h5]; exact h3.symm⟩

theorem u8_eq {c : UInt8} {n : Nat} (h : c.toNat = n) : c = UInt8.ofNat n := by
  apply UInt8.toNat_inj.1
  have := c.toNat_lt
  rw [u8_ofNat (by omega), h]

theorem getV_reads : Reads getV where
  there v t hv := by
    obtain ⟨k, n, s⟩ := v
    rcases rightB_kind hv with h | h | h
    · obtain rfl : k = 1 := h
      obtain ⟨h1, h2, rfl⟩ := rightB_1.1 hv
      rw [putV_1 h1 h2]
      have hz := zig_lt h1 h2
      have hd := dgo_there (n := zigN n) (K := 6) t (digsN_six (by omega))
      have hp := digsN_pos (zigN n)
      show getV ((1 : UInt8) :: (digsN (zigN n) ++ t)) = _
      unfold getV
      simp only [hd]
      rw [if_neg (by omega), if_neg (by decide), if_neg (by decide), if_pos (by decide), zag_zig, if_pos ⟨h1, h2⟩]
      simp [Nat.add_comm]
    · obtain rfl : k = 2 := h
      obtain ⟨rfl, h2⟩ := rightB_2.1 hv
      rw [putV_2 h2]
      have hd := dgo_there (n := s.length) (K := 6) (s ++ t) (digsN_six (by omega))
      rw [digsN_lt (by omega)] at hd
      show getV ((2 : UInt8) :: ([UInt8.ofNat s.length] ++ (s ++ t))) = _
      unfold getV
      simp only [hd]
      have e : ([UInt8.ofNat s.length] ++ (s ++ t)).drop [UInt8.ofNat s.length].length = s ++ t := List.drop_left
      rw [e, if_neg (by simp), if_pos (by decide), if_neg (by simp; omega)]
      simp
      omega
    · obtain rfl : k = 3 := h
      obtain ⟨h1, h2, rfl⟩ := rightB_3.1 hv
      rw [putV_3 h1 h2]
      have hd := dgo_there (n := n.toNat) (K := 6) t (digsN_six (by omega))
      rw [digsN_lt (by omega)] at hd
      show getV ((3 : UInt8) :: ([UInt8.ofNat n.toNat] ++ t)) = _
      unfold getV
      simp only [hd]
      rw [if_neg (by simp), if_neg (by decide), if_pos (by decide), if_pos (by omega)]
      simp
      omega
  back l v k h := by
    cases l with
    | nil => simp [getV] at h
    | cons c l =>
      unfold getV at h
      simp only at h
      split at h
      · cases h
      rename_i h0
      obtain ⟨h1, h2, h3⟩ := dgo_said h0
      have h6 := dgo_six h0
      split at h
      · rename_i hc
        obtain rfl : c = 2 := u8_eq hc
        split at h
        · cases h
        rename_i hm
        simp only [Option.some.injEq, Prod.mk.injEq] at h
        obtain ⟨rfl, rfl⟩ := h
        obtain ⟨d1, d2⟩ := dgo_one h0 (by omega)
        rw [d1] at hm ⊢
        generalize dgo (l.take 6) 0 0 = d at *
        rw [List.length_drop] at hm
        have hl : ((l.drop 1).take d.1).length = d.1 := by rw [List.length_take, List.length_drop]; omega
        have hr : rightB ⟨2, 0, (l.drop 1).take d.1⟩ = true := rightB_2.2 ⟨rfl, by omega⟩
        refine ⟨hr, by simp; omega, ?_⟩
        rw [putV_2 (by omega), hl, show 1 + 1 + d.1 = (1 + d.1) + 1 by omega, List.take_succ_cons, List.take_add, d2]
        rfl
      split at h
      · rename_i hc
        obtain rfl : c = 3 := u8_eq hc
        split at h
        · rename_i hle
          simp only [Option.some.injEq, Prod.mk.injEq] at h
          obtain ⟨rfl, rfl⟩ := h
          obtain ⟨d1, d2⟩ := dgo_one h0 (by omega)
          have hr : rightB ⟨3, ((dgo (l.take 6) 0 0).1 : Nat), []⟩ = true := rightB_3.2 ⟨by omega, by omega, rfl⟩
          refine ⟨hr, by simp; omega, ?_⟩
          rw [putV_3 (by omega) (by omega), d1, List.take_succ_cons, d2]
          simp
        · cases h
      split at h
      · rename_i hc
        obtain rfl : c = 1 := u8_eq hc
        split at h
        · rename_i hz
          simp only [Option.some.injEq, Prod.mk.injEq] at h
          obtain ⟨rfl, rfl⟩ := h
          refine ⟨rightB_1.2 ⟨hz.1, hz.2, rfl⟩, by simp; omega, ?_⟩
          rw [putV_1 hz.1 hz.2, zig_zag, h3, Nat.add_comm, List.take_succ_cons]
        · cases h
      · cases h

/-- The document's number of digits. -/
def numR (l : List UInt8) : Option (Nat × Nat) :=
  if (dgo (l.take 7) 0 0).2 = 0 ∨ 2199023255552 < (dgo (l.take 7) 0 0).1 then none else some (dgo (l.take 7) 0 0)

/-- What the document's Get reads. -/
def refV (l : List UInt8) : Option (PVal × Nat) :=
  match l with
  | c :: d :: t =>
    if c.toNat = 1 then
      (match numR (d :: t) with
      | none => none
      | some x => if rightB ⟨1, zagN x.1, []⟩ then some (⟨1, zagN x.1, []⟩, 1 + x.2) else none)
    else if c.toNat = 2 then (if t.length < d.toNat then none else if rightB ⟨2, 0, t.take d.toNat⟩ then some (⟨2, 0, t.take d.toNat⟩, 2 + d.toNat) else none)
    else if c.toNat = 3 then (if rightB ⟨3, d.toNat, []⟩ then some (⟨3, d.toNat, []⟩, 2) else none)
    else none
  | _ => none

theorem refV_reads : Reads refV where
  there v t hv := by
    obtain ⟨k, n, s⟩ := v
    rcases rightB_kind hv with h | h | h
    · obtain rfl : k = 1 := h
      obtain ⟨h1, h2, rfl⟩ := rightB_1.1 hv
      have hz := zig_lt h1 h2
      have hd := dgo_there (n := zigN n) (K := 7) t (Nat.le_trans (digsN_six (by omega)) (by omega))
      have hp := digsN_pos (zigN n)
      rw [putV_1 h1 h2]
      have hnum : numR (digsN (zigN n) ++ t) = some (zigN n, (digsN (zigN n)).length) := by
        unfold numR
        rw [hd, if_neg (fun h => by rcases h with h | h <;> (dsimp only at h; omega))]
      cases hl : digsN (zigN n) with
      | nil => rw [hl] at hp; simp at hp
      | cons d r =>
        rw [hl] at hnum
        show refV ((1 : UInt8) :: d :: (r ++ t)) = _
        have hnum' : numR (d :: (r ++ t)) = some (zigN n, (d :: r).length) := hnum
        unfold refV
        simp only [hnum']
        rw [if_pos (by decide), zag_zig, if_pos hv]
        simp
        omega
    · obtain rfl : k = 2 := h
      obtain ⟨rfl, h2⟩ := rightB_2.1 hv
      rw [putV_2 h2]
      show refV ((2 : UInt8) :: UInt8.ofNat s.length :: (s ++ t)) = _
      have e : (UInt8.ofNat s.length).toNat = s.length := u8_ofNat (by omega)
      have e2 : (s ++ t).take s.length = s := List.take_left
      unfold refV
      simp only [e, e2]
      rw [if_neg (by decide), if_pos (by decide), if_neg (by simp), if_pos hv]
      simp
      omega
    · obtain rfl : k = 3 := h
      obtain ⟨h1, h2, rfl⟩ := rightB_3.1 hv
      rw [putV_3 h1 h2]
      show refV ((3 : UInt8) :: UInt8.ofNat n.toNat :: t) = _
      have e : ((UInt8.ofNat n.toNat).toNat : Int) = n := by rw [u8_ofNat (by omega)]; omega
      unfold refV
      simp only [e]
      rw [if_neg (by decide), if_neg (by decide), if_pos (by decide), if_pos hv]
      rfl
  back l v k h := by
    match l, h with
    | [], h => simp [refV] at h
    | [_], h => simp [refV] at h
    | c :: d :: t, h =>
      unfold refV at h
      simp only at h
      have hd := d.toNat_lt
      split at h
      · rename_i hc
        obtain rfl : c = 1 := u8_eq hc
        cases hn : numR (d :: t) with
        | none => rw [hn] at h; cases h
        | some x =>
          rw [hn] at h
          simp only at h
          split at h
          · rename_i hr
            simp only [Option.some.injEq, Prod.mk.injEq] at h
            obtain ⟨rfl, rfl⟩ := h
            unfold numR at hn
            split at hn
            · cases hn
            rename_i hx
            rw [not_or] at hx
            obtain ⟨h1, h2, h3⟩ := dgo_said hx.1
            injection hn with hn
            rw [hn] at h1 h2 h3
            have hr' := rightB_1.1 hr
            refine ⟨hr, by simp at h1 ⊢; omega, ?_⟩
            rw [putV_1 hr'.1 hr'.2.1, zig_zag, h3, Nat.add_comm, List.take_succ_cons]
          · cases h
      split at h
      · rename_i hc
        obtain rfl : c = 2 := u8_eq hc
        split at h
        · cases h
        split at h
        · rename_i hlt hr
          simp only [Option.some.injEq, Prod.mk.injEq] at h
          obtain ⟨rfl, rfl⟩ := h
          have hl : (t.take d.toNat).length = d.toNat := by rw [List.length_take]; omega
          have hr' := rightB_2.1 hr
          refine ⟨hr, by simp; omega, ?_⟩
          rw [putV_2 hr'.2, hl, show 2 + d.toNat = d.toNat + 1 + 1 by omega, List.take_succ_cons, List.take_succ_cons, ← u8_eq rfl]
        · cases h
      split at h
      · rename_i hc
        obtain rfl : c = 3 := u8_eq hc
        split at h
        · rename_i hr
          simp only [Option.some.injEq, Prod.mk.injEq] at h
          obtain ⟨rfl, rfl⟩ := h
          have hr' := rightB_3.1 hr
          refine ⟨hr, by simp, ?_⟩
          rw [putV_3 hr'.1 hr'.2.1]
          simp
        · cases h
      · cases h

/-- The program reads what the document reads. -/
theorem getV_ref (l : List UInt8) : getV l = refV l := getV_reads.same refV_reads l

end Go.Proofs.Ytefcbgnckgapgaa

/- The document's own way of reading an event, in plain words: it is the program's. -/
import Derived.Test.YtppgecbjdkfohaaE0e
import Derived.Test.YtppgecbjdkfohaaV1
namespace Go.Proofs.Ytppgecbjdkfohaa

/-- A number up to a greatest one that bytes begin with, and how many they are. -/
def numZ (z : Int) (l : List UInt8) : Option (Nat × Nat) := if (dgo (l.take 7) 0 0).2 = 0 ∨ z < ((dgo (l.take 7) 0 0).1 : Int) then none else some (dgo (l.take 7) 0 0)

theorem numZ_none {z : Int} {l : List UInt8} (h : (dgo (l.take 7) 0 0).2 = 0 ∨ z < ((dgo (l.take 7) 0 0).1 : Int)) : numZ z l = none := if_pos h
theorem numZ_some {z : Int} {l : List UInt8} (h : ¬ ((dgo (l.take 7) 0 0).2 = 0 ∨ z < ((dgo (l.take 7) 0 0).1 : Int))) : numZ z l = some (dgo (l.take 7) 0 0) := if_neg h

theorem numZ_back {z : Int} {l : List UInt8} {n m : Nat} (h : numZ z l = some (n, m)) : (n : Int) ≤ z ∧ m ≤ l.length ∧ 0 < m ∧ m ≤ 7 ∧ digsN n = l.take m := by
  unfold numZ at h
  split at h
  · cases h
  · rename_i h0
    rw [not_or] at h0
    injection h with h
    obtain ⟨h1, h2, h3⟩ := dgo_said h0.1
    rw [h] at h0 h1 h2 h3
    exact ⟨by omega, h1, Nat.pos_of_ne_zero h0.1, h2, h3⟩

theorem numZ_digs {z : Int} {n : Nat} (h : (n : Int) ≤ z) (hn : n < 4398046511104) (t : List UInt8) : numZ z (digsN n ++ t) = some (n, (digsN n).length) := by
  have h7 : (digsN n).length ≤ 7 := Nat.le_trans (digsN_six hn) (by omega)
  have hd := dgo_there (n := n) (K := 7) t h7
  rw [numZ_some (by rw [hd, not_or]; exact ⟨Nat.ne_of_gt (digsN_pos n), by dsimp only; omega⟩), hd]

/-- Numbers up to 2 ^ 40, one behind the other. -/
def numsR : Nat → List UInt8 → Option (List Nat × Nat)
  | 0, _ => some ([], 0)
  | k + 1, l => match numZ 1099511627776 l with
    | none => none
    | some (n, m) => match numsR k (l.drop m) with
      | none => none
      | some (ns, q) => some (n :: ns, m + q)
/-- Values, one behind the other. -/
def valsR : Nat → List UInt8 → Option (List PVal × Nat)
  | 0, _ => some ([], 0)
  | k + 1, l => match refV l with
    | none => none
    | some (v, m) => match valsR k (l.drop m) with
      | none => none
      | some (vs, q) => some (v :: vs, m + q)

theorem numsR_cons {k : Nat} {l : List UInt8} {n m q : Nat} {ns : List Nat} (h : numsR (k + 1) l = some (n :: ns, q)) (hz : numZ 1099511627776 l = some (n, m)) : ∃ q', numsR k (l.drop m) = some (ns, q') ∧ q = m + q' := by
  unfold numsR at h
  rw [hz] at h
  dsimp only at h
  cases h1 : numsR k (l.drop m) with
  | none => rw [h1] at h; cases h
  | some x =>
    rw [h1] at h
    simp only [Option.some.injEq, Prod.mk.injEq, List.cons.injEq, true_and] at h
    exact ⟨x.2, by rw [← h.1], h.2.symm⟩

/-- What is read as numbers are their digits. -/
theorem numsR_back : ∀ (k : Nat) (l : List UInt8) (ns : List Nat) (q : Nat), numsR k l = some (ns, q) → ns.length = k ∧ q ≤ l.length ∧ (∀ n ∈ ns, n ≤ 1099511627776) ∧ ns.flatMap digsN = l.take q
  | 0, l, ns, q, h => by
    simp only [numsR, Option.some.injEq, Prod.mk.injEq] at h
    obtain ⟨rfl, rfl⟩ := h
    exact ⟨rfl, Nat.zero_le _, (fun n hn => by cases hn), rfl⟩
  | k + 1, l, ns, q, h => by
    unfold numsR at h
    split at h
    · cases h
    · rename_i n m hz
      split at h
      · cases h
      · rename_i ns' q' hr
        simp only [Option.some.injEq, Prod.mk.injEq] at h
        obtain ⟨rfl, rfl⟩ := h
        obtain ⟨h1, h2, _, _, h3⟩ := numZ_back hz
        obtain ⟨i1, i2, i3, i4⟩ := numsR_back k _ ns' q' hr
        rw [List.length_drop] at i2
        refine ⟨by simp [i1], by omega, fun x hx => ?_, ?_⟩
        · rcases List.mem_cons.1 hx with rfl | hx
          · omega
          · exact i3 x hx
        · rw [List.flatMap_cons, i4, h3, List.take_add]
theorem numsR_digs : ∀ (ns : List Nat) (t : List UInt8), (∀ n ∈ ns, n ≤ 1099511627776) → numsR ns.length (ns.flatMap digsN ++ t) = some (ns, (ns.flatMap digsN).length)
  | [], t, _ => rfl
  | n :: ns, t, h => by
    have hn := h n (by simp)
    have h1 := numZ_digs (z := 1099511627776) (n := n) (by omega) (by omega) (ns.flatMap digsN ++ t)
    have h2 := numsR_digs ns t (fun x hx => h x (List.mem_cons_of_mem _ hx))
    simp only [List.flatMap_cons, List.append_assoc, List.length_cons, numsR, h1, List.drop_left, h2, List.length_append]

theorem valsR_back : ∀ (k : Nat) (l : List UInt8) (vs : List PVal) (q : Nat), valsR k l = some (vs, q) → vs.length = k ∧ q ≤ l.length ∧ vs.all rightB = true ∧ putVs vs = l.take q
  | 0, l, vs, q, h => by
    simp only [valsR, Option.some.injEq, Prod.mk.injEq] at h
    obtain ⟨rfl, rfl⟩ := h
    exact ⟨rfl, Nat.zero_le _, rfl, rfl⟩
  | k + 1, l, vs, q, h => by
    unfold valsR at h
    split at h
    · cases h
    · rename_i v m hz
      split at h
      · cases h
      · rename_i vs' q' hr
        simp only [Option.some.injEq, Prod.mk.injEq] at h
        obtain ⟨rfl, rfl⟩ := h
        obtain ⟨h1, h2, h3⟩ := refV_reads.back _ _ _ hz
        obtain ⟨i1, i2, i3, i4⟩ := valsR_back k _ vs' q' hr
        rw [List.length_drop] at i2
        refine ⟨by simp [i1], by omega, by simp [h1, i3], ?_⟩
        rw [putVs, i4, h3, List.take_add]
theorem valsR_put : ∀ (vs : List PVal) (t : List UInt8), vs.all rightB = true → valsR vs.length (putVs vs ++ t) = some (vs, (putVs vs).length)
  | [], t, _ => rfl
  | v :: vs, t, h => by
    simp only [List.all_cons, Bool.and_eq_true] at h
    have h1 := refV_reads.there v (putVs vs ++ t) h.1
    have h2 := valsR_put vs t h.2
    simp only [putVs, List.append_assoc, List.length_cons, valsR, h1, List.drop_left, h2, List.length_append]

/-- What the document's Get reads. -/
def rgetE (b : List UInt8) : Option PEv :=
  match numsR 4 b with
  | some ([t, d, s, n], a) =>
    if 3 < d ∨ b.length - a < n then none else
    match numZ 8 (b.drop (a + n)) with
    | none => none
    | some (m, k) => match valsR m (b.drop (a + n + k)) with
      | none => none
      | some (vs, q) => if a + n + k + q = b.length ∧ rightE ⟨t, d, s, (b.drop a).take n, vs⟩ = true then some ⟨t, d, s, (b.drop a).take n, vs⟩ else none
  | _ => none

theorem take_drop_len {b : List UInt8} {q n : Nat} (h : q + n ≤ b.length) : ((b.drop q).take n).length = n := by rw [List.length_take, List.length_drop]; omega

theorem rgetE_some {b : List UInt8} {e : PEv} (h : rgetE b = some e) : rightE e = true ∧ putE e = b := by
  unfold rgetE at h
  split at h
  · rename_i t d s n a hn
    obtain ⟨i1, i2, i3, i4⟩ := numsR_back _ _ _ _ hn
    split at h
    · cases h
    · rename_i hc
      rw [not_or] at hc
      split at h
      · cases h
      · rename_i m k hz
        split at h
        · cases h
        · rename_i vs q hv
          split at h
          · rename_i hq
            injection h with h
            subst h
            obtain ⟨j1, j2, _, _, j3⟩ := numZ_back hz
            obtain ⟨k1, k2, k3, k4⟩ := valsR_back _ _ _ _ hv
            refine ⟨hq.2, ?_⟩
            rw [putE_right hq.2]
            rw [List.length_drop] at j2 k2
            have hl := take_drop_len (b := b) (q := a) (n := n) (by omega)
            unfold bodyE
            dsimp only
            rw [hl, Int.toNat_natCast, Int.toNat_natCast, Int.toNat_natCast, k1, j3, k4]
            simp only [List.flatMap_cons, List.flatMap_nil, List.append_nil] at i4
            have hq1 := hq.1
            have e0 : (b.drop (a + n + k)).take q = b.drop (a + n + k) := List.take_of_length_le (by rw [List.length_drop]; omega)
            have e1 : (b.drop (a + n)).take k ++ b.drop (a + n + k) = b.drop (a + n) := by
              rw [show b.drop (a + n + k) = (b.drop (a + n)).drop k by rw [List.drop_drop]]; exact List.take_append_drop _ _
            have e2 : (b.drop a).take n ++ b.drop (a + n) = b.drop a := by
              rw [show b.drop (a + n) = (b.drop a).drop n by rw [List.drop_drop]]; exact List.take_append_drop _ _
            rw [e0, e1, e2]
            have e3 : digsN t ++ (digsN d ++ (digsN s ++ (digsN n ++ b.drop a))) = (digsN t ++ (digsN d ++ (digsN s ++ digsN n))) ++ b.drop a := by simp only [List.append_assoc]
            rw [e3, i4]
            exact List.take_append_drop _ _
          · cases h
  · cases h

theorem drop_two (F G R : List UInt8) : (F ++ (G ++ R)).drop (F.length + G.length) = R := by
  rw [← List.append_assoc, ← List.length_append, List.drop_left]
theorem drop_three (F G H R : List UInt8) : (F ++ (G ++ (H ++ R))).drop (F.length + G.length + H.length) = R := by
  rw [← List.append_assoc, ← List.append_assoc, ← List.length_append, ← List.length_append, List.append_assoc F G H, ← List.append_assoc F G H, List.drop_left]

theorem rgetE_put {e : PEv} (h : rightE e = true) : rgetE (putE e) = some e := by
  obtain ⟨⟨t1, t2⟩, ⟨s1, s2⟩, ⟨d1, d2⟩, hw, h8, hall⟩ := rightE_iff.1 h
  have hn := (wordB_len hw).2
  obtain ⟨t, d, s, n, vs⟩ := e
  dsimp only at t1 t2 s1 s2 d1 d2 hn h8 hall
  obtain ⟨t, rfl⟩ : ∃ q : Nat, t = q := ⟨t.toNat, by omega⟩
  obtain ⟨d, rfl⟩ : ∃ q : Nat, d = q := ⟨d.toNat, by omega⟩
  obtain ⟨s, rfl⟩ : ∃ q : Nat, s = q := ⟨s.toNat, by omega⟩
  have hb : putE ⟨t, d, s, n, vs⟩ = [t, d, s, n.length].flatMap digsN ++ (n ++ (digsN vs.length ++ putVs vs)) := by
    rw [putE_right h]
    unfold bodyE
    simp only [Int.toNat_natCast, List.flatMap_cons, List.flatMap_nil, List.append_nil, List.append_assoc]
  have h0 := numsR_digs [t, d, s, n.length] (n ++ (digsN vs.length ++ putVs vs)) (fun x hx => by
    simp only [List.mem_cons, List.not_mem_nil, or_false] at hx
    omega)
  rw [hb]
  generalize [t, d, s, n.length].flatMap digsN = F at h0
  have h1 : numsR 4 (F ++ (n ++ (digsN vs.length ++ putVs vs))) = some ([t, d, s, n.length], F.length) := h0
  have h2 := drop_two F n (digsN vs.length ++ putVs vs)
  have h3 := drop_three F n (digsN vs.length) (putVs vs)
  have h4 : (F ++ (n ++ (digsN vs.length ++ putVs vs))).drop F.length = n ++ (digsN vs.length ++ putVs vs) := List.drop_left
  have h5 := numZ_digs (z := 8) (n := vs.length) (by omega) (by omega) (putVs vs)
  have h6 := valsR_put vs [] hall
  rw [List.append_nil] at h6
  unfold rgetE
  rw [h1]
  dsimp only
  rw [if_neg (by rw [not_or]; exact ⟨by omega, by simp⟩), h2, h5]
  dsimp only
  rw [h3, h6]
  dsimp only
  rw [h4, List.take_left, if_pos ⟨by simp only [List.length_append]; omega, h⟩]

/-- Both ways of reading are one. -/
theorem rgetE_getE (b : List UInt8) : rgetE b = getE b := by
  cases h1 : rgetE b with
  | some e =>
    obtain ⟨h2, h3⟩ := rgetE_some h1
    rw [← h3, getE_put h2]
  | none =>
    cases h2 : getE b with
    | none => rfl
    | some e =>
      obtain ⟨h3, h4, _⟩ := getE_some h2
      rw [← h4, rgetE_put h3] at h1
      cases h1

end Go.Proofs.Ytppgecbjdkfohaa

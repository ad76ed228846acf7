/- Frames, put and cut, in plain words: what is put is cut to the same records; torn ends; whatever stands behind. -/
import Derived.Test.YtppgecbjdkfohaaF4
namespace Go.Proofs.Ytppgecbjdkfohaa
open Go.RowKit Go.Lib

theorem strB_inj {a b : List UInt8} (h : strB a = strB b) : a = b := by rw [← strB_list a, ← strB_list b, h]
theorem strB_of (s : ByteArray) : strB s.data.toList = s := by apply ByteArray.ext; simp [strB]

theorem toNat_ofNat {n : Nat} (h : n < 256) : (UInt8.ofNat n).toNat = n := by simp; omega

theorem frameB_says (r t : List UInt8) (hr : r.length ≤ 4096) : saysN (frameB r ++ t) = r.length := by
  have h1 : byteN (frameB r ++ t) 1 = (UInt8.ofNat (r.length / 256)).toNat := rfl
  have h2 : byteN (frameB r ++ t) 2 = (UInt8.ofNat (r.length % 256)).toNat := rfl
  rw [saysN, h1, h2, toNat_ofNat (by omega), toNat_ofNat (by omega)]
  omega

theorem firstB_frame (r t : List UInt8) (hr : r.length ≤ 4096) : firstB (frameB r ++ t) = some r := by
  have hs := frameB_says r t hr
  have hsn := sumN_lt r
  have hl : (frameB r ++ t).length = r.length + 5 + t.length := by rw [List.length_append, frameB_length]
  have hd : (frameB r ++ t).drop 5 = r ++ t := rfl
  have ht : ((frameB r ++ t).drop 5).take (saysN (frameB r ++ t)) = r := by rw [hd, hs]; exact List.take_left
  have h3 : byteN (frameB r ++ t) 3 = (UInt8.ofNat (sumN r / 256)).toNat := rfl
  have h4 : byteN (frameB r ++ t) 4 = (UInt8.ofNat (sumN r % 256)).toNat := rfl
  have h := firstB_some (l := frameB r ++ t) (by omega) rfl (by omega) (by omega) (by rw [ht, h3, h4, toNat_ofNat (by omega), toNat_ofNat (by omega)]; omega)
  rw [ht] at h
  exact h

theorem drop_frame (r t : List UInt8) : (frameB r ++ t).drop (r.length + 5) = t := by
  rw [← frameB_length r]; exact List.drop_left

theorem cutB_frame (r t : List UInt8) (hr : r.length ≤ 4096) : cutB (frameB r ++ t) = r :: cutB t := by
  rw [cutB_some (firstB_frame r t hr), drop_frame]

/-- Of a frame that is torn nothing is left. -/
theorem firstB_torn (r : List UInt8) (k : Nat) (hk : k < r.length + 5) (hr : r.length ≤ 4096) : firstB ((frameB r).take k) = none := by
  have hl : ((frameB r).take k).length = k := by rw [List.length_take, frameB_length]; omega
  by_cases h5 : k < 5
  · exact firstB_short (by omega)
  · have hs : saysN ((frameB r).take k) = r.length := by
      have h0 := frameB_says r [] hr
      rw [List.append_nil] at h0
      have hb : ∀ i, i < 5 → byteN ((frameB r).take k) i = byteN (frameB r) i := fun i hi => by
        unfold byteN
        rw [List.getD_eq_getElem?_getD, List.getElem?_take_of_lt (by omega), ← List.getD_eq_getElem?_getD]
      rw [← h0, saysN, saysN, hb 1 (by omega), hb 2 (by omega)]
    have h0 : byteN ((frameB r).take k) 0 = 82 := by
      unfold byteN
      rw [List.getD_eq_getElem?_getD, List.getElem?_take_of_lt (by omega), ← List.getD_eq_getElem?_getD]
      rfl
    exact firstB_more (by omega) h0 (by omega) (by omega)

/-- Records that have frames. -/
def okR (rs : List (List UInt8)) : List (List UInt8) := rs.filter fun r => decide (r.length ≤ 4096)

/-- Records' frames, one behind the other. -/
def allB (rs : List (List UInt8)) : List UInt8 := (rs.map putB).flatten

theorem putB_long {r : List UInt8} (h : 4096 < r.length) : putB r = [] := if_pos h
theorem putB_ok {r : List UInt8} (h : r.length ≤ 4096) : putB r = frameB r := if_neg (by omega)
theorem putB_length (r : List UInt8) : (putB r).length = if 4096 < r.length then 0 else r.length + 5 := by
  unfold putB; split
  · rfl
  · exact frameB_length r
theorem putB_le (r : List UInt8) : (putB r).length ≤ r.length + 5 := by rw [putB_length]; split <;> omega

theorem allB_nil : allB [] = [] := rfl
theorem allB_cons (r : List UInt8) (rs : List (List UInt8)) : allB (r :: rs) = putB r ++ allB rs := rfl
theorem allB_append (a b : List (List UInt8)) : allB (a ++ b) = allB a ++ allB b := by simp [allB]
theorem allB_snoc (rs : List (List UInt8)) (r : List UInt8) : allB (rs ++ [r]) = allB rs ++ putB r := by simp [allB]

/-- What stands behind records' frames is cut behind them. -/
theorem cutB_all : ∀ (rs : List (List UInt8)) (t : List UInt8), cutB (allB rs ++ t) = okR rs ++ cutB t
  | [], t => rfl
  | r :: rs, t => by
    have ih := cutB_all rs t
    by_cases h : r.length ≤ 4096
    · have e1 : okR (r :: rs) = r :: okR rs := by simp [okR, h]
      rw [allB_cons, putB_ok h, List.append_assoc, cutB_frame r _ h, ih, e1]
      rfl
    · have e1 : okR (r :: rs) = okR rs := by simp [okR, h]
      rw [allB_cons, putB_long (by omega), List.nil_append, ih, e1]

theorem cutB_nil : cutB [] = [] := cutB_none (firstB_short (by simp))
theorem cutB_all' (rs : List (List UInt8)) : cutB (allB rs) = okR rs := by
  have := cutB_all rs []
  rwa [List.append_nil, cutB_nil, List.append_nil] at this

theorem lensN_okR : ∀ rs : List (List UInt8), lensN (okR rs) = (allB rs).length
  | [] => rfl
  | r :: rs => by
    have ih := lensN_okR rs
    rw [allB_cons, List.length_append, ← ih]
    by_cases h : r.length ≤ 4096
    · have e1 : okR (r :: rs) = r :: okR rs := by simp [okR, h]
      rw [e1, putB_ok h, frameB_length]
      simp [lensN]
    · have e1 : okR (r :: rs) = okR rs := by simp [okR, h]
      rw [e1, putB_long (by omega)]
      simp

theorem cutN_all (rs : List (List UInt8)) : cutN (allB rs) = (allB rs).length := by rw [cutN, cutB_all', lensN_okR]

/-- What is cut, put again, is what it was cut of. -/
theorem all_cutB : ∀ (n : Nat) (l : List UInt8), l.length = n → allB (cutB l) = l.take (cutN l) ∧ firstB (l.drop (cutN l)) = none := by
  intro n
  induction n using Nat.strongRecOn with
  | _ n ih =>
    intro l hl
    cases h : firstB l with
    | none =>
      have e1 : cutN l = 0 := by rw [cutN, cutB_none h]; rfl
      rw [e1, cutB_none h]
      exact ⟨rfl, h⟩
    | some r =>
      obtain ⟨h1, h2, h3⟩ := firstB_le h
      obtain ⟨i1, i2⟩ := ih (l.drop (r.length + 5)).length (by rw [List.length_drop]; omega) _ rfl
      have e1 : cutN l = (r.length + 5) + cutN (l.drop (r.length + 5)) := by simp [cutN, cutB_some h, lensN]
      rw [e1, cutB_some h, allB_cons, putB_ok h2, i1, ← h3]
      obtain ⟨d, hd⟩ : ∃ d, r.length + 5 = d := ⟨_, rfl⟩
      rw [hd] at i2 ⊢
      rw [List.take_add, ← List.drop_drop]
      exact ⟨rfl, i2⟩

theorem okR_cut (l : List UInt8) : okR (cutB l) = cutB l := by
  have : ∀ (n : Nat) (l : List UInt8), l.length = n → ∀ r ∈ cutB l, r.length ≤ 4096 := by
    intro n
    induction n using Nat.strongRecOn with
    | _ n ih =>
      intro l hl r hr
      cases h : firstB l with
      | none => rw [cutB_none h] at hr; cases hr
      | some r' =>
        obtain ⟨h1, h2, h3⟩ := firstB_le h
        rw [cutB_some h] at hr
        rcases List.mem_cons.1 hr with rfl | hr
        · exact h2
        · exact ih (l.drop (r'.length + 5)).length (by rw [List.length_drop]; omega) _ rfl r hr
  unfold okR
  rw [List.filter_eq_self]
  intro r hr
  simpa using this _ l rfl r hr

end Go.Proofs.Ytppgecbjdkfohaa

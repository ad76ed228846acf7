/- The document's Right and Number. -/
import Derived.Test.YtppgecbjdkfohaaVA
namespace Go.Proofs.Ytppgecbjdkfohaa
open Go.RowKit Go.Lib Go.Op

set_option maxHeartbeats 1000000 in
set_option maxRecDepth 100000 in
theorem rright_calls (k n : Int) (s : ByteArray) (w : World) (hs : s.size ≤ maxLen) :
    Calls Try.prog 35 #[.agg #[.int .i64 k, .int .i64 n, .string s]] w fun e w' => e = .returned (.bool (rightV k n s)) ∧ w' = w.alloc (.cells #[.int .i64 k, .int .i64 n, .string s] 52) := by
  unfold maxLen at hs
  have hsl : s.data.toList.length = s.size := by simp
  by_cases hse : s.data.toList = []
  · obtain rfl := vempty hse
    clear hsl hse hs
    by_cases h3 : k = 3
    · subst h3
      rw [rightV_3]
      go_enter Try.func35, Try.ntmps35
      go_wp2
      all_goals (go_ret; exact ⟨vret_bool (by simp; omega), rfl⟩)
    by_cases h1 : k = 1
    · subst h1
      rw [rightV_1]
      go_enter Try.func35, Try.ntmps35
      go_wp2
      all_goals (go_ret; exact ⟨vret_bool (by simp; omega), rfl⟩)
    by_cases h2 : k = 2
    · subst h2
      rw [rightV_2]
      by_cases hn : n = 0
      · subst hn
        go_enter Try.func35, Try.ntmps35
        go_wp2
        all_goals (go_ret; exact ⟨vret_bool (by simp), rfl⟩)
      · go_enter Try.func35, Try.ntmps35
        go_wp2
        all_goals (go_ret; exact ⟨vret_bool (by simp; omega), rfl⟩)
    · rw [rightV_not h1 h2 h3]
      go_enter Try.func35, Try.ntmps35
      go_wp2
      all_goals (go_ret; exact ⟨vret_bool (by simp), rfl⟩)
  · have ha : (s.toList == []) = false := by rw [beq_eq_false_iff_ne, vtoL]; exact hse
    have hb : (!s.toList.isEmpty) = true := by rw [vtoL]; simpa using hse
    have hc : s.toList.isEmpty = false := by rw [vtoL]; simpa using hse
    by_cases h3 : k = 3
    · subst h3
      rw [rightV_3]
      go_enter Try.func35, Try.ntmps35
      go_wp2
      all_goals (go_ret; exact ⟨vret_bool (by first | rfl | (simp [hse]) | (simp; omega)), rfl⟩)
    by_cases h1 : k = 1
    · subst h1
      rw [rightV_1]
      go_enter Try.func35, Try.ntmps35
      go_wp2
      all_goals (go_ret; exact ⟨vret_bool (by first | rfl | (simp [hse]) | (simp; omega)), rfl⟩)
    by_cases h2 : k = 2
    · subst h2
      rw [rightV_2]
      by_cases hn : n = 0
      · subst hn
        clear ha hb hc
        go_enter Try.func35, Try.ntmps35
        go_wp2
        all_goals (go_ret; exact ⟨vret_bool (by simp [hsl]; try omega), rfl⟩)
      · clear ha hb hc
        go_enter Try.func35, Try.ntmps35
        go_wp2
        all_goals (go_ret; exact ⟨vret_bool (by simp; omega), rfl⟩)
    · rw [rightV_not h1 h2 h3]
      go_enter Try.func35, Try.ntmps35
      go_wp2
      all_goals (go_ret; exact ⟨vret_bool (by simp), rfl⟩)

/-- How far the document's digits are read. -/
def DigA (r : List UInt8) (i n : Nat) : Prop := i ≤ r.length ∧ dgo (r.drop i) i n = dgo r 0 0 ∧ n < 128 ^ i

theorem pow128' : ∀ i : Nat, i ≤ 7 → 128 ^ i ≤ 562949953421312
  | 0, _ => by decide
  | 1, _ => by decide
  | 2, _ => by decide
  | 3, _ => by decide
  | 4, _ => by decide
  | 5, _ => by decide
  | 6, _ => by decide
  | 7, _ => by decide
  | n + 8, h => by omega

theorem DigA.step {r : List UInt8} {i n : Nat} (h : DigA r i n) {c : UInt8} (hc : r[i]? = some c) (h128 : ¬ c.toNat < 128) : DigA r (i + 1) (n + c.toNat % 128 * 128 ^ i) := by
  obtain ⟨h1, h3, h4⟩ := h
  obtain ⟨hi, hx⟩ := List.getElem?_eq_some_iff.1 hc
  rw [List.drop_eq_getElem_cons hi, hx, dgo_cons, if_neg h128] at h3
  refine ⟨hi, h3, ?_⟩
  have h5 := Nat.mod_lt c.toNat (show 0 < 128 by omega)
  have h6 : c.toNat % 128 * 128 ^ i ≤ 127 * 128 ^ i := Nat.mul_le_mul_right _ (by omega)
  rw [Nat.pow_succ]
  omega

theorem DigA.stop {r : List UInt8} {i n : Nat} (h : DigA r i n) {c : UInt8} (hc : r[i]? = some c) (h128 : c.toNat < 128) : dgo r 0 0 = if c.toNat = 0 ∧ 0 < i then (0, 0) else (n + c.toNat % 128 * 128 ^ i, i + 1) := by
  obtain ⟨h1, h3, h4⟩ := h
  obtain ⟨hi, hx⟩ := List.getElem?_eq_some_iff.1 hc
  rw [List.drop_eq_getElem_cons hi, hx, dgo_cons, if_pos h128] at h3
  exact h3.symm

theorem DigA.fin {r : List UInt8} {i n : Nat} (h : DigA r i n) (hi : i = r.length) : dgo r 0 0 = (0, 0) := by
  obtain ⟨h1, h3, h4⟩ := h
  rw [← h3, List.drop_eq_nil_of_le (by omega)]
  rfl

theorem numSum {m p x : Nat} (hm : m < 562949953421312) (hp : p ≤ 562949953421312) : wrap64 ((m : Int) + wrap64 ((x : Int) % 128 * (p : Int))) = ((m + x % 128 * p : Nat) : Int) := by
  have h3 : ((x : Int) % 128 * (p : Int)) = ((x % 128 * p : Nat) : Int) := by simp
  have h4 : x % 128 * p ≤ 127 * 562949953421312 := Nat.mul_le_mul (by omega) hp
  rw [h3]
  generalize x % 128 * p = y at h4
  rw [IntWalk.wrap64_in (y : Int) (by omega), IntWalk.wrap64_in _ (by omega)]
  omega

/-- What the document's Number answers. -/
def numO (o : Option (Nat × Nat)) : Nat × Nat := o.getD (0, 0)
def NumPost (w : World) (o : Option (Nat × Nat)) (e : Ending) (w' : World) : Prop := e = .returned (.tuple #[.int .i64 (numO o).1, .int .i64 (numO o).2, .bool o.isSome]) ∧ w = w'

theorem NumPost.none {w : World} {o : Option (Nat × Nat)} (h : o = none) : NumPost w o (.returned (.tuple #[.int .i64 0, .int .i64 0, .bool false])) w := by
  rw [h]; exact ⟨rfl, rfl⟩
theorem NumPost.some {w : World} {o : Option (Nat × Nat)} {a b : Nat} {x y : Int} (h : o = some (a, b)) (hx : x = a) (hy : y = b) : NumPost w o (.returned (.tuple #[.int .i64 x, .int .i64 y, .bool true])) w := by
  rw [h, hx, hy]; exact ⟨rfl, rfl⟩

theorem numR_none {l : List UInt8} (h : (dgo (l.take 7) 0 0).2 = 0 ∨ 2199023255552 < (dgo (l.take 7) 0 0).1) : numR l = none := if_pos h
theorem numR_some {l : List UInt8} (h : ¬ ((dgo (l.take 7) 0 0).2 = 0 ∨ 2199023255552 < (dgo (l.take 7) 0 0).1)) : numR l = some (dgo (l.take 7) 0 0) := if_neg h

set_option maxHeartbeats 4000000 in
set_option maxRecDepth 100000 in
theorem number_calls (w : World) (v : Value) (bs : List UInt8) (h : BRow w v bs) : Calls Try.prog 63 #[v, .int .i64 2199023255552] w (NumPost w (numR bs)) := by
  obtain ⟨a, c, rfl, hc, hcm⟩ := h.len
  obtain ⟨l, hl⟩ : ∃ l, bs.length = l := ⟨_, rfl⟩
  have hlm : l ≤ maxLen := by omega
  unfold maxLen at hlm
  have H := Lib.hid h
  have HL := Lib.hid hl
  have hrl : (bs.take 7).length = min 7 l := by rw [List.length_take, hl]
  have Hrl := Lib.hid hrl
  rw [hl] at hc ⊢
  have HD0 : Hid (DigA (bs.take 7) 0 0) := ⟨Nat.zero_le _, rfl, by decide⟩
  clear hl h hrl
  go_enter Try.func63, Try.ntmps63
  go_wp2
  go_loop [7, 8, 9] (fun n b i => ∃ k m p : Nat, i = .int .i64 k ∧ n = .int .i64 m ∧ b = .int .i64 p ∧ k ≤ 7 ∧ p ≤ 562949953421312 ∧ m < 562949953421312 ∧ Hid (p = 128 ^ k) ∧ Hid (DigA (bs.take 7) k m)) (fun _ _ i => 7 - (intOf i).toNat)
  case atStart => exact ⟨0, 0, 1, rfl, rfl, rfl, by omega, by omega, by omega, rfl, HD0⟩
  case round =>
    obtain ⟨k, m, p, rfl, rfl, rfl, hk7, hp, hm, Hp, HD⟩ := hrel
    have hkr : k ≤ min 7 l := by have h9 := HD.out.1; rw [Hrl.out] at h9; exact h9
    by_cases hlt : k < l ∧ k < 7
    · obtain ⟨hkl, hk⟩ := hlt
      have hx : bs[k]? = some (bs[k]'(by rw [HL.out]; exact hkl)) := List.getElem?_eq_getElem _
      have hx7 : (bs.take 7)[k]? = bs[k]? := List.getElem?_take_of_lt hk
      generalize bs[k]'(by rw [HL.out]; exact hkl) = x at hx
      rw [hx] at hx7
      obtain ⟨A, rfl, hcell⟩ := H.out.atc hx
      have Hx := Lib.hid hx7
      have hx8 := x.toNat_lt
      have HS := Lib.hid (numSum (x := x.toNat) hm hp)
      clear hx hx7 hkr
      by_cases h128 : x.toNat < 128
      · have hstop := HD.out.stop Hx.out h128
        rw [← Hp.out] at hstop
        have Hstop := Lib.hid hstop
        clear hstop
        by_cases hz : x.toNat = 0 ∧ 0 < k
        · have hn : numR bs = none := numR_none (.inl (by rw [Hstop.out, if_pos hz]))
          have Hn := Lib.hid hn
          obtain ⟨hx0, hk0⟩ := hz
          clear hn
          go_wp2
          all_goals
            go_ret3
            exact NumPost.none Hn.out
        · have hs2 : dgo (bs.take 7) 0 0 = (m + x.toNat % 128 * p, k + 1) := by rw [Hstop.out, if_neg hz]
          have Hs2 := Lib.hid hs2
          clear hs2
          by_cases hbig : 2199023255552 < m + x.toNat % 128 * p
          · have hn : numR bs = none := numR_none (.inr (by rw [Hs2.out]; exact hbig))
            have Hn := Lib.hid hn
            have hd : (2199023255552 : Int) < wrap64 ((m : Int) + wrap64 ((x.toNat : Int) % 128 * (p : Int))) := by rw [HS.out]; omega
            clear hn hbig hz
            go_wp2
            all_goals
              go_ret3
              exact NumPost.none Hn.out
          · have hn : numR bs = some (m + x.toNat % 128 * p, k + 1) := by rw [numR_some (by rw [Hs2.out]; rw [not_or]; exact ⟨by simp, hbig⟩), Hs2.out]
            have Hn := Lib.hid hn
            have hd : ¬ ((2199023255552 : Int) < wrap64 ((m : Int) + wrap64 ((x.toNat : Int) % 128 * (p : Int)))) := by rw [HS.out]; omega
            clear hn
            by_cases hx0 : x.toNat = 0
            · have hk0 : ¬ 0 < k := fun h => hz ⟨hx0, h⟩
              have hd0 : ¬ ((2199023255552 : Int) < (m : Int)) := by rw [hx0] at hbig; simp at hbig; omega
              clear hz hbig hd
              go_wp2
              go_ret3
              exact NumPost.some Hn.out (by rw [hx0]; simp) (by simp)
            · clear hz hbig
              go_wp2
              all_goals
                go_ret3
                exact NumPost.some Hn.out HS.out (by simp)
      · have hst := HD.out.step Hx.out h128
        rw [← Hp.out] at hst
        have Hst := Lib.hid hst
        have Hp2 : Hid (p * 128 = 128 ^ (k + 1)) := by show _ = _; rw [Nat.pow_succ, ← Hp.out]
        have hp2 : p * 128 ≤ 562949953421312 := by rw [Hp2.out]; exact pow128' _ (by omega)
        have hm2 : m + x.toNat % 128 * p < 562949953421312 := Nat.lt_of_lt_of_le hst.2.2 (pow128' _ (by omega))
        clear hst
        go_wp2
        go_round
        case rel => exact ⟨k + 1, m + x.toNat % 128 * p, p * 128, by go_num, by rw [HS.out], by go_num, by omega, hp2, hm2, Hp2, Hst⟩
        case measure => simp [intOf]; omega
    · have hfin : numR bs = none := numR_none (.inl (by rw [HD.out.fin (by rw [Hrl.out]; omega)]))
      have Hfin := Lib.hid hfin
      clear hfin hkr
      by_cases hkl : k < l
      · have hk : ¬ k < 7 := fun h => hlt ⟨hkl, h⟩
        clear hlt
        go_wp2
        go_ret3
        exact NumPost.none Hfin.out
      · clear hlt
        go_wp2
        go_ret3
        exact NumPost.none Hfin.out

end Go.Proofs.Ytppgecbjdkfohaa

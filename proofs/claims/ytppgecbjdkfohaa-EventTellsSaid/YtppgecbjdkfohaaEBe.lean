/- Events: first; read's closures. -/
import Derived.Test.YtppgecbjdkfohaaEAe
import Derived.Test.YtppgecbjdkfohaaV8
namespace Go.Proofs.Ytppgecbjdkfohaa
open Go.RowKit Go.Lib Go.Op

theorem fstD_cons (c : UInt8) (l : List UInt8) (i n : Nat) : fstD (c :: l) i n = if c.toNat < 128 then (n + c.toNat % 128 * 128 ^ i, i + 1) else fstD l (i + 1) (n + c.toNat % 128 * 128 ^ i) := rfl

/-- How far they are read. -/
def FstAt (r : List UInt8) (i n : Nat) : Prop := i ≤ r.length ∧ i ≤ 6 ∧ fstD (r.drop i) i n = fstD r 0 0 ∧ n < 128 ^ i

theorem FstAt.step {r : List UInt8} {i n : Nat} (h : FstAt r i n) {c : UInt8} (hc : r[i]? = some c) (hr : r.length ≤ 6) (h128 : ¬ c.toNat < 128) : FstAt r (i + 1) (n + c.toNat % 128 * 128 ^ i) := by
  obtain ⟨h1, h2, h3, h4⟩ := h
  obtain ⟨hi, hx⟩ := List.getElem?_eq_some_iff.1 hc
  rw [List.drop_eq_getElem_cons hi, hx, fstD_cons, if_neg h128] at h3
  refine ⟨hi, by omega, h3, ?_⟩
  have h5 := Nat.mod_lt c.toNat (show 0 < 128 by omega)
  have h6 : c.toNat % 128 * 128 ^ i ≤ 127 * 128 ^ i := Nat.mul_le_mul_right _ (by omega)
  rw [Nat.pow_succ]
  omega

theorem FstAt.stop {r : List UInt8} {i n : Nat} (h : FstAt r i n) {c : UInt8} (hc : r[i]? = some c) (h128 : c.toNat < 128) : fstD r 0 0 = (n + c.toNat % 128 * 128 ^ i, i + 1) := by
  obtain ⟨h1, h2, h3, h4⟩ := h
  obtain ⟨hi, hx⟩ := List.getElem?_eq_some_iff.1 hc
  rw [List.drop_eq_getElem_cons hi, hx, fstD_cons, if_pos h128] at h3
  exact h3.symm

theorem FstAt.fin {r : List UInt8} {i n : Nat} (h : FstAt r i n) (hi : i = r.length) : fstD r 0 0 = (n, i) := by
  obtain ⟨h1, h2, h3, h4⟩ := h
  rw [← h3, List.drop_eq_nil_of_le (by omega)]
  rfl

set_option maxHeartbeats 2000000 in
set_option maxRecDepth 100000 in
theorem efirst_calls (w : World) (v : Value) (bs : List UInt8) (h : BRow w v bs) : Calls Try.prog 87 #[v] w (DigPost w (firstD bs)) := by
  unfold firstD
  obtain ⟨a, c, rfl, hc, hcm⟩ := h.len
  obtain ⟨l, hl⟩ : ∃ l, bs.length = l := ⟨_, rfl⟩
  have hlm : l ≤ maxLen := by omega
  unfold maxLen at hlm
  obtain ⟨q, hq⟩ : ∃ q, (l ≤ 6 ∧ q = l) ∨ (6 < l ∧ q = 6) := by
    by_cases h6 : l ≤ 6
    · exact ⟨l, .inl ⟨h6, rfl⟩⟩
    · exact ⟨6, .inr ⟨by omega, rfl⟩⟩
  have hql : q ≤ bs.length := by omega
  have e6 : bs.take q = bs.take 6 := by
    rcases hq with ⟨h1, rfl⟩ | ⟨h1, rfl⟩
    · rw [List.take_of_length_le (by omega), List.take_of_length_le (by omega)]
    · rfl
  have hb6 := h.first hql
  rw [e6] at hb6
  obtain ⟨r, hr⟩ : ∃ r, bs.take 6 = r := ⟨_, rfl⟩
  have hrq : r.length = q := by rw [← hr, ← e6, List.length_take]; omega
  rw [hr] at hb6 ⊢
  have H6 := Lib.hid hb6
  have Hq := Lib.hid hrq
  rw [hl] at hc ⊢
  have hq6 : q ≤ 6 := by omega
  clear hb6 h hr e6 hrq hl hql
  have HD0 : Hid (FstAt r 0 0) := ⟨Nat.zero_le _, by omega, rfl, by decide⟩
  rcases hq with ⟨h1, rfl⟩ | ⟨h1, rfl⟩
  all_goals
    go_enter Try.func87, Try.ntmps87
    go_wp2
    go_loop [4, 5, 14] (fun n s i => ∃ k m : Nat, i = .int .i64 k ∧ s = .int .i64 k ∧ n = .int .i64 m ∧ Hid (FstAt r k m)) (fun _ _ i => 6 - (intOf i).toNat)
    case atStart => exact ⟨0, 0, rfl, rfl, rfl, HD0⟩
    case round =>
      obtain ⟨k, m, rfl, rfl, rfl, HD⟩ := hrel
      obtain ⟨hkr, hk6, _, hm0⟩ := HD.out
      have hm := Nat.lt_of_lt_of_le hm0 (pow128 k hk6).1
      clear hm0
      by_cases hlt : k < r.length
      · have hx : r[k]? = some r[k] := List.getElem?_eq_getElem hlt
        generalize r[k] = x at hx
        obtain ⟨A, rfl, hcell⟩ := H6.out.atc hx
        have Hx := Lib.hid hx
        rw [Hq.out] at hlt hkr
        have hx8 := x.toNat_lt
        clear hx
        have HS := Lib.hid (digSum (x := x.toNat) hm hk6)
        by_cases h128 : x.toNat < 128
        · have hstop := Lib.hid (HD.out.stop Hx.out h128)
          go_wp2
          go_ret2
          rw [hstop.out]
          exact DigPost.mk HS.out (by simp)
        · have hst := Lib.hid (HD.out.step Hx.out (by rw [Hq.out]; omega) h128)
          go_wp2
          go_round
          case rel => exact ⟨k + 1, m + x.toNat % 128 * 128 ^ k, by go_num, by go_num, by rw [HS.out], hst⟩
          case measure => simp [intOf]; omega
      · have hfin := Lib.hid (HD.out.fin (by omega))
        rw [Hq.out] at hlt hkr
        go_wp2
        go_ret2
        rw [hfin.out]
        exact DigPost.mk rfl rfl

/-- Bytes that are still to be read, held by a variable. -/
structure RB (w0 : World) (bb : Nat) (v : Value) (bs : List UInt8) (W : World) : Prop where
  c : W.cell? ⟨bb, 0, none⟩ = some v
  f : W.frozen? ⟨bb, 0, none⟩ = false
  row : BRow w0 v bs
  hb : Below w0.heap.size w0 W
  le : w0.heap.size ≤ bb

theorem RB.now {w0 : World} {bb : Nat} {v : Value} {bs : List UInt8} {W : World} (h : RB w0 bb v bs W) : BRow W v bs := h.row.below h.hb
theorem RB.set {w0 : World} {bb : Nat} {v v' : Value} {bs bs' : List UInt8} {W : World} (h : RB w0 bb v bs W) (hr : BRow w0 v' bs') : RB w0 bb v' bs' (W.setCell ⟨bb, 0, none⟩ v') where
  c := World.cell?_setCell_same _ _ _ h.c
  f := by simp [h.f]
  row := hr
  hb := h.hb.setCell h.le _
  le := h.le
theorem RB.below {w0 : World} {bb : Nat} {v : Value} {bs : List UInt8} {W W' : World} (h : RB w0 bb v bs W) (hb : Below W.heap.size W W') : RB w0 bb v bs W' where
  c := ekeep hb h.c
  f := (hb.frozen (p := ⟨bb, 0, none⟩) (World.block_lt_of_cell? _ _ h.c)).trans h.f
  row := h.row
  hb := h.hb.trans (hb.mono h.hb.size)
  le := h.le

/-- What cut leaves. -/
def CutsPost (w0 : World) (bb q : Nat) (bs : List UInt8) (W : World) (e : Ending) (w' : World) : Prop := ∃ hd v', e = .returned hd ∧ BRow w0 hd (bs.take q) ∧ w' = W.setCell ⟨bb, 0, none⟩ v' ∧ RB w0 bb v' (bs.drop q) w'

set_option maxHeartbeats 2000000 in
set_option maxRecDepth 100000 in
theorem cut1_calls (w0 W : World) (bb m : Nat) (v : Value) (bs : List UInt8) (q : Nat) (h : RB w0 bb v bs W) (hm : m ≤ 4611686018427387904) (hq : min m bs.length = q) :
    Calls Try.prog 85 #[.int .i64 m, .pointer (some ⟨bb, 0, none⟩)] W (CutsPost w0 bb q bs W) := by
  obtain ⟨a, c, rfl, hc, hcm⟩ := h.row.len
  have hql : q ≤ bs.length := by omega
  obtain ⟨vd, hvd, hbd⟩ := h.row.drop hql
  have hbh := h.row.first hql
  have HF := Lib.hid (h.set hbd)
  have HH := Lib.hid hbh
  have hcell := h.c
  have hfr := h.f
  obtain ⟨da, dc, ed, _, _⟩ := hbd.len
  subst ed
  generalize (bs.drop q).length = dl at *
  obtain ⟨l, hl⟩ : ∃ l, bs.length = l := ⟨_, rfl⟩
  rw [hl] at hc hql hvd hcell hq
  unfold maxLen at hcm
  clear h hbd hbh hl
  by_cases hml : m ≤ l
  · obtain rfl : m = q := by omega
    have hmin : min (m : Int) (l : Int) = m := by omega
    clear hq
    go_enter Try.func85, Try.ntmps85
    go_wp2
    go_ret
    exact ⟨_, _, rfl, HH.out, rfl, HF.out⟩
  · obtain rfl : l = q := by omega
    have hmin : min (m : Int) (l : Int) = l := by omega
    clear hq
    go_enter Try.func85, Try.ntmps85
    go_wp2
    go_ret
    exact ⟨_, _, rfl, HH.out, rfl, HF.out⟩

/-- What digits leaves. -/
def DigsPost (w0 : World) (bb n q : Nat) (bs : List UInt8) (W : World) (e : Ending) (w' : World) : Prop := ∃ v', e = .returned (.int .i64 n) ∧ w' = W.setCell ⟨bb, 0, none⟩ v' ∧ RB w0 bb v' (bs.drop q) w'

set_option maxHeartbeats 2000000 in
set_option maxRecDepth 100000 in
theorem dig2_calls (w0 W : World) (bb cb : Nat) (v : Value) (bs : List UInt8) (n q : Nat) (h : RB w0 bb v bs W) (hcb : W.cell? ⟨cb, 0, none⟩ = some (.func (.func 85) #[] #[.pointer (some ⟨bb, 0, none⟩)])) (hf : firstD bs = (n, q)) :
    Calls Try.prog 86 #[.pointer (some ⟨bb, 0, none⟩), .pointer (some ⟨cb, 0, none⟩)] W (DigsPost w0 bb n q bs W) := by
  have h1 := efirst_calls W v bs h.now
  have h2 := firstD_le bs
  rw [hf] at h1 h2
  have hc1 := cut1_calls w0 W bb q v bs q h (by omega) (by omega)
  have HC1 := Lib.hid hc1
  have HF := Lib.hid h1
  have hcell := h.c
  clear h1 hc1 h h2 hf
  go_enter Try.func86, Try.ntmps86
  go_wp2_with (first
    | (go_at_call 87; refine HF.out.mono ?_; rintro e w1 ⟨rfl, rfl⟩)
    | (go_at_call 85; refine HC1.out.mono ?_; rintro e w2 ⟨hd, v', rfl, hr, rfl, hrb⟩))
  go_ret
  exact ⟨_, rfl, rfl, hrb⟩

end Go.Proofs.Ytppgecbjdkfohaa

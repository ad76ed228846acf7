/- Values: digits, read. -/
import Derived.Test.YtppgecbjdkfohaaV7
namespace Go.Proofs.Ytppgecbjdkfohaa
open Go.RowKit Go.Lib Go.Op

theorem dgo_cons (c : UInt8) (l : List UInt8) (i n : Nat) : dgo (c :: l) i n = if c.toNat < 128 then (if c.toNat = 0 ∧ 0 < i then (0, 0) else (n + c.toNat % 128 * 128 ^ i, i + 1)) else dgo l (i + 1) (n + c.toNat % 128 * 128 ^ i) := rfl

/-- What digits answers. -/
def DigPost (w : World) (p : Nat × Nat) (e : Ending) (w' : World) : Prop := e = .returned (.tuple #[.int .i64 p.1, .int .i64 p.2]) ∧ w = w'

theorem pow128 : ∀ i : Nat, i ≤ 6 → 128 ^ i ≤ 4398046511104 ∧ 2 ^ (7 * i) = 128 ^ i
  | 0, _ => by decide
  | 1, _ => by decide
  | 2, _ => by decide
  | 3, _ => by decide
  | 4, _ => by decide
  | 5, _ => by decide
  | 6, _ => by decide
  | n + 7, h => by omega

theorem BRow.first {w : World} {a : Option Addr} {l c m : Nat} {bs : List UInt8} (h : BRow w (.slice a l c) bs) (hm : m ≤ bs.length) : BRow w (.slice a m c) (bs.take m) := by
  obtain ⟨a', c', e1, h1, h2, h3, hx⟩ := h
  injection e1 with ea el ec
  subst ea
  subst el
  subst ec
  have hlen : (bs.take m).length = m := by rw [List.length_take]; omega
  refine ⟨a, c, by rw [hlen], by rw [hlen]; omega, h2, h3, fun j x hj => ?_⟩
  have hjm : j < m := by
    have := (List.getElem?_eq_some_iff.1 hj).1
    omega
  rw [List.getElem?_take_of_lt hjm] at hj
  exact hx j x hj

theorem BRow.atc {w : World} {a : Option Addr} {l c : Nat} {bs : List UInt8} (h : BRow w (.slice a l c) bs) {i : Nat} {x : UInt8} (hi : bs[i]? = some x) : ∃ A, a = some A ∧ w.cell? (A.add i) = some (.int .u8 x.toNat) := by
  obtain ⟨a', c', e1, h1, h2, h3, hx⟩ := h
  injection e1 with ea el ec
  subst ea
  exact hx i x hi

/-- How far digits are read. -/
def DigAt (r : List UInt8) (i n : Nat) : Prop := i ≤ r.length ∧ i ≤ 6 ∧ dgo (r.drop i) i n = dgo r 0 0 ∧ n < 128 ^ i

theorem DigAt.step {r : List UInt8} {i n : Nat} (h : DigAt r i n) {c : UInt8} (hc : r[i]? = some c) (hr : r.length ≤ 6) (h128 : ¬ c.toNat < 128) : DigAt r (i + 1) (n + c.toNat % 128 * 128 ^ i) := by
  obtain ⟨h1, h2, h3, h4⟩ := h
  obtain ⟨hi, hx⟩ := List.getElem?_eq_some_iff.1 hc
  rw [List.drop_eq_getElem_cons hi, hx, dgo_cons, if_neg h128] at h3
  refine ⟨hi, by omega, h3, ?_⟩
  have h5 := Nat.mod_lt c.toNat (show 0 < 128 by omega)
  have h6 : c.toNat % 128 * 128 ^ i ≤ 127 * 128 ^ i := Nat.mul_le_mul_right _ (by omega)
  rw [Nat.pow_succ]
  omega

theorem DigAt.stop {r : List UInt8} {i n : Nat} (h : DigAt r i n) {c : UInt8} (hc : r[i]? = some c) (h128 : c.toNat < 128) : dgo r 0 0 = if c.toNat = 0 ∧ 0 < i then (0, 0) else (n + c.toNat % 128 * 128 ^ i, i + 1) := by
  obtain ⟨h1, h2, h3, h4⟩ := h
  obtain ⟨hi, hx⟩ := List.getElem?_eq_some_iff.1 hc
  rw [List.drop_eq_getElem_cons hi, hx, dgo_cons, if_pos h128] at h3
  exact h3.symm

theorem DigAt.fin {r : List UInt8} {i n : Nat} (h : DigAt r i n) (hi : i = r.length) : dgo r 0 0 = (0, 0) := by
  obtain ⟨h1, h2, h3, h4⟩ := h
  rw [← h3, List.drop_eq_nil_of_le (by omega)]
  rfl

theorem digSum {m k x : Nat} (hm : m < 4398046511104) (hk : k ≤ 6) : wrap64 ((m : Int) + wrap64 ((x : Int) % 128 * 2 ^ (7 * k))) = ((m + x % 128 * 128 ^ k : Nat) : Int) := by
  obtain ⟨h1, h2⟩ := pow128 k hk
  have h3 : ((x : Int) % 128 * 2 ^ (7 * k)) = ((x % 128 * 128 ^ k : Nat) : Int) := by
    rw [← h2]
    simp
  have h4 : x % 128 * 128 ^ k ≤ 127 * 4398046511104 := Nat.mul_le_mul (by omega) h1
  rw [h3]
  generalize x % 128 * 128 ^ k = y at h4
  rw [IntWalk.wrap64_in (y : Int) (by omega), IntWalk.wrap64_in _ (by omega)]
  omega

theorem DigPost.mk {w : World} {p : Nat × Nat} {a b : Int} (h1 : a = p.1) (h2 : b = p.2) : DigPost w p (.returned (.tuple #[.int .i64 a, .int .i64 b])) w := by
  rw [h1, h2]; exact ⟨rfl, rfl⟩

set_option maxHeartbeats 2000000 in
set_option maxRecDepth 100000 in
theorem digits_calls (w : World) (v : Value) (bs : List UInt8) (h : BRow w v bs) : Calls Try.prog 96 #[v] w (DigPost w (dgo (bs.take 6) 0 0)) := by
  obtain ⟨a, c, rfl, hc, hcm⟩ := h.len
  obtain ⟨l, hl⟩ : ∃ l, bs.length = l := ⟨_, rfl⟩
  have hlm : l ≤ maxLen := by omega
  unfold maxLen at hlm
  obtain ⟨q, hq⟩ : ∃ q, (l ≤ 6 ∧ q = l) ∨ (6 < l ∧ q = 6) := by
    by_cases h6 : l ≤ 6
    · exact ⟨l, .inl ⟨h6, rfl⟩⟩
    · exact ⟨6, .inr ⟨by omega, rfl⟩⟩
  have hql : q ≤ bs.length := by omega
  have e6 : bs.take q = bs.take 6 := by
    rcases hq with ⟨h1, rfl⟩ | ⟨h1, rfl⟩
    · rw [List.take_of_length_le (by omega), List.take_of_length_le (by omega)]
    · rfl
  have hb6 := h.first hql
  rw [e6] at hb6
  obtain ⟨r, hr⟩ : ∃ r, bs.take 6 = r := ⟨_, rfl⟩
  have hrq : r.length = q := by rw [← hr, ← e6, List.length_take]; omega
  rw [hr] at hb6 ⊢
  have H6 := Lib.hid hb6
  have Hq := Lib.hid hrq
  rw [hl] at hc ⊢
  have hq6 : q ≤ 6 := by omega
  clear hb6 h hr e6 hrq hl hql
  have HD0 : Hid (DigAt r 0 0) := ⟨Nat.zero_le _, by omega, rfl, by decide⟩
  rcases hq with ⟨h1, rfl⟩ | ⟨h1, rfl⟩
  all_goals
    go_enter Try.func96, Try.ntmps96
    go_wp2
    go_loop [4, 13] (fun n i => ∃ k m : Nat, i = .int .i64 k ∧ n = .int .i64 m ∧ Hid (DigAt r k m)) (fun _ i => 6 - (intOf i).toNat)
    case atStart => exact ⟨0, 0, rfl, rfl, HD0⟩
    case round =>
      obtain ⟨k, m, rfl, rfl, HD⟩ := hrel
      obtain ⟨hkr, hk6, _, hm0⟩ := HD.out
      have hm := Nat.lt_of_lt_of_le hm0 (pow128 k hk6).1
      clear hm0
      by_cases hlt : k < r.length
      · have hx : r[k]? = some r[k] := List.getElem?_eq_getElem hlt
        generalize r[k] = x at hx
        obtain ⟨A, rfl, hcell⟩ := H6.out.atc hx
        have Hx := Lib.hid hx
        rw [Hq.out] at hlt hkr
        have hx8 := x.toNat_lt
        clear hx
        have HS := Lib.hid (digSum (x := x.toNat) hm hk6)
        by_cases h128 : x.toNat < 128
        · have hstop := Lib.hid (HD.out.stop Hx.out h128)
          by_cases hx0 : x.toNat = 0
          · by_cases hk0 : 0 < k
            · go_wp2
              go_ret2
              rw [hstop.out, if_pos ⟨hx0, hk0⟩]
              exact DigPost.mk rfl rfl
            · go_wp2
              go_ret2
              rw [hstop.out, if_neg (fun h => hk0 h.2)]
              exact DigPost.mk (by rw [hx0]; simp) (by simp)
          · go_wp2
            go_ret2
            rw [hstop.out, if_neg (fun h => hx0 h.1)]
            exact DigPost.mk HS.out (by simp)
        · have hst := Lib.hid (HD.out.step Hx.out (by rw [Hq.out]; omega) h128)
          go_wp2
          go_round
          case rel => exact ⟨k + 1, m + x.toNat % 128 * 128 ^ k, by go_num, by rw [HS.out], hst⟩
          case measure => simp [intOf]; omega
      · have hfin := Lib.hid (HD.out.fin (by omega))
        rw [Hq.out] at hlt hkr
        go_wp2
        refine bodyPost_ret (v := .tuple #[.int .i64 0, .int .i64 0]) (by simp [results, Try.results96, go_sem]) rfl ?_
        rw [hfin.out]
        exact DigPost.mk rfl rfl

/-- What read answers: a value's parts, and whether there is one. -/
def readM (k : Int) (n : Nat) (rest : List UInt8) : PVal × Bool :=
  if k = 2 then (if min rest.length 64 < n then (⟨0, 0, []⟩, false) else (⟨2, 0, rest.take n⟩, true))
  else if k = 3 then (⟨3, n, []⟩, true)
  else if k = 1 then (⟨1, zagN n, []⟩, true)
  else (⟨k, 0, []⟩, true)

def ReadPost (w : World) (p : PVal × Bool) (e : Ending) (w' : World) : Prop := e = .returned (.tuple #[.agg #[.int .i64 p.1.k, .int .i64 p.1.n, .string (strB p.1.s)], .bool p.2]) ∧ Below w.heap.size w w'

theorem strB_nil : strB [] = ⟨#[]⟩ := rfl

theorem ReadPost.mk {w w' : World} {p : PVal × Bool} {k n : Int} {s : ByteArray} {b : Bool} (h1 : p.1.k = k) (h2 : p.1.n = n) (h3 : strB p.1.s = s) (h4 : p.2 = b) (h : Below w.heap.size w w') : ReadPost w p (.returned (.tuple #[.agg #[.int .i64 k, .int .i64 n, .string s], .bool b])) w' := by
  rw [← h1, ← h2, ← h3, ← h4]; exact ⟨rfl, h⟩

set_option maxHeartbeats 4000000 in
set_option maxRecDepth 100000 in
theorem read_calls (k : Int) (n : Nat) (w : World) (v : Value) (bs : List UInt8) (h : BRow w v bs) (hn : n < 4398046511104) :
    Calls Try.prog 97 #[.int .i64 k, .int .i64 n, v] w (ReadPost w (readM k n bs)) := by
  obtain ⟨a, c, rfl, hc, hcm⟩ := h.len
  obtain ⟨l, hl⟩ : ∃ l, bs.length = l := ⟨_, rfl⟩
  have hlm : l ≤ maxLen := by omega
  unfold maxLen at hlm
  by_cases h2 : k = 2
  · subst h2
    by_cases hbig : min l 64 < n
    · have e1 : readM 2 n bs = (⟨0, 0, []⟩, false) := by unfold readM; rw [if_pos rfl, hl, if_pos hbig]
      rw [e1, hl]
      clear h e1 hl
      by_cases hl64 : l ≤ 64
      · have hg : ((l : Int) < n) := by omega
        clear hbig
        go_enter Try.func97, Try.ntmps97
        go_wp2
        refine bodyPost_ret (v := .tuple #[.agg #[.int .i64 0, .int .i64 0, .string ⟨#[]⟩], .bool false]) (by simp [results, Try.results97, go_sem]) rfl (ReadPost.mk rfl rfl rfl rfl ?_)
        repeat' (first | exact Below.refl _ _ | refine Below.alloc ?_ (by simp <;> omega) _ | refine Below.setCell ?_ (by simp <;> omega) _)
      · have hg : ((64 : Int) < n) := by omega
        clear hbig
        go_enter Try.func97, Try.ntmps97
        go_wp2
        refine bodyPost_ret (v := .tuple #[.agg #[.int .i64 0, .int .i64 0, .string ⟨#[]⟩], .bool false]) (by simp [results, Try.results97, go_sem]) rfl (ReadPost.mk rfl rfl rfl rfl ?_)
        repeat' (first | exact Below.refl _ _ | refine Below.alloc ?_ (by simp <;> omega) _ | refine Below.setCell ?_ (by simp <;> omega) _)
    · have hnl : n ≤ l := by omega
      have hn64 : n ≤ 64 := by omega
      have e1 : readM 2 n bs = (⟨2, 0, bs.take n⟩, true) := by unfold readM; rw [if_pos rfl, hl, if_neg hbig]
      have hb := h.first (m := n) (by omega)
      have Hcv : Hid (∀ W, Below w.heap.size w W → (convert 40 9 (.slice a n c)).run Try.prog W = .ok (.string (strB (bs.take n))) W) := fun W hW => conv_brow (hb.below hW)
      rw [e1, hl]
      generalize bs.take n = r at *
      have hsl : ∀ W : World, (Instr.slice 40 (.slice a l c) none (some (.int .i64 n)) none).run Try.prog W = .ok (.slice a n c) W := fun W => by
        have hz : (sizeOf 5).run Try.prog W = .ok 1 W := by kernel_rfl
        rw [run_slice_h (P := Try.prog) W 40 a l c (by kernel_rfl) .i64 (n : Int) (by omega) (by omega)]
        have he : Try.prog.elem 40 = 5 := by kernel_rfl
        rw [he, hz]
        cases a <;> simp [Result.andThen, sliced, Addr.add]
      have hcv : (convert 40 9 (.slice a n c)).run Try.prog (((w.alloc (.cells #[.int .i64 0, .int .i64 0, .string ⟨#[]⟩] 52)).alloc (.cells #[.int .i64 2, .int .i64 0, .string ⟨#[]⟩] 52))) = .ok (.string (strB r)) (((w.alloc (.cells #[.int .i64 0, .int .i64 0, .string ⟨#[]⟩] 52)).alloc (.cells #[.int .i64 2, .int .i64 0, .string ⟨#[]⟩] 52))) := Hcv.out _ (((Below.refl _ _).alloc (Nat.le_refl _) _).alloc (by simp) _)
      clear h e1 hl hb hbig
      have hd1 : ¬ ((l : Int) < n) := by omega
      have hd2 : ¬ ((64 : Int) < n) := by omega
      by_cases hl64 : l ≤ 64
      all_goals
        go_enter Try.func97, Try.ntmps97
        go_wp2
        refine bodyPost_ret (v := .tuple #[.agg #[.int .i64 2, .int .i64 0, .string (strB r)], .bool true]) (by simp [results, Try.results97, go_sem]) rfl (ReadPost.mk rfl rfl rfl rfl ?_)
        repeat' (first | exact Below.refl _ _ | refine Below.alloc ?_ (by simp <;> omega) _ | refine Below.setCell ?_ (by simp <;> omega) _)
  by_cases h3 : k = 3
  · subst h3
    have e1 : readM 3 n bs = (⟨3, n, []⟩, true) := rfl
    rw [e1, hl]
    clear h e1 hl
    go_enter Try.func97, Try.ntmps97
    go_wp2
    refine bodyPost_ret (v := .tuple #[.agg #[.int .i64 3, .int .i64 n, .string ⟨#[]⟩], .bool true]) (by simp [results, Try.results97, go_sem]) rfl (ReadPost.mk rfl rfl rfl rfl ?_)
    repeat' (first | exact Below.refl _ _ | refine Below.alloc ?_ (by simp <;> omega) _ | refine Below.setCell ?_ (by simp <;> omega) _)
  by_cases h1 : k = 1
  · subst h1
    have e1 : readM 1 n bs = (⟨1, zagN n, []⟩, true) := rfl
    rw [e1, hl]
    clear h e1 hl
    by_cases hm : n % 2 = 1
    · have e2 : zagN n = -(((n : Int) / 2)) - 1 := by unfold zagN; rw [if_pos hm]; omega
      have hm2 : (n : Int) % 2 = 1 := by omega
      go_enter Try.func97, Try.ntmps97
      go_wp2
      refine bodyPost_ret (v := .tuple #[.agg #[.int .i64 1, .int .i64 (-(((n : Int) / 2)) - 1), .string ⟨#[]⟩], .bool true]) (by simp [results, Try.results97, go_sem]) rfl (ReadPost.mk rfl e2 rfl rfl ?_)
      repeat' (first | exact Below.refl _ _ | refine Below.alloc ?_ (by simp <;> omega) _ | refine Below.setCell ?_ (by simp <;> omega) _)
    · have e2 : zagN n = (n : Int) / 2 := by unfold zagN; rw [if_neg hm]; omega
      have hm2 : ((n : Int) % 2 == 1) = false := by rw [beq_eq_false_iff_ne]; omega
      go_enter Try.func97, Try.ntmps97
      go_wp2
      refine bodyPost_ret (v := .tuple #[.agg #[.int .i64 1, .int .i64 ((n : Int) / 2), .string ⟨#[]⟩], .bool true]) (by simp [results, Try.results97, go_sem]) rfl (ReadPost.mk rfl e2 rfl rfl ?_)
      repeat' (first | exact Below.refl _ _ | refine Below.alloc ?_ (by simp <;> omega) _ | refine Below.setCell ?_ (by simp <;> omega) _)
  · have e1 : readM k n bs = (⟨k, 0, []⟩, true) := by unfold readM; rw [if_neg h2, if_neg h3, if_neg h1]
    rw [e1, hl]
    clear h e1 hl
    go_enter Try.func97, Try.ntmps97
    go_wp2
    refine bodyPost_ret (v := .tuple #[.agg #[.int .i64 k, .int .i64 0, .string ⟨#[]⟩], .bool true]) (by simp [results, Try.results97, go_sem]) rfl (ReadPost.mk rfl rfl rfl rfl ?_)
    repeat' (first | exact Below.refl _ _ | refine Below.alloc ?_ (by simp <;> omega) _ | refine Below.setCell ?_ (by simp <;> omega) _)

end Go.Proofs.Ytppgecbjdkfohaa

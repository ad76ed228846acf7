/- The document's own answers on events: Word, Less, Right. -/
import Derived.Test.YtppgecbjdkfohaaE4e
import Derived.Test.YtppgecbjdkfohaaVK
namespace Go.Proofs.Ytppgecbjdkfohaa
open Go.RowKit Go.Lib Go.Op

/-- What was looked at is as a word's beginning. -/
def RWordTo (l : List UInt8) (k : Nat) : Prop := (∀ c, 0 < k → l[0]? = some c → letterB c = true) ∧ ∀ j x, j < k → l[j]? = some x → charB x = true

theorem RWordTo.step {l : List UInt8} {k : Nat} (h : RWordTo l k) {c : UInt8} (hk : l[k]? = some c) (hc : charB c = true) (h0 : k = 0 → letterB c = true) : RWordTo l (k + 1) := by
  refine ⟨fun x _ hx => ?_, fun j x hj hx => ?_⟩
  · rcases Nat.eq_zero_or_pos k with e | e
    · subst e
      rw [hk] at hx
      injection hx with hx
      rw [← hx]; exact h0 rfl
    · exact h.1 x e hx
  · by_cases e : j = k
    · subst e
      rw [hk] at hx
      injection hx with hx
      rw [← hx]; exact hc
    · exact h.2 j x (by omega) hx

theorem RWordTo.fin {l : List UInt8} (h : RWordTo l l.length) (h1 : 1 ≤ l.length) (h2 : l.length ≤ 16) : wordB l = true :=
  wordB_yes (List.getElem?_eq_getElem (by omega)) (h.1 _ (by omega) (List.getElem?_eq_getElem (by omega))) h2 fun k x hx => h.2 k x (List.getElem?_eq_some_iff.1 hx).1 hx

theorem letter_char {c : UInt8} (h : letterB c = true) : charB c = true := by unfold charB; rw [h]; rfl

set_option maxHeartbeats 4000000 in
set_option maxRecDepth 100000 in
theorem rword_calls (s : ByteArray) (w : World) (hs : s.size ≤ maxLen) :
    Calls Try.prog 29 #[.string s] w fun e w' => e = .returned (.bool (wordB s.data.toList)) ∧ w = w' := by
  unfold maxLen at hs
  have hsl : s.data.toList.length = s.size := by simp
  generalize hr : wordB s.data.toList = r
  have Hr : Hid (wordB s.data.toList = r) := hr
  have Hsl : Hid (s.data.toList.length = s.size) := hsl
  clear hr hsl
  go_enter Try.func29, Try.ntmps29
  go_wp2
  go_loop [3, 4, 5] (fun i x y => ∃ k : Nat, k ≤ s.size ∧ i = .int .i64 k ∧ Hid (RWordTo s.data.toList k)) (fun i _ _ => s.size - (intOf i).toNat)
  case atStart => exact ⟨0, Nat.zero_le _, rfl, fun c h => absurd h (Nat.not_lt_zero 0), fun j x hj => absurd hj (Nat.not_lt_zero j)⟩
  case round =>
    obtain ⟨k, hk, rfl, HK⟩ := hrel
    by_cases hlt : k < s.size
    · have hx : s.data.toList[k]? = some s[k] := by
        rw [List.getElem?_eq_getElem (by rw [Hsl.out]; exact hlt)]
        rfl
      have hb : s[k].toNat < 256 := s[k].toNat_lt
      have hstep := fun h1 h2 => Lib.hid (HK.out.step hx h1 h2)
      have hnot := fun h => (Lib.hid (Hr.out.symm.trans (wordB_not hx h)) : Hid (r = false))
      have hx0 : ∀ j, j = k → s.data.toList[j]? = some s[k] := fun j e => by rw [e]; exact hx
      have hfirst := fun (e : 0 = k) (hle : letterB s[k] = false) => (Lib.hid (Hr.out.symm.trans (wordB_first (l := s.data.toList) (c := s[k]) (hx0 0 e) hle)) : Hid (r = false))
      have hlo : letterB s[k] = decide (97 ≤ s[k].toNat ∧ s[k].toNat ≤ 122) := rfl
      have hco := charB_of (c := s[k])
      rw [hlo] at hstep hfirst
      rw [hco] at hstep hnot
      clear hlo hco hx hx0
      by_cases a1 : 97 ≤ s[k].toNat ∧ s[k].toNat ≤ 122
      · have hst := hstep (by simp [a1]) (fun _ => by simp [a1])
        obtain ⟨b1, b2⟩ := a1
        clear hstep hnot hfirst
        go_wp2
        go_round
        case rel => exact ⟨k + 1, by omega, by go_num, hst⟩
        case measure => simp [intOf]; omega
      · by_cases h0 : k = 0
        · have hst := (hfirst h0.symm (decide_eq_false a1)).out
          subst hst
          subst h0
          have h3 : (s[0].toNat < 97) ∨ (97 ≤ s[0].toNat ∧ 122 < s[0].toNat) := by omega
          clear hstep hnot hfirst a1
          rcases h3 with h3 | ⟨h3, h4⟩
          · go_wp2
            go_ret
            exact ⟨rfl, rfl⟩
          · have hd : decide ((s[0].toNat : Int) ≤ 122) = false := by simp; omega
            go_wp2
            go_ret
            exact ⟨rfl, rfl⟩
        · have hk0 : ((k : Int) == 0) = false := by rw [beq_eq_false_iff_ne]; omega
          have go1 : ∀ (_ : s[k].toNat = 95 ∨ (48 ≤ s[k].toNat ∧ s[k].toNat ≤ 57)), Hid (RWordTo s.data.toList (k + 1)) := fun h => hstep (by simp; omega) (fun e => absurd e h0)
          have go0 : ∀ (_ : ¬ s[k].toNat = 95) (_ : ¬ (48 ≤ s[k].toNat ∧ s[k].toNat ≤ 57)), Hid (r = false) := fun h1 h2 => hnot (by simp; omega)
          clear hstep hnot hfirst
          by_cases a2 : s[k].toNat = 95
          · have hst := go1 (.inl a2)
            have ht : ((s[k].toNat : Int) != 95) = false := by rw [bne_eq_false_iff_eq]; omega
            have h3 : s[k].toNat < 97 := by omega
            clear go1 go0 a1
            go_wp2
            go_round
            case rel => exact ⟨k + 1, by omega, by go_num, hst⟩
            case measure => simp [intOf]; omega
          have ht : ((s[k].toNat : Int) != 95) = true := by rw [bne_iff_ne]; omega
          by_cases a3 : 48 ≤ s[k].toNat ∧ s[k].toNat ≤ 57
          · have hst := go1 (.inr a3)
            obtain ⟨b1, b2⟩ := a3
            have h3 : s[k].toNat < 97 := by omega
            clear go1 go0 a1 a2
            go_wp2
            go_round
            case rel => exact ⟨k + 1, by omega, by go_num, hst⟩
            case measure => simp [intOf]; omega
          · have hst := (go0 a2 a3).out
            subst hst
            have h3 : (s[k].toNat < 97 ∧ s[k].toNat < 48) ∨ (s[k].toNat < 97 ∧ 48 ≤ s[k].toNat ∧ 57 < s[k].toNat) ∨ (97 ≤ s[k].toNat ∧ 122 < s[k].toNat ∧ 48 ≤ s[k].toNat ∧ 57 < s[k].toNat) := by omega
            clear go1 go0 a1 a2 a3
            rcases h3 with ⟨h3, h4⟩ | ⟨h3, h4, h5⟩ | ⟨h3, h4, h5, h6⟩
            · go_wp2
              go_ret
              exact ⟨rfl, rfl⟩
            · go_wp2
              go_ret
              exact ⟨rfl, rfl⟩
            · have hd : decide ((s[k].toNat : Int) ≤ 122) = false := by simp; omega
              go_wp2
              go_ret
              exact ⟨rfl, rfl⟩
    · obtain rfl : k = s.size := by omega
      by_cases h1 : s.size < 1
      · have hf : r = false := Hr.out.symm.trans (by
          have : s.data.toList = [] := List.eq_nil_of_length_eq_zero (by rw [Hsl.out]; omega)
          rw [this]; rfl)
        subst hf
        have hd : decide (1 ≤ (s.size : Int)) = false := by simp; omega
        go_wp2
        go_ret
        exact ⟨rfl, rfl⟩
      by_cases h2 : 16 < s.size
      · have hf : r = false := Hr.out.symm.trans (wordB_long (by rw [Hsl.out]; exact h2))
        subst hf
        have hd : decide ((s.size : Int) ≤ 16) = false := by simp; omega
        go_wp2
        go_ret
        exact ⟨rfl, rfl⟩
      have hf : r = true := Hr.out.symm.trans ((show RWordTo s.data.toList s.data.toList.length by rw [Hsl.out]; exact HK.out).fin (by rw [Hsl.out]; omega) (by rw [Hsl.out]; omega))
      subst hf
      have hd : decide ((s.size : Int) ≤ 16) = true := by simp; omega
      go_wp2
      go_ret
      exact ⟨rfl, rfl⟩

theorem rless_calls (t d s : Int) (n : ByteArray) (v : Value) (t' d' s' : Int) (n' : ByteArray) (v' : Value) (hv : ∃ a l c, v = .slice a l c) (hv' : ∃ a l c, v' = .slice a l c) (w : World) :
    Calls Try.prog 34 #[evV t d s n v, evV t' d' s' n' v'] w fun e w' => e = .returned (.bool (lessE t d s t' d' s')) ∧ Below w.heap.size w w' := by
  obtain ⟨a1, l1, c1, rfl⟩ := hv
  obtain ⟨a2, l2, c2, rfl⟩ := hv'
  by_cases h1 : t = t'
  · subst h1
    by_cases h2 : d = d'
    · subst h2
      have e : lessE t d s t d s' = decide (s < s') := by unfold lessE; simp
      rw [e]
      clear e
      by_cases h3 : s < s'
      · rw [decide_eq_true h3]
        go_enter Try.func34, Try.ntmps34
        go_wp2
        go_ret
        exact ⟨rfl, by repeat' (first | exact Below.refl _ _ | refine Below.alloc ?_ (by simp <;> omega) _)⟩
      · rw [decide_eq_false h3]
        go_enter Try.func34, Try.ntmps34
        go_wp2
        go_ret
        exact ⟨rfl, by repeat' (first | exact Below.refl _ _ | refine Below.alloc ?_ (by simp <;> omega) _)⟩
    · have e : lessE t d s t d' s' = decide (d < d') := by unfold lessE; simp [h2]
      rw [e]
      have hb : (d != d') = true := by rw [bne_iff_ne]; exact h2
      clear e
      by_cases h3 : d < d'
      · rw [decide_eq_true h3]
        go_enter Try.func34, Try.ntmps34
        go_wp2
        go_ret
        exact ⟨rfl, by repeat' (first | exact Below.refl _ _ | refine Below.alloc ?_ (by simp <;> omega) _)⟩
      · rw [decide_eq_false h3]
        go_enter Try.func34, Try.ntmps34
        go_wp2
        go_ret
        exact ⟨rfl, by repeat' (first | exact Below.refl _ _ | refine Below.alloc ?_ (by simp <;> omega) _)⟩
  · have e : lessE t d s t' d' s' = decide (t < t') := by unfold lessE; simp [h1]
    rw [e]
    have hb : (t != t') = true := by rw [bne_iff_ne]; exact h1
    clear e
    by_cases h3 : t < t'
    · rw [decide_eq_true h3]
      go_enter Try.func34, Try.ntmps34
      go_wp2
      go_ret
      exact ⟨rfl, by repeat' (first | exact Below.refl _ _ | refine Below.alloc ?_ (by simp <;> omega) _)⟩
    · rw [decide_eq_false h3]
      go_enter Try.func34, Try.ntmps34
      go_wp2
      go_ret
      exact ⟨rfl, by repeat' (first | exact Below.refl _ _ | refine Below.alloc ?_ (by simp <;> omega) _)⟩

/-- The first test of Right: all but the values. -/
def headE (t d s : Int) (n : ByteArray) : Bool := numB t && (numB s && (decide (0 ≤ d ∧ d ≤ 3) && wordB n.data.toList))

theorem rightE_head (t d s : Int) (n : ByteArray) (vs : List VIn) : rightE (pe t d s n vs) = (headE t d s n && (decide (vs.length ≤ 8) && (vs.map pv).all rightB)) := by
  rw [rightE_parts]
  unfold headE
  simp only [Bool.and_assoc]

set_option maxHeartbeats 4000000 in
set_option maxRecDepth 100000 in
theorem rrightE_calls (t d s : Int) (n : ByteArray) (a : Option Addr) (c : Nat) (vs : List VIn) (w : World) (hn : n.size ≤ maxLen) (hv : VRow w a vs) (hl : vs.length ≤ maxLen) :
    Calls Try.prog 55 #[evV t d s n (.slice a vs.length c)] w fun e w' => e = .returned (.bool (rightE (pe t d s n vs))) ∧ Below w.heap.size w w' := by
  rw [rightE_head]
  have HV := Lib.hid hv
  have HN := Lib.hid (fun W => rword_calls n W hn)
  obtain ⟨l, hll⟩ : ∃ l, vs.length = l := ⟨_, rfl⟩
  have Hl := Lib.hid hll
  rw [hll] at hl ⊢
  unfold maxLen at hl
  clear hv hll hn
  unfold headE numB
  by_cases h1 : t < 0
  · rw [decide_eq_false (show ¬ (0 ≤ t ∧ t ≤ 1099511627776) by omega)]
    go_enter Try.func55, Try.ntmps55
    go_wp2
    go_ret
    exact ⟨rfl, (Below.refl _ _).alloc (Nat.le_refl _) _⟩
  by_cases h2 : 1099511627776 < t
  · rw [decide_eq_false (show ¬ (0 ≤ t ∧ t ≤ 1099511627776) by omega)]
    go_enter Try.func55, Try.ntmps55
    go_wp2
    go_ret
    exact ⟨rfl, (Below.refl _ _).alloc (Nat.le_refl _) _⟩
  rw [decide_eq_true (show 0 ≤ t ∧ t ≤ 1099511627776 by omega), Bool.true_and]
  by_cases h3 : s < 0
  · rw [decide_eq_false (show ¬ (0 ≤ s ∧ s ≤ 1099511627776) by omega)]
    go_enter Try.func55, Try.ntmps55
    go_wp2
    go_ret
    exact ⟨rfl, (Below.refl _ _).alloc (Nat.le_refl _) _⟩
  by_cases h4 : 1099511627776 < s
  · rw [decide_eq_false (show ¬ (0 ≤ s ∧ s ≤ 1099511627776) by omega)]
    go_enter Try.func55, Try.ntmps55
    go_wp2
    go_ret
    exact ⟨rfl, (Below.refl _ _).alloc (Nat.le_refl _) _⟩
  rw [decide_eq_true (show 0 ≤ s ∧ s ≤ 1099511627776 by omega), Bool.true_and]
  by_cases h5 : d < 0
  · rw [decide_eq_false (show ¬ (0 ≤ d ∧ d ≤ 3) by omega)]
    go_enter Try.func55, Try.ntmps55
    go_wp2
    go_ret
    exact ⟨rfl, (Below.refl _ _).alloc (Nat.le_refl _) _⟩
  by_cases h6 : 3 < d
  · rw [decide_eq_false (show ¬ (0 ≤ d ∧ d ≤ 3) by omega)]
    go_enter Try.func55, Try.ntmps55
    go_wp2
    go_ret
    exact ⟨rfl, (Below.refl _ _).alloc (Nat.le_refl _) _⟩
  rw [decide_eq_true (show 0 ≤ d ∧ d ≤ 3 by omega), Bool.true_and]
  cases h7 : wordB n.data.toList with
  | false =>
    rw [h7] at HN
    go_enter Try.func55, Try.ntmps55
    go_wp2_with (go_at_call 29; refine (HN.out _).mono ?_; rintro e w1 ⟨rfl, rfl⟩)
    go_ret
    exact ⟨rfl, (Below.refl _ _).alloc (Nat.le_refl _) _⟩
  | true =>
  rw [h7] at HN
  rw [Bool.true_and]
  obtain ⟨res, hres⟩ : ∃ res, (decide (l ≤ 8) && (vs.map pv).all rightB) = res := ⟨_, rfl⟩
  have Hres := Lib.hid hres
  rw [hres]
  clear hres h7
  have HB0 : Hid (Below w.heap.size w (w.alloc (.cells #[.int .i64 t, .int .i64 d, .int .i64 s, .string n, .slice a l c] 25))) := (Below.refl _ _).alloc (Nat.le_refl _) _
  have HX4 : Hid ((w.alloc (.cells #[.int .i64 t, .int .i64 d, .int .i64 s, .string n, .slice a l c] 25)).cell? ⟨w.heap.size, 4, none⟩ = some (.slice a l c)) := by show _ = _; simp
  go_enter Try.func55, Try.ntmps55
  go_wp2_with (go_at_call 29; refine (HN.out _).mono ?_; rintro e w1 ⟨rfl, rfl⟩)
  generalize w.alloc (.cells #[.int .i64 t, .int .i64 d, .int .i64 s, .string n, .slice a l c] 25) = w0 at *
  go_loopw [3] (fun i wr => ∃ k : Nat, i = .int .i64 k ∧ k ≤ l ∧ Hid (RightTo vs k) ∧ Hid (Below w0.heap.size w0 wr)) (fun i _ => l - (intOf i).toNat)
  case atStart => exact ⟨0, rfl, Nat.zero_le _, fun j x hj => by omega, Below.refl _ _⟩
  case round =>
    obtain ⟨k, rfl, hk, HR, HB⟩ := hrel
    have HBw : Hid (Below w.heap.size w wr) := HB0.out.trans (HB.out.mono HB0.out.size)
    have x4 := ekeep HB.out HX4.out
    by_cases hlt : k < l
    · obtain ⟨x, hx⟩ : ∃ x, vs[k]? = some x := ⟨_, List.getElem?_eq_getElem (by rw [Hl.out]; exact hlt)⟩
      obtain ⟨A, rfl, c0, c1, c2, hs⟩ := (HV.out.below HBw.out) k x hx
      have hcall := rright_calls x.1 x.2.1 x.2.2 wr hs
      unfold efld at c1 c2
      have hrv : rightV x.1 x.2.1 x.2.2 = rightB (pv x) := rfl
      rw [hrv] at hcall
      cases hr : rightB (pv x) with
      | true =>
        have hst := Lib.hid (HR.out.step hx hr)
        rw [hr] at hcall
        obtain ⟨k1, n1, s1⟩ := x
        dsimp only at c0 c1 c2 hcall
        clear hx hrv hr
        go_wp2_with (go_at_call 35; refine hcall.mono ?_; rintro e w1 ⟨rfl, rfl⟩)
        have HB1 : Hid (Below w0.heap.size w0 (wr.alloc (.cells #[.int .i64 k1, .int .i64 n1, .string s1] 52))) := HB.out.alloc HB.out.size _
        clear hcall
        go_roundw
        case rel => exact ⟨k + 1, by go_num, by omega, hst, HB1⟩
        case measure => simp [intOf]; omega
      | false =>
        have hno := Lib.hid (notRight hx hr)
        rw [hr] at hcall
        obtain ⟨k1, n1, s1⟩ := x
        dsimp only at c0 c1 c2 hcall
        clear hx hrv hr
        go_wp2_with (go_at_call 35; refine hcall.mono ?_; rintro e w1 ⟨rfl, rfl⟩)
        go_ret
        exact ⟨by rw [← Hres.out, hno.out, Bool.and_false]; rfl, HBw.out.alloc HBw.out.size _⟩
    · obtain rfl : k = l := by omega
      have hall := Lib.hid (RightTo.all (vs := vs) (by rw [Hl.out]; exact HR.out))
      by_cases h8 : k ≤ 8
      · have hd : decide ((k : Int) ≤ 8) = true := by simp; omega
        have e8 : decide (k ≤ 8) = true := decide_eq_true h8
        go_wp2
        go_ret
        exact ⟨by rw [← Hres.out, hall.out, e8]; rfl, HBw.out⟩
      · have hd : decide ((k : Int) ≤ 8) = false := by simp; omega
        have e8 : decide (k ≤ 8) = false := decide_eq_false h8
        go_wp2
        go_ret
        exact ⟨by rw [← Hres.out, e8]; rfl, HBw.out⟩

end Go.Proofs.Ytppgecbjdkfohaa

/- Words: what single bytes and digits are. | Events: letter, number, Word. | Queries: what stays; tokens and the reader in memory; words that are kept, names. | Queries: what the reader does with the token that comes. | Queries: what the reader does where something is wrong; tokens of a kind. | Queries: words that are kept. -/
import Derived.Test.YtndmbljpfpnehaaGreatDoorM1
import Derived.Lib.Hide
import Derived.Lib.ConvBytes
import Derived.Lib.AtoiErrMem
namespace Go.Proofs.YtndmbljpfpnehaaGreatDoor
open Go.RowKit Go.Lib Go.Op

theorem xbool {a b : Bool} (h : a = b) : Ending.returned (.bool a) = .returned (.bool b) := by rw [h]

set_option maxRecDepth 100000 in
theorem xletter_calls (c : UInt8) (w : World) : Calls Tryz.prog 129 #[.int .u8 c.toNat] w fun e w' => e = .returned (.bool (xletter c)) ∧ w = w' := by
  unfold xletter
  generalize c.toNat = n
  by_cases h1 : 97 ≤ n
  all_goals
    go_enter Tryz.func129, Tryz.ntmps129
    go_wp2
    go_ret
    exact ⟨xbool (by first | (simp; done) | (simp; omega) | (rw [Bool.eq_iff_iff]; simp; omega)), rfl⟩

set_option maxRecDepth 100000 in
theorem xdigit_calls (c : UInt8) (w : World) : Calls Tryz.prog 130 #[.int .u8 c.toNat] w fun e w' => e = .returned (.bool (xdigit c)) ∧ w = w' := by
  unfold xdigit
  generalize c.toNat = n
  by_cases h1 : 48 ≤ n
  all_goals
    go_enter Tryz.func130, Tryz.ntmps130
    go_wp2
    go_ret
    exact ⟨xbool (by first | (simp; done) | (simp; omega) | (rw [Bool.eq_iff_iff]; simp; omega)), rfl⟩

theorem xeq (n k : Nat) : (((n : Int) == (k : Int)) : Bool) = decide (n = k) := by
  by_cases h : n = k <;> simp [h] <;> omega

set_option maxRecDepth 100000 in
theorem xblank_calls (c : UInt8) (w : World) : Calls Tryz.prog 71 #[.int .u8 c.toNat] w fun e w' => e = .returned (.bool (xblank c)) ∧ w = w' := by
  unfold xblank
  generalize c.toNat = n
  by_cases h1 : n = 32
  · subst h1
    go_enter Tryz.func71, Tryz.ntmps71
    go_wp2
    go_ret
    exact ⟨xbool (by simp), rfl⟩
  · have hd : ((n : Int) == 32) = false := by rw [beq_eq_false_iff_ne]; omega
    by_cases h2 : n = 10
    · subst h2
      go_enter Tryz.func71, Tryz.ntmps71
      go_wp2
      go_ret
      exact ⟨xbool (by simp), rfl⟩
    · have hd2 : ((n : Int) == 10) = false := by rw [beq_eq_false_iff_ne]; omega
      go_enter Tryz.func71, Tryz.ntmps71
      go_wp2
      go_ret
      exact ⟨xbool (by simp [h1, h2]), rfl⟩

set_option maxRecDepth 100000 in
theorem xquot_calls (c : UInt8) (w : World) : Calls Tryz.prog 133 #[.int .u8 c.toNat] w fun e w' => e = .returned (.bool (xquot c)) ∧ w = w' := by
  unfold xquot
  generalize c.toNat = n
  by_cases h1 : 32 ≤ n
  · by_cases h2 : n ≤ 126
    · by_cases h3 : n = 39
      · subst h3
        go_enter Tryz.func133, Tryz.ntmps133
        go_wp2
        go_ret
        exact ⟨xbool (by simp), rfl⟩
      · have hd : ((n : Int) != 39) = true := by rw [bne_iff_ne]; omega
        go_enter Tryz.func133, Tryz.ntmps133
        go_wp2
        go_ret
        exact ⟨xbool (by simp [h1, h2, h3]), rfl⟩
    · have hd : decide ((n : Int) ≤ 126) = false := by simp; omega
      go_enter Tryz.func133, Tryz.ntmps133
      go_wp2
      go_ret
      exact ⟨xbool (by simp [h2]), rfl⟩
  · have hd : decide (32 ≤ (n : Int)) = false := by simp; omega
    go_enter Tryz.func133, Tryz.ntmps133
    go_wp2
    go_ret
    exact ⟨xbool (by simp [h1]), rfl⟩

set_option maxRecDepth 100000 in
theorem xin_calls (c : UInt8) (w : World) : Calls Tryz.prog 131 #[.int .u8 c.toNat] w fun e w' => e = .returned (.bool (xin c)) ∧ w = w' := by
  have HL : Hid (Calls Tryz.prog 129 #[.int .u8 c.toNat] w fun e w' => e = .returned (.bool (xletter c)) ∧ w = w') := xletter_calls c w
  have HD : Hid (Calls Tryz.prog 130 #[.int .u8 c.toNat] w fun e w' => e = .returned (.bool (xdigit c)) ∧ w = w') := xdigit_calls c w
  obtain ⟨z, hz⟩ : ∃ z, xin c = z := ⟨_, rfl⟩
  have Hz := Lib.hid hz
  rw [hz]
  unfold xin at hz
  cases hl : xletter c with
  | true =>
    rw [hl] at HL hz
    have hz1 : z = true := by rw [← hz]; rfl
    subst hz1
    clear hz hl
    go_enter Tryz.func131, Tryz.ntmps131
    go_wp2_with (go_at_call 129; (with_reducible refine HL.out.mono ?_); rintro e w1 ⟨rfl, rfl⟩)
    go_ret
    exact ⟨rfl, rfl⟩
  | false =>
    cases hd : xdigit c with
    | true =>
      rw [hl] at HL hz
      rw [hd] at HD hz
      have hz1 : z = true := by rw [← hz]; rfl
      subst hz1
      clear hz hl hd
      go_enter Tryz.func131, Tryz.ntmps131
      go_wp2_with (first | (go_at_call 129; (with_reducible refine HL.out.mono ?_); rintro e w1 ⟨rfl, rfl⟩) | (go_at_call 130; (with_reducible refine HD.out.mono ?_); rintro e w1 ⟨rfl, rfl⟩))
      go_ret
      exact ⟨rfl, rfl⟩
    | false =>
      rw [hl] at HL hz
      rw [hd] at HD hz
      by_cases h3 : c.toNat = 95
      · have hz1 : z = true := by rw [← hz]; simp [h3]
        have ht : ((c.toNat : Int) == 95) = true := by rw [beq_iff_eq]; omega
        subst hz1
        clear hz hl hd h3
        go_enter Tryz.func131, Tryz.ntmps131
        go_wp2_with (first | (go_at_call 129; (with_reducible refine HL.out.mono ?_); rintro e w1 ⟨rfl, rfl⟩) | (go_at_call 130; (with_reducible refine HD.out.mono ?_); rintro e w1 ⟨rfl, rfl⟩))
        go_ret
        exact ⟨rfl, rfl⟩
      · have hz1 : z = false := by rw [← hz]; simp [h3]
        have ht : ((c.toNat : Int) == 95) = false := by rw [beq_eq_false_iff_ne]; omega
        subst hz1
        clear hz hl hd h3
        go_enter Tryz.func131, Tryz.ntmps131
        go_wp2_with (first | (go_at_call 129; (with_reducible refine HL.out.mono ?_); rintro e w1 ⟨rfl, rfl⟩) | (go_at_call 130; (with_reducible refine HD.out.mono ?_); rintro e w1 ⟨rfl, rfl⟩))
        go_ret
        exact ⟨rfl, rfl⟩

set_option maxRecDepth 100000 in
theorem sindex_calls (s : ByteArray) (c : UInt8) (w : World) : Calls Tryz.prog 178 #[.string s, .int .u8 c.toNat] w fun e w' => e = .returned (.int .i64 (indexByte s.data.toList c)) ∧ w = w' := by
  have h := Tryz.stringslite_IndexByte s c.toNat w
  have e : ((c.toNat : Int)).toNat.toUInt8 = c := by simp
  rw [e] at h
  have H := Lib.hid h
  clear h e
  go_enter Tryz.func178, Tryz.ntmps178
  go_wp2_with fail
  refine H.out.mono ?_
  rintro e w1 ⟨rfl, rfl⟩
  go_wp2
  go_ret
  exact ⟨rfl, rfl⟩

set_option maxRecDepth 100000 in
theorem among_calls (s : ByteArray) (l : List UInt8) (hl : s.data.toList = l) (c : UInt8) (w : World) : Calls Tryz.prog 134 #[.string s, .int .u8 c.toNat] w fun e w' => e = .returned (.bool (amongL l c)) ∧ w = w' := by
  subst hl
  unfold amongL
  have H := Lib.hid (sindex_calls s c w)
  obtain ⟨z, hz⟩ : ∃ z, indexByte s.data.toList c = z := ⟨_, rfl⟩
  rw [hz] at H ⊢
  clear hz
  go_enter Tryz.func134, Tryz.ntmps134
  go_wp2_with fail
  refine H.out.mono ?_
  rintro e w1 ⟨rfl, rfl⟩
  go_wp2
  go_ret
  exact ⟨rfl, rfl⟩

/-- The library's variables that wrong numbers are told with. -/
structure XVars (w : World) : Prop where
  esyn : ∃ tp p, w.var? Tryz.prog "strconv.ErrSyntax" = some #[.iface tp p]
  eran : ∃ tp p, w.var? Tryz.prog "strconv.ErrRange" = some #[.iface tp p]

theorem xgSyn : Tryz.prog.globalNamed "strconv.ErrSyntax" = some 3 := by kernel_rfl
theorem xgRan : Tryz.prog.globalNamed "strconv.ErrRange" = some 4 := by kernel_rfl
theorem xvar_keep {w w' : World} (hb : Below w.heap.size w w') {n : String} {g : Nat} (hg : Tryz.prog.globalNamed n = some g) {x : Array Value} (h : w.var? Tryz.prog n = some x) : w'.var? Tryz.prog n = some x := by
  simp only [World.var?, hg, Option.bind_some] at h ⊢
  cases hh : w.heap[g]? with
  | none => rw [hh] at h; simp at h
  | some o =>
    have hlt := (Array.getElem?_eq_some_iff.1 hh).1
    rw [hb.block g hlt]
    exact h
theorem XVars.below {w w' : World} (h : XVars w) (hb : Below w.heap.size w w') : XVars w' := by
  obtain ⟨⟨t, p, h1⟩, ⟨t', p', h2⟩⟩ := h
  exact ⟨⟨t, p, xvar_keep hb xgSyn h1⟩, ⟨t', p', xvar_keep hb xgRan h2⟩⟩

theorem xbytesWorld {w w' : World} {t : TypeId} (h : w' = w ∨ ∃ s, w' = bytesWorld w t s) : Below w.heap.size w w' := by
  rcases h with rfl | ⟨s, rfl⟩
  · exact Below.refl _ _
  · exact ⟨rfl, rfl, rfl, by rw [bytesWorld_size]; omega, fun k hk => bytesWorld_at_old w t s k hk⟩

theorem xparse_no (s : ByteArray) (hlim : s.size ≤ 281474976710656) (h1 : ∀ v, parseIntB 64 s.data.toList ≠ .ok v) (h2 : parseIntB 64 s.data.toList ≠ .range) (tp : TypeId) (p : Value) (w : World) (hvar : w.var? Tryz.prog "strconv.ErrSyntax" = some #[.iface tp p]) :
    Calls Tryz.prog 140 #[.string s, .int .i64 10, .int .i64 64] w fun e w' => ∃ t N, e = .returned (.tuple #[.int .i64 (0), .iface t (.pointer (some ⟨N, 0, none⟩))]) ∧ Below w.heap.size w w' :=
  (Any.strconv_ParseInt_10_at64_syntax_var Tryz.laysC174 s hlim (by
    cases hp : parseIntB 64 s.data.toList with
    | ok v => exact absurd hp (h1 v)
    | range => exact absurd hp h2
    | _ => rfl) tp p w hvar).mono fun e w' ⟨N, h3, _, _, h4⟩ => ⟨_, N, h3, h4⟩

set_option maxHeartbeats 1000000 in
set_option maxRecDepth 100000 in
theorem xright_calls {w : World} (hv : XVars w) (s : ByteArray) (h0 : 0 < s.size) (hs : s.size ≤ 1000) :
    Calls Tryz.prog 132 #[.string s] w fun e w' => e = .returned (.bool (rightN s.data.toList)) ∧ Below w.heap.size w w' := by
  obtain ⟨z, hz⟩ : ∃ z, rightN s.data.toList = z := ⟨_, rfl⟩
  rw [hz]
  unfold rightN at hz
  cases hp : parseIntB 64 s.data.toList with
  | range =>
    rw [hp] at hz
    obtain ⟨tp, p, hvar⟩ := hv.eran
    have HP := Lib.hid (Tryz.strconv_ParseInt_10_at64_range_var s (by omega) hp tp p w hvar)
    have hz0 : z = false := hz.symm
    subst hz0
    clear hv hz hp hvar
    go_enter Tryz.func132, Tryz.ntmps132
    go_wp2_with fail
    refine HP.out.mono ?_
    rintro e w2 ⟨N, rfl, _, _, hb⟩
    have HB := Lib.hid hb
    clear hb
    go_wp2_with fail
    go_ret
    exact ⟨rfl, HB.out⟩
  | ok v =>
    rw [hp] at hz
    dsimp only at hz
    have hbd := parseIntB_bounds hp
    have HP := Lib.hid (Tryz.strconv_ParseInt_10_at64_ok s (by omega) v hp w)
    have hhd : s.data.toList.head? = some s[0] := by
      rw [List.head?_eq_getElem?, List.getElem?_eq_getElem (by simpa using h0)]
      rfl
    have hlen : s.data.toList.length = s.size := by simp
    rw [hhd, hlen] at hz
    have HZ := Lib.hid hz
    clear hhd hlen hbd hp hv hz
    by_cases h1 : v ≤ 1099511627776
    · by_cases h2 : s[0].toNat = 48
      · have t2 : ((s[0].toNat : Int) != 48) = false := by rw [bne_eq_false_iff_eq]; omega
        by_cases h3 : s.size = 1
        · have t3 : ((s.size : Int) == 1) = true := by rw [beq_iff_eq]; omega
          have hz1 : z = true := by rw [← HZ.out]; simp [h1, h3]
          subst hz1
          clear HZ h2 h3
          go_enter Tryz.func132, Tryz.ntmps132
          go_wp2_with fail
          refine HP.out.mono ?_
          rintro e w2 ⟨rfl, hb⟩
          have HB := Lib.hid (xbytesWorld hb)
          clear hb
          go_wp2_with fail
          go_ret
          exact ⟨rfl, HB.out⟩
        · have t3 : ((s.size : Int) == 1) = false := by rw [beq_eq_false_iff_ne]; omega
          have hz1 : z = false := by rw [← HZ.out]; simp [h2, h3]
          subst hz1
          clear HZ h2 h3
          go_enter Tryz.func132, Tryz.ntmps132
          go_wp2_with fail
          refine HP.out.mono ?_
          rintro e w2 ⟨rfl, hb⟩
          have HB := Lib.hid (xbytesWorld hb)
          clear hb
          go_wp2_with fail
          go_ret
          exact ⟨rfl, HB.out⟩
      · have t2 : ((s[0].toNat : Int) != 48) = true := by rw [bne_iff_ne]; omega
        have hz1 : z = true := by rw [← HZ.out]; simp [h1, h2]
        subst hz1
        clear HZ h2
        go_enter Tryz.func132, Tryz.ntmps132
        go_wp2_with fail
        refine HP.out.mono ?_
        rintro e w2 ⟨rfl, hb⟩
        have HB := Lib.hid (xbytesWorld hb)
        clear hb
        go_wp2_with fail
        go_ret
        exact ⟨rfl, HB.out⟩
    · have hz1 : z = false := by rw [← HZ.out]; simp [h1]
      subst hz1
      clear HZ
      go_enter Tryz.func132, Tryz.ntmps132
      go_wp2_with fail
      refine HP.out.mono ?_
      rintro e w2 ⟨rfl, hb⟩
      have HB := Lib.hid (xbytesWorld hb)
      clear hb
      go_wp2_with fail
      go_ret
      exact ⟨rfl, HB.out⟩
  | _ =>
    rw [hp] at hz
    obtain ⟨tp, p, hvar⟩ := hv.esyn
    have HP := Lib.hid (xparse_no s (by omega) (by rw [hp]; intro v h; cases h) (by rw [hp]; intro h; cases h) tp p w hvar)
    have hz0 : z = false := hz.symm
    subst hz0
    clear hv hz hp hvar
    go_enter Tryz.func132, Tryz.ntmps132
    go_wp2_with fail
    refine HP.out.mono ?_
    rintro e w2 ⟨t, N, rfl, hb⟩
    have HB := Lib.hid hb
    clear hb
    go_wp2_with fail
    go_ret
    exact ⟨rfl, HB.out⟩

end Go.Proofs.YtndmbljpfpnehaaGreatDoor
namespace Go.Proofs.YtndmbljpfpnehaaGreatDoor
open Go.RowKit Go.Lib Go.Op

set_option maxRecDepth 100000 in
theorem letter_calls (n : Nat) (w : World) (hn : n < 256) : Calls Tryz.prog 150 #[.int .u8 n] w fun e w' => e = .returned (.bool (decide (97 ≤ n ∧ n ≤ 122))) ∧ w = w' := by
  by_cases h1 : 97 ≤ n
  all_goals
    go_enter Tryz.func150, Tryz.ntmps150
    go_wp2
    go_ret
    exact ⟨vret_bool (by first | (simp; done) | (simp; omega) | (rw [Bool.eq_iff_iff]; simp; omega)), rfl⟩

theorem wordB_not {l : List UInt8} {k : Nat} {c : UInt8} (hk : l[k]? = some c) (h : charB c = false) : wordB l = false := by
  cases l with
  | nil => rfl
  | cons x t =>
    cases k with
    | zero =>
      have e : x = c := by simpa using hk
      subst e
      have : letterB x = false := by
        unfold charB at h
        simp only [Bool.or_eq_false_iff] at h
        exact h.1
      simp [wordB, this]
    | succ k =>
      have : t.all charB = false := by
        rw [List.all_eq_false]
        exact ⟨c, List.mem_of_getElem? (by simpa using hk), by simp [h]⟩
      simp [wordB, this]

theorem wordB_yes {l : List UInt8} {c : UInt8} (h0 : l[0]? = some c) (hc : letterB c = true) (hl : l.length ≤ 16) (ha : ∀ (k : Nat) (x : UInt8), l[k]? = some x → charB x = true) : wordB l = true := by
  cases l with
  | nil => cases h0
  | cons x t =>
    have e : x = c := by simpa using h0
    subst e
    have : t.all charB = true := by
      rw [List.all_eq_true]
      intro y hy
      obtain ⟨j, hj, rfl⟩ := List.mem_iff_getElem.1 hy
      exact ha (j + 1) _ (by simp [hj])
    simp only [List.length_cons] at hl
    simp only [wordB, hc, this, Bool.true_and, Bool.and_true, decide_eq_true_eq]
    omega

theorem wordB_long {l : List UInt8} (h : 16 < l.length) : wordB l = false := by
  cases hw : wordB l with
  | false => rfl
  | true => have := wordB_len hw; omega
theorem wordB_first {l : List UInt8} {c : UInt8} (h0 : l[0]? = some c) (hc : letterB c = false) : wordB l = false := by
  cases l with
  | nil => rfl
  | cons x t =>
    have e : x = c := by simpa using h0
    subst e
    simp [wordB, hc]

/-- So far all are a word's. -/
def CharsTo (l : List UInt8) (k : Nat) : Prop := ∀ j x, j < k → l[j]? = some x → charB x = true

theorem CharsTo.step {l : List UInt8} {k : Nat} (h : CharsTo l k) {c : UInt8} (hk : l[k]? = some c) (hc : charB c = true) : CharsTo l (k + 1) := fun j x hj hx => by
  by_cases e : j = k
  · subst e
    rw [hk] at hx
    injection hx with hx
    rw [← hx]; exact hc
  · exact h j x (by omega) hx

theorem charB_of {c : UInt8} : charB c = (decide (97 ≤ c.toNat ∧ c.toNat ≤ 122) || (decide (c.toNat = 95) || decide (48 ≤ c.toNat ∧ c.toNat ≤ 57))) := rfl

/-- A string's bytes, in a row of their own. -/
theorem conv_bytes (w : World) (s : ByteArray) : ∃ (W : World) (c : Nat), (convert 9 144 (.string s)).run Tryz.prog w = .ok (.slice (some ⟨w.heap.size, 0, none⟩) s.size c) W ∧ Below w.heap.size w W ∧ ∀ j x, s.data.toList[j]? = some x → W.cell? ⟨w.heap.size, j, none⟩ = some (.int .u8 x.toNat) := by
  refine ⟨_, _, Go.Lib.run_convert_string_bytes w 9 144 5 s Tryz.underlying9 Tryz.underlying144 Tryz.underlying5, ⟨?_, ?_, ?_, by rw [bytesWorld_size]; omega, fun q hq => bytesWorld_at_old w _ s q hq⟩, fun j x hx => ?_⟩
  · simp [bytesWorld, World.freeze, World.alloc, World.drew, -World.alloc_eq, -World.drew_eq]
  · simp [bytesWorld, World.freeze, World.alloc, World.drew, -World.alloc_eq, -World.drew_eq]
  · simp [bytesWorld, World.freeze, World.alloc, World.drew, -World.alloc_eq, -World.drew_eq]
  · have hj : j < s.size := by
      have := (List.getElem?_eq_some_iff.1 hx).1
      simpa using this
    rw [bytesWorld_cell w _ s j hj]
    simp [List.getD, hx]

set_option maxHeartbeats 2000000 in
set_option maxRecDepth 100000 in
theorem word_calls (s : ByteArray) (w : World) (hs : s.size ≤ maxLen) :
    Calls Tryz.prog 99 #[.string s] w fun e w' => e = .returned (.bool (wordB s.data.toList)) ∧ Below w.heap.size w w' := by
  unfold maxLen at hs
  have hsl : s.data.toList.length = s.size := by simp
  by_cases h0 : s.size = 0
  · obtain rfl : s = ⟨#[]⟩ := vempty (List.eq_nil_of_length_eq_zero (by omega))
    clear hsl hs
    go_enter Tryz.func99, Tryz.ntmps99
    go_wp2
    go_ret
    exact ⟨rfl, Below.refl _ _⟩
  have hse : s.data.toList ≠ [] := fun e => by rw [e] at hsl; simp at hsl; omega
  have ha : (s.toList == []) = false := by rw [beq_eq_false_iff_ne, vtoL]; exact hse
  have hb : (!s.toList.isEmpty) = true := by rw [vtoL]; simpa using hse
  have hc : s.toList.isEmpty = false := by rw [vtoL]; simpa using hse
  by_cases h16 : 16 < s.size
  · have hf : wordB s.data.toList = false := wordB_long (by omega)
    rw [hf]
    clear hf hse
    go_enter Tryz.func99, Tryz.ntmps99
    go_wp2
    go_ret
    exact ⟨rfl, Below.refl _ _⟩
  have h00 : 0 < s.size := by omega
  have hfst : s.data.toList[0]? = some s[0] := by
    rw [List.getElem?_eq_getElem (by omega)]
    rfl
  obtain ⟨c0, hc0⟩ : ∃ c0, s[0] = c0 := ⟨_, rfl⟩
  rw [hc0] at hfst
  have hc8 := c0.toNat_lt
  have Hfst := Lib.hid hfst
  have Hsl := Lib.hid hsl
  cases hl : letterB c0 with
  | false =>
    rw [wordB_first hfst hl]
    have hl' : decide (97 ≤ c0.toNat ∧ c0.toNat ≤ 122) = false := hl
    have HL : Hid (∀ W, Calls Tryz.prog 150 #[.int .u8 c0.toNat] W fun e w' => e = .returned (.bool false) ∧ W = w') := fun W => hl' ▸ letter_calls c0.toNat W hc8
    clear hfst hl hl' hse hsl
    go_enter Tryz.func99, Tryz.ntmps99
    go_wp2_with (go_at_call 150; (first | (refine (HL.out _).mono ?_) | (rw [hc0]; refine (HL.out _).mono ?_)); rintro e wq ⟨rfl, rfl⟩)
    go_ret
    exact ⟨rfl, Below.refl _ _⟩
  | true =>
    have hl' : decide (97 ≤ c0.toNat ∧ c0.toNat ≤ 122) = true := hl
    have HL : Hid (∀ W, Calls Tryz.prog 150 #[.int .u8 c0.toNat] W fun e w' => e = .returned (.bool true) ∧ W = w') := fun W => hl' ▸ letter_calls c0.toNat W hc8
    have Hl0 := Lib.hid hl
    obtain ⟨W, c, hcv, hbW, hcell⟩ := conv_bytes w s
    have HC := Lib.hid hcell
    have HB := Lib.hid hbW
    have H0 : Hid (CharsTo s.data.toList 0) := fun j x hj => by omega
    clear hfst hl hl' hse hsl hcell hbW
    go_enter Tryz.func99, Tryz.ntmps99
    go_wp2_with (go_at_call 150; (first | (refine (HL.out _).mono ?_) | (rw [hc0]; refine (HL.out _).mono ?_)); rintro e wq ⟨rfl, rfl⟩)
    go_loop [4, 21] (fun x i => ∃ k : Nat, i = .int .i64 k ∧ k ≤ s.size ∧ Hid (CharsTo s.data.toList k)) (fun _ i => 16 - (intOf i).toNat)
    case atStart => exact ⟨0, rfl, Nat.zero_le _, H0⟩
    case round =>
      obtain ⟨k, rfl, hk, HK⟩ := hrel
      by_cases hlt : k < s.size
      · obtain ⟨x, hx⟩ : ∃ x, s.data.toList[k]? = some x := ⟨_, List.getElem?_eq_getElem (by rw [Hsl.out]; exact hlt)⟩
        have hcx := HC.out k x hx
        have Hx := Lib.hid hx
        have hx8 := x.toNat_lt
        have HLx := fun W => letter_calls x.toNat W hx8
        have hstep := fun hch : charB x = true => Lib.hid (HK.out.step hx hch)
        have hfail := fun hch : charB x = false => Lib.hid (wordB_not hx hch)
        rw [charB_of] at hstep hfail
        clear hx
        generalize x.toNat = n at *
        have go1 : ∀ (_ : n = 95 ∨ (48 ≤ n ∧ n ≤ 57) ∨ (97 ≤ n ∧ n ≤ 122)), Hid (CharsTo s.data.toList (k + 1)) := fun h => hstep (by simp; omega)
        have go0 : ∀ (_ : ¬ n = 95) (_ : ¬ (48 ≤ n ∧ n ≤ 57)) (_ : ¬ (97 ≤ n ∧ n ≤ 122)), Hid (wordB s.data.toList = false) := fun h1 h2 h3 => hfail (by simp; omega)
        clear hstep hfail
        by_cases a1 : 97 ≤ n ∧ n ≤ 122
        · have hst := go1 (.inr (.inr a1))
          have HLb : Hid (∀ W, Calls Tryz.prog 150 #[.int .u8 n] W fun e w' => e = .returned (.bool true) ∧ W = w') := fun W => by have := HLx W; rwa [decide_eq_true a1] at this
          clear go1 go0 HLx
          go_wp2_with (go_at_call 150; refine (HLb.out _).mono ?_; rintro e wq ⟨rfl, rfl⟩)
          go_round
          case rel => exact ⟨k + 1, by go_num, by omega, hst⟩
          case measure => simp [intOf]; omega
        have HLb : Hid (∀ W, Calls Tryz.prog 150 #[.int .u8 n] W fun e w' => e = .returned (.bool false) ∧ W = w') := fun W => by have := HLx W; rwa [decide_eq_false a1] at this
        clear HLx
        by_cases a2 : n = 95
        · have hst := go1 (.inl a2)
          subst a2
          clear go1 go0
          go_wp2_with (go_at_call 150; refine (HLb.out _).mono ?_; rintro e wq ⟨rfl, rfl⟩)
          go_round
          case rel => exact ⟨k + 1, by go_num, by omega, hst⟩
          case measure => simp [intOf]; omega
        have a5 : ((n : Int) != 95) = true := by rw [bne_iff_ne]; omega
        by_cases a3 : n < 48
        · have hst := go0 a2 (by omega) a1
          clear go1 go0
          go_wp2_with (go_at_call 150; refine (HLb.out _).mono ?_; rintro e wq ⟨rfl, rfl⟩)
          go_ret
          exact ⟨vret_bool hst.out.symm, HB.out⟩
        by_cases a4 : 57 < n
        · have hst := go0 a2 (by omega) a1
          clear go1 go0
          go_wp2_with (go_at_call 150; refine (HLb.out _).mono ?_; rintro e wq ⟨rfl, rfl⟩)
          go_ret
          exact ⟨vret_bool hst.out.symm, HB.out⟩
        · have hst := go1 (.inr (.inl ⟨by omega, by omega⟩))
          clear go1 go0
          go_wp2_with (go_at_call 150; refine (HLb.out _).mono ?_; rintro e wq ⟨rfl, rfl⟩)
          go_round
          case rel => exact ⟨k + 1, by go_num, by omega, hst⟩
          case measure => simp [intOf]; omega
      · have hyes := Lib.hid (wordB_yes Hfst.out Hl0.out (by rw [Hsl.out]; omega) fun j x hx => HK.out j x (by have := (List.getElem?_eq_some_iff.1 hx).1; rw [Hsl.out] at this; omega) hx)
        go_wp2
        go_ret
        exact ⟨vret_bool hyes.out.symm, HB.out⟩

end Go.Proofs.YtndmbljpfpnehaaGreatDoor
namespace Go.Proofs.YtndmbljpfpnehaaGreatDoor
open Go.RowKit Go.Lib Go.Op

theorem tB_list (l : List UInt8) : (strB l).toList = l := by rw [ByteArray.toList_eq, strB_list]
theorem tbool {a b : Bool} (h : a = b) : Ending.returned (.bool a) = .returned (.bool b) := by rw [h]

/-- What stays as it was: all but the blocks of K. -/
structure TFr (K : Nat → Prop) (w w' : World) : Prop where
  os : w'.os = w.os
  tape : w'.tape = w.tape
  output : w'.output = w.output
  size : w.heap.size ≤ w'.heap.size
  block : ∀ k, k < w.heap.size → ¬ K k → w'.heap[k]? = w.heap[k]?

section
variable {K K' : Nat → Prop} {a b c w w' : World}
theorem TFr.refl (K : Nat → Prop) (w : World) : TFr K w w := ⟨rfl, rfl, rfl, Nat.le_refl _, fun _ _ _ => rfl⟩
theorem TFr.trans (h : TFr K a b) (k : TFr K b c) : TFr K a c :=
  ⟨k.os.trans h.os, k.tape.trans h.tape, k.output.trans h.output, Nat.le_trans h.size k.size, fun i hi hn => (k.block i (Nat.lt_of_lt_of_le hi h.size) hn).trans (h.block i hi hn)⟩
theorem TFr.mono (h : TFr K a b) (hs : ∀ k, k < a.heap.size → K k → K' k) : TFr K' a b := ⟨h.os, h.tape, h.output, h.size, fun i hi hn => h.block i hi (fun e => hn (hs i hi e))⟩
theorem TFr.drew (h : TFr K w w') : TFr K w w'.drew := ⟨h.os, h.tape, h.output, h.size, h.block⟩
theorem TFr.alloc (h : TFr K w w') (o : Obj) : TFr K w (w'.alloc o) := ⟨h.os, h.tape, h.output, Nat.le_trans h.size (by simp), fun k hk hn => (heap_alloc_old w' o (Nat.lt_of_lt_of_le hk h.size)).trans (h.block k hk hn)⟩
theorem TFr.setCell (h : TFr K w w') {p : Addr} (hp : p.block < w.heap.size → K p.block) (v : Value) : TFr K w (w'.setCell p v) :=
  ⟨h.os, h.tape, h.output, by simpa using h.size, fun k hk hn => (heap_setCell_other w' p k v (fun e => hn (e ▸ hp (e ▸ hk)))).trans (h.block k hk hn)⟩
theorem TFr.of_below (h : Below w.heap.size w w') : TFr K w w' := ⟨h.os, h.tape, h.output, h.size, fun k hk _ => h.block k hk⟩
theorem TFr.of_grown {row : Option Nat} (h : w.grownBy w' row) (hk : ∀ k, row = some k → K k) : TFr K w w' := ⟨h.os, h.tape, h.output, h.size, fun k hl hn => h.block k hl (fun e => hn (hk k e.symm))⟩
theorem TFr.below (h : TFr K w w') {B : Nat} (hB : B ≤ w.heap.size) (hk : ∀ k, K k → B ≤ k) : Below B w w' := ⟨h.os, h.tape, h.output, h.size, fun k hl => h.block k (by omega) (fun e => by have := hk k e; omega)⟩
theorem TFr.at (R k : Nat) (v : Value) : TFr (· = R) w (w.setCell ⟨R, k, none⟩ v) := TFr.setCell (K := (· = R)) (TFr.refl _ w) (p := ⟨R, k, none⟩) (fun _ => rfl) v
theorem TFr.cell (h : TFr K w w') {p : Addr} {v : Value} (hc : w.cell? p = some v) (hp : ¬ K p.block) : w'.cell? p = some v := (World.cell?_of_block (h.block _ (World.block_lt_of_cell? _ _ hc) hp)).trans hc
end

section
variable {w w' : World}
theorem tcell_of_blk {b k : Nat} {cs : Array Value} {e : TypeId} {fr : Nat × Nat} (h : w.heap[b]? = some (.cells cs e fr)) {v : Value} (hv : cs[k]? = some v) : w.cell? ⟨b, k, none⟩ = some v := by simp [World.cell?, h, hv]
theorem tkeepAl {W : World} {p : Addr} {v : Value} (h : W.cell? p = some v) (o : Obj) : (W.alloc o).cell? p = some v := (World.cell?_alloc_lt _ _ _ (World.block_lt_of_cell? _ _ h)).trans h
theorem tkeep {w w' : World} (hb : Below w.heap.size w w') {p : Addr} {v : Value} (h : w.cell? p = some v) : w'.cell? p = some v := (hb.cell (World.block_lt_of_cell? _ _ h)).trans h
theorem tnew (W : World) (cs : Array Value) (t : TypeId) (i : Nat) {x : Value} (hx : cs[i]? = some x) : (W.alloc (.cells cs t)).cell? ⟨W.heap.size, i, none⟩ = some x := tcell_of_blk (heap_alloc_new W _) hx
theorem tfrozen_of_blk {b k : Nat} {cs : Array Value} {e : TypeId} (h : w.heap[b]? = some (.cells cs e (0, 0))) : w.frozen? ⟨b, k, none⟩ = false := by simp [World.frozen?, h]
theorem tsetCell_blk {b k : Nat} {cs : Array Value} {e : TypeId} {fr : Nat × Nat} (h : w.heap[b]? = some (.cells cs e fr)) (v : Value) : (w.setCell ⟨b, k, none⟩ v).heap[b]? = some (.cells (cs.setIfInBounds k v) e fr) := by
  simp [World.setCell, Array.getElem?_modify, h]
end

/-- Tokens as they are in a block, from an address on. -/
def TokL (T : Nat) (w : World) (a : Option Addr) (l : List XTok) : Prop := ∀ j t, l[j]? = some t → ∃ o, a = some ⟨T, o, none⟩ ∧ w.cell? ⟨T, o + j * 3, none⟩ = some (.int .i64 t.k) ∧ w.cell? ⟨T, o + j * 3 + 1, none⟩ = some (.string (strB t.b)) ∧ w.cell? ⟨T, o + j * 3 + 2, none⟩ = some (.int .i64 t.at_)
theorem TokL.keep {K : Nat → Prop} {T : Nat} {w w' : World} {a : Option Addr} {l : List XTok} (h : TokL T w a l) (hf : TFr K w w') (hT : ¬ K T) : TokL T w' a l := fun j t hj => by
  obtain ⟨o, e, h0, h1, h2⟩ := h j t hj
  exact ⟨o, e, hf.cell h0 hT, hf.cell h1 hT, hf.cell h2 hT⟩
/-- What a token of a text may be. -/
def TokOk (t : XTok) : Prop := t.b.length ≤ 1000 ∧ t.at_ ≤ 1000000 ∧ (t.k = 2 → ∃ v : Int, parseIntB 64 t.b = .ok v ∧ 0 ≤ v ∧ v ≤ 1099511627776)

theorem xvar_fr {R : Nat} {w w' : World} (hb : TFr (· = R) w w') {n : String} {g : Nat} (hg : Tryz.prog.globalNamed n = some g) (hR : R ≠ g) {x : Array Value} (h : w.var? Tryz.prog n = some x) : w'.var? Tryz.prog n = some x := by
  simp only [World.var?, hg, Option.bind_some] at h ⊢
  cases hh : w.heap[g]? with
  | none => rw [hh] at h; simp at h
  | some o =>
    have hlt := (Array.getElem?_eq_some_iff.1 hh).1
    rw [hb.block g hlt (fun e => hR e.symm)]
    exact h
/-- The package's variables that the reader reads. -/
structure TVars (w : World) : Prop where
  xv : XVars w
  t0 : w.cell? ⟨1, 0, none⟩ = some (.string ⟨#[102, 97, 108, 115, 101]⟩)
  t1 : w.cell? ⟨1, 1, none⟩ = some (.string ⟨#[116, 114, 117, 101]⟩)
theorem TVars.below {w w' : World} (h : TVars w) (hb : Below w.heap.size w w') : TVars w' := ⟨h.xv.below hb, tkeep hb h.t0, tkeep hb h.t1⟩
theorem XVars.fr {R : Nat} {w w' : World} (h : XVars w) (hb : TFr (· = R) w w') (hR : 3 < R ∧ 4 < R ∧ 1 < R) : XVars w' := by
  obtain ⟨⟨t, p, h1⟩, ⟨t', p', h2⟩⟩ := h
  exact ⟨⟨t, p, xvar_fr hb xgSyn (Nat.ne_of_gt hR.1) h1⟩, ⟨t', p', xvar_fr hb xgRan (Nat.ne_of_gt hR.2.1) h2⟩⟩
theorem TVars.fr {R : Nat} {w w' : World} (h : TVars w) (hb : TFr (· = R) w w') (hR : 3 < R ∧ 4 < R ∧ 1 < R) : TVars w' := ⟨h.xv.fr hb hR, hb.cell h.t0 (Nat.ne_of_lt hR.2.2), hb.cell h.t1 (Nat.ne_of_lt hR.2.2)⟩

/-- The reader in memory. -/
structure RdAt (w : World) (R T E : Nat) (s : RS) (a : Option Addr) (c : Nat) : Prop where
  blk : w.heap[R]? = some (.cells #[.slice a s.l.length c, .int .i64 E, .int .i64 s.deep, .int .i64 s.wrong] 70 (0, 0))
  cap : s.l.length ≤ c
  max : c ≤ maxLen
  nil : a = none → c = 0
  toks : TokL T w a s.l
  tr : T < R
  ok : ∀ t ∈ s.l, TokOk t
  deep : s.deep ≤ 100
  en : E ≤ 1000000
  vars : TVars w
  gl : 3 < R ∧ 4 < R ∧ 1 < R
def RdR (w : World) (R T E : Nat) (s : RS) : Prop := ∃ a c, RdAt w R T E s a c

section
variable {w w' : World} {R T E : Nat} {s : RS} {a : Option Addr} {c : Nat}
theorem RdAt.c0 (h : RdAt w R T E s a c) : w.cell? ⟨R, 0, none⟩ = some (.slice a s.l.length c) := tcell_of_blk h.blk rfl
theorem RdAt.c1 (h : RdAt w R T E s a c) : w.cell? ⟨R, 1, none⟩ = some (.int .i64 E) := tcell_of_blk h.blk rfl
theorem RdAt.c2 (h : RdAt w R T E s a c) : w.cell? ⟨R, 2, none⟩ = some (.int .i64 s.deep) := tcell_of_blk h.blk rfl
theorem RdAt.c3 (h : RdAt w R T E s a c) : w.cell? ⟨R, 3, none⟩ = some (.int .i64 s.wrong) := tcell_of_blk h.blk rfl
theorem RdAt.f (h : RdAt w R T E s a c) (k : Nat) : w.frozen? ⟨R, k, none⟩ = false := tfrozen_of_blk h.blk
theorem RdAt.lt (h : RdAt w R T E s a c) : R < w.heap.size := (Array.getElem?_eq_some_iff.1 h.blk).1
theorem RdAt.keep (h : RdAt w R T E s a c) (hb : Below w.heap.size w w') : RdAt w' R T E s a c :=
  { h with blk := (hb.block R h.lt).trans h.blk, toks := h.toks.keep (TFr.of_below (K := fun _ => False) hb) id, vars := h.vars.below hb }
theorem RdR.keep (h : RdR w R T E s) (hb : Below w.heap.size w w') : RdR w' R T E s := by
  obtain ⟨a, c, h⟩ := h
  exact ⟨a, c, h.keep hb⟩
theorem RdR.tr (h : RdR w R T E s) : T < R := by
  obtain ⟨a, c, h⟩ := h
  exact h.tr
/-- What is done to other blocks. -/
theorem RdAt.other {K : Nat → Prop} (h : RdAt w R T E s a c) (hf : TFr K w w') (hK : ∀ k, k ≤ R → ¬ K k) : RdAt w' R T E s a c := by
  have hG := h.gl
  have hb : Below (R + 1) w w' := hf.below h.lt (fun k hk => Nat.lt_of_not_le (fun e => hK k e hk))
  have hv : ∀ {n : String} {g : Nat} (hg : Tryz.prog.globalNamed n = some g) (_ : g < R) {x : Array Value}, w.var? Tryz.prog n = some x → w'.var? Tryz.prog n = some x := fun {n g} hg hlt {x} hx => by
    simp only [World.var?, hg, Option.bind_some] at hx ⊢
    rw [hb.block g (by omega)]
    exact hx
  obtain ⟨⟨⟨t, p, h1⟩, ⟨t', p', h2⟩⟩, h3, h4⟩ := h.vars
  exact { h with
    blk := (hb.block R (by omega)).trans h.blk
    toks := h.toks.keep hf (hK T (Nat.le_of_lt h.tr))
    vars := ⟨⟨⟨t, p, hv xgSyn hG.1 h1⟩, ⟨t', p', hv xgRan hG.2.1 h2⟩⟩, (World.cell?_of_block (hb.block _ (by show 1 < R + 1; omega))).trans h3, (World.cell?_of_block (hb.block _ (by show 1 < R + 1; omega))).trans h4⟩ }
theorem RdR.other {K : Nat → Prop} (h : RdR w R T E s) (hf : TFr K w w') (hK : ∀ k, k ≤ R → ¬ K k) : RdR w' R T E s := by
  obtain ⟨a, c, h⟩ := h
  exact ⟨a, c, h.other hf hK⟩
theorem RdR.lt (h : RdR w R T E s) : R < w.heap.size := by
  obtain ⟨a, c, h⟩ := h
  exact h.lt

/-- The first token's cells. -/
theorem RdAt.first {t : XTok} {r : List XTok} (h : RdAt w R T E s a c) (hl : s.l = t :: r) : ∃ o, a = some ⟨T, o, none⟩ ∧ w.cell? ⟨T, o, none⟩ = some (.int .i64 t.k) ∧ w.cell? ⟨T, o + 1, none⟩ = some (.string (strB t.b)) ∧ w.cell? ⟨T, o + 2, none⟩ = some (.int .i64 t.at_) := by
  obtain ⟨o, e, h0, h1, h2⟩ := h.toks 0 t (by rw [hl]; rfl)
  exact ⟨o, e, by simpa using h0, by simpa using h1, by simpa using h2⟩
/-- Behind the first token. -/
theorem RdAt.tail {t : XTok} {r : List XTok} (h : RdAt w R T E s a c) (hl : s.l = t :: r) : ∃ a' : Option Addr,
    (∀ W : World, (Instr.slice 42 (.slice a (r.length + 1) c) (some (.int .i64 1)) none none).run Tryz.prog W = .ok (.slice a' r.length (c - 1)) W) ∧ RdAt (w.setCell ⟨R, 0, none⟩ (.slice a' r.length (c - 1))) R T E ⟨r, s.deep, s.wrong⟩ a' (c - 1) := by
  have hcap := h.cap
  rw [hl, List.length_cons] at hcap
  refine ⟨if c = 1 then a else a.map (·.add (1 * 3)), fun W => ?_, ?_⟩
  · have hz : (sizeOf 76).run Tryz.prog W = .ok 3 W := by kernel_rfl
    rw [show (Value.int .i64 1) = .int .i64 ((1 : Nat) : Int) from rfl, run_slice_l (P := Tryz.prog) W 42 a (r.length + 1) c (by kernel_rfl) .i64 ((1 : Nat) : Int) (by omega) (by omega)]
    have he : Tryz.prog.elem 42 = 76 := by kernel_rfl
    rw [he, hz]
    simp [Result.andThen, sliced]
  · have hb := h.blk
    rw [hl, List.length_cons] at hb
    refine ⟨by rw [tsetCell_blk hb]; rfl, by simp; omega, by have := h.max; omega, fun hn => ?_, fun j x hj => ?_, h.tr, fun x hx => h.ok x (by rw [hl]; exact List.mem_cons_of_mem _ hx), h.deep, h.en, h.vars.fr (TFr.at _ _ _) h.gl, h.gl⟩
    · split at hn
      · omega
      · cases a with
        | none => have := h.nil rfl; omega
        | some A => cases hn
    · dsimp only at hj
      obtain ⟨o, e, h0, h1, h2⟩ := h.toks (j + 1) x (by rw [hl]; simpa using hj)
      have hlt : j < r.length := (List.getElem?_eq_some_iff.1 hj).1
      have hc : c ≠ 1 := by omega
      subst e
      have hfr : TFr (· = R) w (w.setCell ⟨R, 0, none⟩ (.slice (if c = 1 then some ⟨T, o, none⟩ else (some (⟨T, o, none⟩ : Addr)).map (·.add (1 * 3))) r.length (c - 1))) := TFr.at _ _ _
      have hg := Nat.ne_of_lt h.tr
      refine ⟨o + 3, by simp [hc, Addr.add], ?_, ?_, ?_⟩
      · have := hfr.cell h0 hg
        rw [show o + 3 + j * 3 = o + (j + 1) * 3 by omega]
        exact this
      · have := hfr.cell h1 hg
        rw [show o + 3 + j * 3 + 1 = o + (j + 1) * 3 + 1 by omega]
        exact this
      · have := hfr.cell h2 hg
        rw [show o + 3 + j * 3 + 2 = o + (j + 1) * 3 + 2 by omega]
        exact this
/-- With nothing left. -/
theorem RdAt.empty (h : RdAt w R T E s a c) : RdAt (w.setCell ⟨R, 0, none⟩ (.slice none 0 0)) R T E ⟨[], s.deep, s.wrong⟩ none 0 :=
  ⟨by rw [tsetCell_blk h.blk]; rfl, Nat.le_refl _, Nat.zero_le _, fun _ => rfl, fun j x hj => (by simp at hj), h.tr, fun x hx => (by cases hx), h.deep, h.en, h.vars.fr (TFr.at _ _ _) h.gl, h.gl⟩
theorem RdAt.setWrong (h : RdAt w R T E s a c) (x : Int) : RdAt (w.setCell ⟨R, 3, none⟩ (.int .i64 x)) R T E ⟨s.l, s.deep, x⟩ a c :=
  { h with
    blk := by rw [tsetCell_blk h.blk]; rfl
    toks := h.toks.keep (TFr.at _ _ _) (Nat.ne_of_lt h.tr)
    vars := h.vars.fr (TFr.at _ _ _) h.gl }
theorem RdAt.setDeep (h : RdAt w R T E s a c) {x : Nat} (hx : x ≤ 100) : RdAt (w.setCell ⟨R, 2, none⟩ (.int .i64 x)) R T E ⟨s.l, x, s.wrong⟩ a c :=
  { h with
    blk := by rw [tsetCell_blk h.blk]; rfl
    toks := h.toks.keep (TFr.at _ _ _) (Nat.ne_of_lt h.tr)
    vars := h.vars.fr (TFr.at _ _ _) h.gl
    deep := hx }
end

theorem RdAt.setDeep' {w : World} {R T E : Nat} {s : RS} {a : Option Addr} {c : Nat} (h : RdAt w R T E s a c) {x : Nat} (hx : x ≤ 100) {v : Int} (hv : v = x) : RdAt (w.setCell ⟨R, 2, none⟩ (.int .i64 v)) R T E ⟨s.l, x, s.wrong⟩ a c := by
  subst hv
  exact h.setDeep hx

/-- What a call of the reader leaves. -/
structure RdTo (R T E : Nat) (s' : RS) (w w' : World) : Prop where
  rd : RdR w' R T E s'
  fr : TFr (· = R) w w'
theorem RdTo.of_below {w w' : World} {R T E : Nat} {s : RS} (h : RdR w R T E s) (hb : Below w.heap.size w w') : RdTo R T E s w w' := ⟨h.keep hb, TFr.of_below hb⟩
theorem RdTo.after {w w1 w' : World} {R T E : Nat} {s : RS} (hb : Below w.heap.size w w1) (h : RdTo R T E s w1 w') : RdTo R T E s w w' := ⟨h.rd, (TFr.of_below hb).trans h.fr⟩
theorem RdTo.trans {w w1 w' : World} {R T E : Nat} {s s' : RS} (h1 : RdTo R T E s w w1) (h : RdTo R T E s' w1 w') : RdTo R T E s' w w' := ⟨h.rd, h1.fr.trans h.fr⟩
theorem RdTo.then {w w1 w' : World} {R T E : Nat} {s : RS} (h1 : RdTo R T E s w w1) (hb : Below w1.heap.size w1 w') : RdTo R T E s w w' := ⟨h1.rd.keep hb, h1.fr.trans (TFr.of_below hb)⟩
theorem isT_cons {E : Nat} {s : RS} {k : Nat} {b : List UInt8} (h : isT E s k b = true) (hk : k ≠ 0) : ∃ t r, s.l = t :: r := by
  unfold isT nextT at h
  cases hl : s.l with
  | nil => rw [hl] at h; simp at h; exact absurd h.1.symm hk
  | cons t r => exact ⟨t, r, rfl⟩

end Go.Proofs.YtndmbljpfpnehaaGreatDoor
namespace Go.Proofs.YtndmbljpfpnehaaGreatDoor
open Go.RowKit Go.Lib Go.Op

def tokV (t : XTok) : Value := .agg #[.int .i64 t.k, .string (strB t.b), .int .i64 t.at_]
def rdP (R : Nat) : Value := .pointer (some ⟨R, 0, none⟩)
def markV (k : Nat) (b : List UInt8) : Value := .agg #[.int .i64 k, .string (strB b)]

theorem field_at (a b c : Value) (W : World) : (Instr.field 76 (.agg #[a, b, c]) 2).run Tryz.prog W = .ok c W := by kernel_rfl
theorem field_text (a b c : Value) (W : World) : (Instr.field 76 (.agg #[a, b, c]) 1).run Tryz.prog W = .ok b W := by kernel_rfl
theorem field_kind (a b c : Value) (W : World) : (Instr.field 76 (.agg #[a, b, c]) 0).run Tryz.prog W = .ok a W := by kernel_rfl

section
variable {w : World} {R T E : Nat} {s : RS}

set_option maxRecDepth 100000 in
theorem next_calls (h : RdR w R T E s) : Calls Tryz.prog 142 #[.pointer (some ⟨R, 0, none⟩)] w fun e w' => e = .returned (.agg #[.int .i64 (nextT E s).k, .string (strB (nextT E s).b), .int .i64 (nextT E s).at_]) ∧ Below w.heap.size w w' := by
  obtain ⟨a, c, h⟩ := h
  have c0 := h.c0
  have c1 := h.c1
  cases hl : s.l with
  | nil =>
    have hn : nextT E s = ⟨0, [], E⟩ := by unfold nextT; rw [hl]
    rw [hn]
    rw [hl] at c0
    simp only [List.length_nil] at c0
    have HB := Lib.hid ((Below.refl w.heap.size w).alloc (Nat.le_refl _) (.cells #[.int .i64 0, .string (strB []), .int .i64 E] 76))
    have d0 := tkeepAl c0
    have d1 := tkeepAl c1
    clear h hl hn
    go_enter Tryz.func142, Tryz.ntmps142
    go_wp2
    refine bodyPost_ret (v := .agg #[.int .i64 0, .string (strB []), .int .i64 E]) (by simp [results, Tryz.results142, go_sem]; rfl) rfl ⟨rfl, HB.out⟩
  | cons t r =>
    have hn : nextT E s = t := by unfold nextT; rw [hl]
    rw [hn]
    obtain ⟨o, rfl, h0, h1, h2⟩ := h.first hl
    rw [hl, List.length_cons] at c0
    have hlen : ((r.length + 1 : Nat) : Int) ≠ 0 := by omega
    obtain ⟨q, hq⟩ : ∃ q, r.length + 1 = q := ⟨_, rfl⟩
    have ht : ((q : Int) == 0) = false := by rw [beq_eq_false_iff_ne]; omega
    have hq0 : 0 < q := by omega
    rw [hq] at c0
    have HB := Lib.hid ((Below.refl w.heap.size w).alloc (Nat.le_refl _) (.cells #[.int .i64 t.k, .string (strB t.b), .int .i64 t.at_] 76))
    have d0 := tkeepAl c0
    have d1 := tkeepAl h0
    have d2 := tkeepAl h1
    have d3 := tkeepAl h2
    clear h hl hn hlen hq
    go_enter Tryz.func142, Tryz.ntmps142
    go_wp2
    refine bodyPost_ret (v := .agg #[.int .i64 t.k, .string (strB t.b), .int .i64 t.at_]) (by simp [results, Tryz.results142, go_sem]) rfl ⟨rfl, HB.out⟩

set_option maxRecDepth 100000 in
theorem is_calls (h : RdR w R T E s) (k : Nat) (b : List UInt8) : Calls Tryz.prog 138 #[.pointer (some ⟨R, 0, none⟩), .agg #[.int .i64 k, .string (strB b)]] w fun e w' => e = .returned (.bool (isT E s k b)) ∧ Below w.heap.size w w' := by
  have hb0 := (Below.refl w.heap.size w).alloc (Nat.le_refl _) (.cells #[.int .i64 k, .string (strB b)] 124)
  have HN := Lib.hid (next_calls (h.keep hb0))
  have HB0 := Lib.hid hb0
  obtain ⟨x, hx⟩ : ∃ x, nextT E s = x := ⟨_, rfl⟩
  have hz : isT E s k b = decide (x.k = k ∧ x.b = b) := by unfold isT; rw [hx]
  rw [hz]
  rw [hx] at HN
  clear h hx hz hb0
  go_enter Tryz.func138, Tryz.ntmps138
  go_wp2_with fail
  with_reducible refine HN.out.mono ?_
  rintro e w1 ⟨rfl, hb1⟩
  have m0 := tkeepAl (tkeep hb1 (tnew w #[.int .i64 k, .string (strB b)] 124 0 rfl))
  have m1 := tkeepAl (tkeep hb1 (tnew w #[.int .i64 k, .string (strB b)] 124 1 rfl))
  have HB1 := Lib.hid (HB0.out.trans (hb1.mono HB0.out.size))
  clear hb1
  go_wp2
  · rename_i e1 e2
    rw [tB_list, tB_list] at e2
    go_ret
    exact ⟨tbool (by simp; exact ⟨by omega, e2.symm⟩), HB1.out.alloc HB1.out.size _⟩
  · rename_i e1 e2
    rw [tB_list, tB_list] at e2
    go_ret
    exact ⟨tbool (by simp; exact fun _ e => e2 e.symm), HB1.out.alloc HB1.out.size _⟩
  · rename_i e1
    go_ret
    exact ⟨tbool (by simp; intro e; omega), HB1.out.alloc HB1.out.size _⟩

set_option maxRecDepth 100000 in
theorem take_calls (h : RdR w R T E s) {k : Nat} (hk : k ≠ 0) (b : List UInt8) : Calls Tryz.prog 78 #[.pointer (some ⟨R, 0, none⟩), .agg #[.int .i64 k, .string (strB b)]] w fun e w' => e = .returned (.bool (isT E s k b)) ∧ RdTo R T E (takeT E s k b).2 w w' := by
  have hb0 := (Below.refl w.heap.size w).alloc (Nat.le_refl _) (.cells #[.int .i64 k, .string (strB b)] 124)
  have HI := Lib.hid (is_calls (h.keep hb0) k b)
  have HB0 := Lib.hid hb0
  have H := Lib.hid h
  cases hz : isT E s k b with
  | false =>
    have hs : (takeT E s k b).2 = s := by unfold takeT; rw [hz]; rfl
    rw [hs]
    rw [hz] at HI
    clear hz hs hb0 h
    go_enter Tryz.func78, Tryz.ntmps78
    go_wp2_with fail
    with_reducible refine HI.out.mono ?_
    rintro e w1 ⟨rfl, hb1⟩
    have HB1 := Lib.hid (HB0.out.trans (hb1.mono HB0.out.size))
    clear hb1
    go_wp2
    go_ret
    exact ⟨rfl, RdTo.of_below H.out HB1.out⟩
  | true =>
    obtain ⟨t, r, hl⟩ := isT_cons hz hk
    have hs : (takeT E s k b).2 = ⟨r, s.deep, s.wrong⟩ := by unfold takeT; rw [hz, hl]; rfl
    rw [hs]
    rw [hz] at HI
    have HL := Lib.hid hl
    clear hz hs hb0 h hl
    go_enter Tryz.func78, Tryz.ntmps78
    go_wp2_with fail
    with_reducible refine HI.out.mono ?_
    rintro e w1 ⟨rfl, hb1⟩
    have HB1 := Lib.hid (HB0.out.trans (hb1.mono HB0.out.size))
    clear hb1
    obtain ⟨a, c, h1⟩ := H.out.keep HB1.out
    obtain ⟨a', hsl, h2⟩ := h1.tail HL.out
    have H2 := Lib.hid h2
    have c0 := h1.c0
    have f0 := h1.f 0
    rw [HL.out, List.length_cons] at c0
    obtain ⟨q, hq⟩ : ∃ q, r.length + 1 = q := ⟨_, rfl⟩
    rw [hq] at c0 hsl
    obtain ⟨m, hm⟩ : ∃ m, r.length = m := ⟨_, rfl⟩
    obtain ⟨c', hc'⟩ : ∃ c', c - 1 = c' := ⟨_, rfl⟩
    rw [hm, hc'] at hsl H2
    clear h1 h2 hq hm hc'
    go_wp2
    go_ret
    exact ⟨rfl, ⟨⟨a', _, H2.out⟩, (TFr.of_below HB1.out).trans (TFr.at _ _ _)⟩⟩
end

end Go.Proofs.YtndmbljpfpnehaaGreatDoor
namespace Go.Proofs.YtndmbljpfpnehaaGreatDoor
open Go.RowKit Go.Lib Go.Op

section
variable {w : World} {R T E : Nat} {s : RS}

set_option maxRecDepth 100000 in
theorem fail_calls (h : RdR w R T E s) : Calls Tryz.prog 84 #[.pointer (some ⟨R, 0, none⟩)] w fun e w' => e = .returned (.tuple #[]) ∧ RdTo R T E (failT E s) w w' := by
  have HN := Lib.hid (next_calls h)
  have H := Lib.hid h
  obtain ⟨a, c, h1⟩ := h
  have c3 := h1.c3
  have f0 := h1.f 0
  have f3 := h1.f 3
  have c0 := h1.c0
  by_cases hw : s.wrong = -1
  · have hs : failT E s = ⟨[], s.deep, ((nextT E s).at_ : Int)⟩ := by unfold failT; rw [if_pos hw]
    rw [hs]
    obtain ⟨x, hx⟩ : ∃ x, nextT E s = x := ⟨_, rfl⟩
    rw [hx] at HN ⊢
    rw [hw] at c3
    clear hs hx hw h1
    go_enter Tryz.func84, Tryz.ntmps84
    go_wp2_with fail
    with_reducible refine HN.out.mono ?_
    rintro e w1 ⟨rfl, hb1⟩
    obtain ⟨a1, c1, k1⟩ := H.out.keep hb1
    have g0 := k1.f 0
    have g3 := k1.f 3
    have b3 := k1.c3
    have b0 := k1.c0
    have k2 := k1.setWrong (x.at_ : Int)
    have g0' := k2.f 0
    have b0' := k2.c0
    have K3 := Lib.hid k2.empty
    have HB1 := Lib.hid hb1
    have hf := field_at (.int .i64 x.k) (.string (strB x.b)) (.int .i64 x.at_)
    clear hb1 k1 k2
    go_wp2
    go_end0
    exact ⟨rfl, ⟨⟨none, 0, K3.out⟩, (TFr.of_below HB1.out).trans ((TFr.at _ _ _).trans (TFr.at _ _ _))⟩⟩
  · have hs : failT E s = ⟨[], s.deep, s.wrong⟩ := by unfold failT; rw [if_neg hw]
    rw [hs]
    have ht : (s.wrong == -1) = false := by rw [beq_eq_false_iff_ne]; exact hw
    have K3 := Lib.hid h1.empty
    clear hs hw h1
    go_enter Tryz.func84, Tryz.ntmps84
    go_wp2
    go_end0
    exact ⟨rfl, ⟨⟨none, 0, K3.out⟩, TFr.at _ _ _⟩⟩

set_option maxRecDepth 100000 in
theorem need_calls (h : RdR w R T E s) {k : Nat} (hk : k ≠ 0) (b : List UInt8) : Calls Tryz.prog 74 #[.pointer (some ⟨R, 0, none⟩), .agg #[.int .i64 k, .string (strB b)]] w fun e w' => e = .returned (.tuple #[]) ∧ RdTo R T E (needT E s k b) w w' := by
  have hb0 := (Below.refl w.heap.size w).alloc (Nat.le_refl _) (.cells #[.int .i64 k, .string (strB b)] 124)
  have HT := Lib.hid (take_calls (h.keep hb0) hk b)
  have HB0 := Lib.hid hb0
  cases hz : isT E s k b with
  | false =>
    have hs : needT E s k b = failT E (takeT E s k b).2 := by unfold needT takeT; rw [hz]; rfl
    rw [hs]
    rw [hz] at HT
    clear hz hs hb0 h
    go_enter Tryz.func74, Tryz.ntmps74
    go_wp2_with fail
    with_reducible refine HT.out.mono ?_
    rintro e w1 ⟨rfl, hd1⟩
    have HD1 := Lib.hid hd1
    have HF := Lib.hid (fail_calls hd1.rd)
    clear hd1
    go_wp2_with fail
    with_reducible refine HF.out.mono ?_
    rintro e w2 ⟨rfl, hd2⟩
    have HD2 := Lib.hid (RdTo.after HB0.out (HD1.out.trans hd2))
    clear hd2
    go_wp2
    go_end0
    exact ⟨rfl, HD2.out⟩
  | true =>
    have hs : needT E s k b = (takeT E s k b).2 := by unfold needT takeT; rw [hz]; rfl
    rw [hs]
    rw [hz] at HT
    clear hz hs hb0 h
    go_enter Tryz.func74, Tryz.ntmps74
    go_wp2_with fail
    with_reducible refine HT.out.mono ?_
    rintro e w1 ⟨rfl, hd1⟩
    have HD1 := Lib.hid (RdTo.after HB0.out hd1)
    clear hd1
    go_wp2
    go_end0
    exact ⟨rfl, HD1.out⟩

set_option maxRecDepth 100000 in
theorem of_calls' (h : RdR w R T E s) {k : Nat} (hk : k ≠ 0) : Calls Tryz.prog 141 #[.pointer (some ⟨R, 0, none⟩), .int .i64 k] w fun e w' => e = .returned (.string (strB (ofT E s k).1)) ∧ RdTo R T E (ofT E s k).2 w w' := by
  have HN := Lib.hid (next_calls h)
  have H := Lib.hid h
  by_cases hz : (nextT E s).k = k
  · have hl : ∃ t r, s.l = t :: r := by
      unfold nextT at hz
      cases hl : s.l with
      | nil => rw [hl] at hz; exact absurd hz.symm hk
      | cons t r => exact ⟨t, r, rfl⟩
    obtain ⟨t, r, hl⟩ := hl
    have hx : nextT E s = t := by unfold nextT; rw [hl]
    have hs : ofT E s k = (t.b, ⟨r, s.deep, s.wrong⟩) := by unfold ofT; rw [if_pos hz, hx, hl]; rfl
    rw [hs]
    rw [hx] at HN hz
    have HL := Lib.hid hl
    subst hz
    have ht : ((t.k : Int) != (t.k : Int)) = false := by simp
    clear hs hl hx h
    go_enter Tryz.func141, Tryz.ntmps141
    go_wp2_with fail
    with_reducible refine HN.out.mono ?_
    rintro e w1 ⟨rfl, hb1⟩
    have HB1 := Lib.hid (hb1.alloc hb1.size (.cells #[.int .i64 t.k, .string (strB t.b), .int .i64 t.at_] 76))
    clear hb1
    obtain ⟨a, c, h1⟩ := H.out.keep HB1.out
    obtain ⟨a', hsl, h2⟩ := h1.tail HL.out
    have H2 := Lib.hid h2
    have c0 := h1.c0
    have f0 := h1.f 0
    rw [HL.out, List.length_cons] at c0
    obtain ⟨q, hq⟩ : ∃ q, r.length + 1 = q := ⟨_, rfl⟩
    rw [hq] at c0 hsl
    obtain ⟨m, hm⟩ : ∃ m, r.length = m := ⟨_, rfl⟩
    obtain ⟨c', hc'⟩ : ∃ c', c - 1 = c' := ⟨_, rfl⟩
    rw [hm, hc'] at hsl H2
    have n1 := tnew w1 #[.int .i64 t.k, .string (strB t.b), .int .i64 t.at_] 76 1 rfl
    clear h1 h2 hq hm hc'
    go_wp2
    go_ret
    exact ⟨rfl, ⟨⟨a', _, H2.out⟩, (TFr.of_below HB1.out).trans (TFr.at _ _ _)⟩⟩
  · have hs : ofT E s k = ([], failT E s) := by unfold ofT; rw [if_neg hz]
    rw [hs]
    obtain ⟨x, hx⟩ : ∃ x, nextT E s = x := ⟨_, rfl⟩
    rw [hx] at HN hz
    have ht : ((x.k : Int) != (k : Int)) = true := by rw [bne_iff_ne]; omega
    clear hs hx h
    go_enter Tryz.func141, Tryz.ntmps141
    go_wp2_with fail
    with_reducible refine HN.out.mono ?_
    rintro e w1 ⟨rfl, hb1⟩
    have HB1 := Lib.hid (hb1.alloc hb1.size (.cells #[.int .i64 x.k, .string (strB x.b), .int .i64 x.at_] 76))
    clear hb1
    have HF := Lib.hid (fail_calls (H.out.keep HB1.out))
    go_wp2_with fail
    with_reducible refine HF.out.mono ?_
    rintro e w2 ⟨rfl, hd2⟩
    have HD2 := Lib.hid (RdTo.after HB1.out hd2)
    clear hd2
    go_wp2
    go_ret
    exact ⟨rfl, HD2.out⟩

theorem of1_calls (h : RdR w R T E s) : Calls Tryz.prog 141 #[.pointer (some ⟨R, 0, none⟩), .int .i64 1] w fun e w' => e = .returned (.string (strB (ofT E s 1).1)) ∧ RdTo R T E (ofT E s 1).2 w w' := of_calls' h (k := 1) (by decide)
theorem of2_calls (h : RdR w R T E s) : Calls Tryz.prog 141 #[.pointer (some ⟨R, 0, none⟩), .int .i64 2] w fun e w' => e = .returned (.string (strB (ofT E s 2).1)) ∧ RdTo R T E (ofT E s 2).2 w w' := of_calls' h (k := 2) (by decide)
theorem of3_calls (h : RdR w R T E s) : Calls Tryz.prog 141 #[.pointer (some ⟨R, 0, none⟩), .int .i64 3] w fun e w' => e = .returned (.string (strB (ofT E s 3).1)) ∧ RdTo R T E (ofT E s 3).2 w w' := of_calls' h (k := 3) (by decide)
theorem takeW_calls (h : RdR w R T E s) (b : List UInt8) : Calls Tryz.prog 78 #[.pointer (some ⟨R, 0, none⟩), .agg #[.int .i64 1, .string (strB b)]] w fun e w' => e = .returned (.bool (isT E s 1 b)) ∧ RdTo R T E (takeT E s 1 b).2 w w' := take_calls h (k := 1) (by decide) b
theorem needW_calls (h : RdR w R T E s) (b : List UInt8) : Calls Tryz.prog 74 #[.pointer (some ⟨R, 0, none⟩), .agg #[.int .i64 1, .string (strB b)]] w fun e w' => e = .returned (.tuple #[]) ∧ RdTo R T E (needT E s 1 b) w w' := need_calls h (k := 1) (by decide) b
theorem isW_calls (h : RdR w R T E s) (b : List UInt8) : Calls Tryz.prog 138 #[.pointer (some ⟨R, 0, none⟩), .agg #[.int .i64 1, .string (strB b)]] w fun e w' => e = .returned (.bool (isT E s 1 b)) ∧ Below w.heap.size w w' := is_calls h 1 b
theorem takeS_calls (h : RdR w R T E s) (b : List UInt8) : Calls Tryz.prog 78 #[.pointer (some ⟨R, 0, none⟩), .agg #[.int .i64 4, .string (strB b)]] w fun e w' => e = .returned (.bool (isT E s 4 b)) ∧ RdTo R T E (takeT E s 4 b).2 w w' := take_calls h (k := 4) (by decide) b
theorem needS_calls (h : RdR w R T E s) (b : List UInt8) : Calls Tryz.prog 74 #[.pointer (some ⟨R, 0, none⟩), .agg #[.int .i64 4, .string (strB b)]] w fun e w' => e = .returned (.tuple #[]) ∧ RdTo R T E (needT E s 4 b) w w' := need_calls h (k := 4) (by decide) b
theorem isS_calls (h : RdR w R T E s) (b : List UInt8) : Calls Tryz.prog 138 #[.pointer (some ⟨R, 0, none⟩), .agg #[.int .i64 4, .string (strB b)]] w fun e w' => e = .returned (.bool (isT E s 4 b)) ∧ Below w.heap.size w w' := is_calls h 4 b
end

set_option maxRecDepth 100000 in
theorem word_mark (s : ByteArray) (w : World) : Calls Tryz.prog 75 #[.string s] w fun e w' => e = .returned (.agg #[.int .i64 1, .string s]) ∧ Below w.heap.size w w' := by
  have HB := Lib.hid ((Below.refl w.heap.size w).alloc (Nat.le_refl _) (.cells #[.int .i64 1, .string s] 124))
  go_enter Tryz.func75, Tryz.ntmps75
  go_wp2
  refine bodyPost_ret (v := .agg #[.int .i64 1, .string s]) (by simp [results, Tryz.results75, go_sem]) rfl ⟨rfl, HB.out⟩
set_option maxRecDepth 100000 in
theorem sign_mark (s : ByteArray) (w : World) : Calls Tryz.prog 206 #[.string s] w fun e w' => e = .returned (.agg #[.int .i64 4, .string s]) ∧ Below w.heap.size w w' := by
  have HB := Lib.hid ((Below.refl w.heap.size w).alloc (Nat.le_refl _) (.cells #[.int .i64 4, .string s] 124))
  go_enter Tryz.func206, Tryz.ntmps206
  go_wp2
  refine bodyPost_ret (v := .agg #[.int .i64 4, .string s]) (by simp [results, Tryz.results206, go_sem]) rfl ⟨rfl, HB.out⟩

end Go.Proofs.YtndmbljpfpnehaaGreatDoor
namespace Go.Proofs.YtndmbljpfpnehaaGreatDoor
open Go.RowKit Go.Lib Go.Op

set_option maxRecDepth 100000 in
theorem key_no (s : ByteArray) (w : World) (h : keyB s.toList = false) : Calls Tryz.prog 100 #[.string s] w fun e w' => e = .returned (.bool false) ∧ w = w' := by
  unfold keyB keysL at h
  simp only [List.contains_cons, List.contains_nil, Bool.or_false, Bool.or_eq_false_iff] at h
  obtain ⟨h1, h2, h3, h4, h5, h6, h7, h8, h9, hA, hB, hC, hD, hE, hF, hG, hH, hI⟩ := h
  go_enter Tryz.func100, Tryz.ntmps100
  go_wp2
  go_ret
  exact ⟨rfl, rfl⟩


set_option maxRecDepth 100000 in
theorem key_calls (b : List UInt8) (w : World) : Calls Tryz.prog 100 #[.string (strB b)] w fun e w' => e = .returned (.bool (keyB b)) ∧ w = w' := by
  cases hk : keyB b with
  | false => exact key_no (strB b) w (by rw [tB_list]; exact hk)
  | true =>
    have hm : b ∈ keysL := by unfold keyB at hk; simpa using hk
    simp only [keysL, List.mem_cons, List.not_mem_nil, or_false] at hm
    clear hk
    rcases hm with rfl | rfl | rfl | rfl | rfl | rfl | rfl | rfl | rfl | rfl | rfl | rfl | rfl | rfl | rfl | rfl | rfl | rfl
    all_goals
      simp only [strB]
      go_enter Tryz.func100, Tryz.ntmps100
      go_wp2
      go_ret
      exact ⟨rfl, rfl⟩

section
variable {w : World} {R T E : Nat} {s : RS}

set_option maxRecDepth 100000 in
theorem nameR_calls (h : RdR w R T E s) : Calls Tryz.prog 82 #[.pointer (some ⟨R, 0, none⟩)] w fun e w' => e = .returned (.string (strB (nameT E s).1)) ∧ RdTo R T E (nameT E s).2 w w' := by
  have HN := Lib.hid (next_calls h)
  have H := Lib.hid h
  obtain ⟨x, hx⟩ : ∃ x, nextT E s = x := ⟨_, rfl⟩
  rw [hx] at HN
  have hf := field_text (.int .i64 x.k) (.string (strB x.b)) (.int .i64 x.at_)
  have HK := Lib.hid (fun W => key_calls x.b W)
  cases hz : keyB x.b with
  | false =>
    have hs : nameT E s = ofT E s 1 := by unfold nameT; rw [hx, hz]; rfl
    rw [hs]
    rw [hz] at HK
    clear hs hx hz h
    go_enter Tryz.func82, Tryz.ntmps82
    go_wp2_with fail
    with_reducible refine HN.out.mono ?_
    rintro e w1 ⟨rfl, hb1⟩
    have HB1 := Lib.hid hb1
    clear hb1
    have HO := Lib.hid (of1_calls (H.out.keep HB1.out))
    go_wp2_with fail
    with_reducible refine (HK.out _).mono ?_
    rintro e w2 ⟨rfl, rfl⟩
    go_wp2_with fail
    with_reducible refine HO.out.mono ?_
    rintro e w3 ⟨rfl, hd⟩
    have HD := Lib.hid (RdTo.after HB1.out hd)
    clear hd
    go_wp2
    go_ret
    exact ⟨rfl, HD.out⟩
  | true =>
    have hs : nameT E s = ofT E (failT E s) 1 := by unfold nameT; rw [hx, hz]; rfl
    rw [hs]
    rw [hz] at HK
    clear hs hx hz h
    go_enter Tryz.func82, Tryz.ntmps82
    go_wp2_with fail
    with_reducible refine HN.out.mono ?_
    rintro e w1 ⟨rfl, hb1⟩
    have HB1 := Lib.hid hb1
    clear hb1
    have HF := Lib.hid (fail_calls (H.out.keep HB1.out))
    go_wp2_with fail
    with_reducible refine (HK.out _).mono ?_
    rintro e w2 ⟨rfl, rfl⟩
    go_wp2_with fail
    with_reducible refine HF.out.mono ?_
    rintro e w3 ⟨rfl, hd⟩
    have HD := Lib.hid (RdTo.after HB1.out hd)
    have HO := Lib.hid (of1_calls hd.rd)
    clear hd
    go_wp2_with fail
    with_reducible refine HO.out.mono ?_
    rintro e w4 ⟨rfl, hd⟩
    have HD4 := Lib.hid (HD.out.trans hd)
    clear hd
    go_wp2
    go_ret
    exact ⟨rfl, HD4.out⟩
end

end Go.Proofs.YtndmbljpfpnehaaGreatDoor

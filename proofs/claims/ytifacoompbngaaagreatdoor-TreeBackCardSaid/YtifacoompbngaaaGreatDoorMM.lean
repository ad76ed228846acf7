/- TreeBack holds: a right query's text is parsed to it, if it is not too long; so is what is parsed of any text. No condition. -/
import Derived.Test.YtifacoompbngaaaGreatDoorML
import Derived.ProofKit
import Derived.OpenShut
import Derived.ShutString
import Derived.SizedLaws
import Derived.Test.YtifacoompbngaaaGreatDoorTie
import Derived.Test.YtifacoompbngaaaGreatDoorCards
import Derived.LaidMore
import Derived.LaidLaws
import Derived.ChangeOld
import Derived.Stop.Joined
import Derived.Lib.SmallJoins
import Derived.Lib.LaidTab
import Derived.SevenTiedAt
namespace Go.Proofs.YtifacoompbngaaaGreatDoor
open Go.RowKit Go.Lib Go.Op

theorem noQ_ls : QLs noQ := by
  simp [QLs, noQ]

set_option maxHeartbeats 8000000 in
set_option maxRecDepth 100000 in
theorem tback_walk (w : World) (hv : TVars w) (hp : PVars w) {a b : Option Addr} {q c r e : Nat} {p : PQu} (h : QuAt (fun _ => False) w a q c b r e p) (hl : QLn p) (t : ByteArray) (ht : t.size ≤ maxLen) :
    Calls Tryz.prog 5 #[.agg #[.slice a q c, .slice b r e, .int .i64 p.within, .string (strB p.by_), .int .i64 p.pick], .string t] w fun e w' => e = .returned (.bool true) ∧ Below w.heap.size w w' := by
  have hb0 := (Below.refl w.heap.size w).alloc (Nat.le_refl _) (.cells #[.slice a q c, .slice b r e, .int .i64 p.within, .string (strB p.by_), .int .i64 p.pick] 26)
  have HX := Lib.hid (Blk.new w #[.slice a q c, .slice b r e, .int .i64 p.within, .string (strB p.by_), .int .i64 p.pick] 26)
  have HH := Lib.hid (thead_calls (hv.below hb0) (hp.below hb0))
  have HB0 := Lib.hid hb0
  have HQ := Lib.hid h
  have HL := Lib.hid hl
  have HV := Lib.hid hv
  have HPV := Lib.hid hp
  unfold maxLen at ht
  have HT1 : Hid (t.data.toList.length = t.size) := by show _ = _; simp
  clear hv hp h hl hb0
  go_enter Tryz.func5, Tryz.ntmps5
  go_wp2_with fail
  with_reducible refine HH.out.mono ?_
  rintro e1 w1 ⟨rfl, hb1⟩
  have HB1 := Lib.hid (HB0.out.trans (hb1.mono HB0.out.size))
  have X1 := Lib.hid (HX.out.low hb1)
  have x0 := tcell_of_blk X1.out (k := 0) rfl
  have x1 := tcell_of_blk X1.out (k := 1) rfl
  have x2 := tcell_of_blk X1.out (k := 2) rfl
  have x3 := tcell_of_blk X1.out (k := 3) rfl
  have x4 := tcell_of_blk X1.out (k := 4) rfl
  have HG := Lib.hid (great_calls (w := w1) ⟨HQ.out.1.low HB1.out, HQ.out.2.low HB1.out⟩ HL.out)
  clear hb1 HH HX HB0
  go_wp2_with fail
  with_reducible refine HG.out.mono ?_
  rintro e2 w2 ⟨g, rfl, hsm, hb2⟩
  have HB2 := Lib.hid (HB1.out.trans (hb2.mono HB1.out.size))
  have X2 := Lib.hid (X1.out.low hb2)
  clear hb2 HG X1 x0 x1 x2 x3 x4
  cases g with
  | true =>
    clear hsm
    go_wp2
    go_ret
    exact ⟨rfl, HB2.out⟩
  | false =>
    have HS := Lib.hid (hsm rfl)
    clear hsm
    by_cases h3 : 3000 < t.size
    · go_wp2
      go_ret
      exact ⟨rfl, HB2.out⟩
    have x0 := tcell_of_blk X2.out (k := 0) rfl
    have x1 := tcell_of_blk X2.out (k := 1) rfl
    have x2 := tcell_of_blk X2.out (k := 2) rfl
    have x3 := tcell_of_blk X2.out (k := 3) rfl
    have x4 := tcell_of_blk X2.out (k := 4) rfl
    have hr := right_calls (w := w2) (p := p) (K := fun _ => False) ⟨HQ.out.1.low HB2.out, HQ.out.2.low HB2.out⟩ HS.out.bd
    obtain ⟨z, hz⟩ : ∃ z, rightQ p = z := ⟨_, rfl⟩
    rw [hz] at hr
    have HR := Lib.hid hr
    have HZ := Lib.hid hz
    clear hr hz
    go_wp2_with fail
    with_reducible refine HR.out.mono ?_
    rintro e3 w3 ⟨rfl, hb3⟩
    have HB3 := Lib.hid (HB2.out.trans (hb3.mono HB2.out.size))
    have X3 := Lib.hid (X2.out.low hb3)
    clear hb3 HR X2 x0 x1 x2 x3 x4
    cases z with
    | false =>
      have hpa := parse_calls (HV.out.below HB3.out) t.data.toList (by rw [HT1.out]; omega)
      rw [strB_eq'] at hpa
      have hbd := parse_bd t.data.toList (by rw [HT1.out]; omega)
      have hrt := parse_right (l := t.data.toList)
      have hno := parse_none (l := t.data.toList)
      obtain ⟨⟨u, er, at_⟩, hr⟩ : ∃ z, parseI t.data.toList = z := ⟨_, rfl⟩
      rw [hr] at hpa hbd hrt hno
      dsimp only at hbd hrt hno
      have HP := Lib.hid hpa
      have HBD := Lib.hid hbd
      have HRT := Lib.hid hrt
      have HNO := Lib.hid hno
      clear hpa hr hbd hrt hno
      go_wp2_with fail
      with_reducible refine HP.out.mono ?_
      rintro e5 w5 ⟨a5, m5, c5, b5, r5, d5, rfl, hQ5, hb5⟩
      dsimp only at hQ5
      have HB5 := Lib.hid (HB3.out.trans (hb5.mono HB3.out.size))
      have hba := (Below.refl w5.heap.size w5).alloc (Nat.le_refl _) (.cells #[.slice a5 m5 c5, .slice b5 r5 d5, .int .i64 u.within, .string (strB u.by_), .int .i64 u.pick] 26)
      have HB5a := Lib.hid (HB5.out.trans (hba.mono HB5.out.size))
      have Y5 := Lib.hid (Blk.new w5 #[.slice a5 m5 c5, .slice b5 r5 d5, .int .i64 u.within, .string (strB u.by_), .int .i64 u.pick] 26)
      have Q5 := Lib.hid (And.intro (hQ5.1.low hba) (hQ5.2.low hba))
      clear HP hb5 hba hQ5 
      by_cases he : er = 0
      · subst he
        have hrr := HRT.out rfl
        have hpr := print_calls (w := w5.alloc (.cells #[.slice a5 m5 c5, .slice b5 r5 d5, .int .i64 u.within, .string (strB u.by_), .int .i64 u.pick] 26)) (p := u) Q5.out HBD.out (HPV.out.below HB5a.out)
        have HPR := Lib.hid hpr
        have hsh := print_short hrr
        have hbk := back_print hrr
        have hne := print_ne hrr
        obtain ⟨l1, l2, l3⟩ := ln_query hrr HBD.out
        obtain ⟨sl, hsl⟩ : ∃ sl, printQ u = sl := ⟨_, rfl⟩
        rw [hsl] at HPR hsh hbk hne
        have HSH := Lib.hid hsh
        have HBK := Lib.hid hbk
        have HNE := Lib.hid hne
        have HRR := Lib.hid hrr
        have HLN := Lib.hid (And.intro l1 (And.intro l2 l3))
        clear hpr hsh hbk hne hrr l1 l2 l3 hsl HRT HNO
        have xy0 := tcell_of_blk Y5.out (k := 0) rfl
        have xy1 := tcell_of_blk Y5.out (k := 1) rfl
        have xy2 := tcell_of_blk Y5.out (k := 2) rfl
        have xy3 := tcell_of_blk Y5.out (k := 3) rfl
        have xy4 := tcell_of_blk Y5.out (k := 4) rfl
        go_wp2_with fail
        with_reducible refine HPR.out.mono ?_
        rintro e6 w6 ⟨rfl, hb6⟩
        have HB6 := Lib.hid (HB5a.out.trans (hb6.mono HB5a.out.size))
        have Y6 := Lib.hid (Y5.out.low hb6)
        have Q6 := Lib.hid (And.intro (Q5.out.1.low hb6) (Q5.out.2.low hb6))
        clear hb6 HPR Y5 Q5 xy0 xy1 xy2 xy3 xy4
        have HP7 := Lib.hid (parse_calls (HV.out.below HB6.out) sl HSH.out)
        have HX8 := Lib.hid (fun W => xread_calls W (strB sl) sl (strB_list sl) (by rw [strB_size]; exact HSH.out))
        have hse : ((strB sl).toList == []) = false := by rw [tB_list, beq_eq_false_iff_ne]; exact HNE.out
        have hse2 : (!(strB sl).toList.isEmpty) = true := by rw [tB_list]; simpa using HNE.out
        have hse3 : (strB sl).toList.isEmpty = false := by rw [tB_list]; simpa using HNE.out
        obtain ⟨sv, hsv⟩ : ∃ sv, strB sl = sv := ⟨_, rfl⟩
        rw [hsv] at HP7 HX8 hse hse2 hse3 ⊢
        clear hsv
        rcases HBK.out with ⟨hp7, hx8⟩ | ⟨⟨px, hp7⟩, hx8, _⟩
        · rw [hp7] at HP7
          obtain ⟨⟨ts, ex, px⟩, hts⟩ : ∃ z, readX sl = z := ⟨_, rfl⟩
          rw [hts] at HX8 hx8
          dsimp only at hx8
          subst hx8
          clear hp7 hts HBK
          go_wp2_with fail
          with_reducible refine HP7.out.mono ?_
          rintro e7 w7 ⟨a7, m7, c7, b7, r7, d7, rfl, hQ7, hb7⟩
          dsimp only at hQ7
          have HB7 := Lib.hid (HB6.out.trans (hb7.mono HB6.out.size))
          have hba := (Below.refl w7.heap.size w7).alloc (Nat.le_refl _) (.cells #[.slice a7 m7 c7, .slice b7 r7 d7, .int .i64 u.within, .string (strB u.by_), .int .i64 u.pick] 26)
          have HB7a := Lib.hid (HB7.out.trans (hba.mono HB7.out.size))
          have Y7 := Lib.hid (Blk.new w7 #[.slice a7 m7 c7, .slice b7 r7 d7, .int .i64 u.within, .string (strB u.by_), .int .i64 u.pick] 26)
          have Q7 := Lib.hid (And.intro (hQ7.1.low hba) (hQ7.2.low hba))
          have Y6 := Lib.hid ((Y6.out.low hb7).low hba)
          have Q6 := Lib.hid (And.intro ((Q6.out.1.low hb7).low hba) ((Q6.out.2.low hb7).low hba))
          clear hb7 hba hQ7 HP7
          go_wp2_with fail
          with_reducible refine (HX8.out _).mono ?_
          rintro e8 w8 ⟨v8, rfl, _, hb8⟩
          have HB8 := Lib.hid (HB7a.out.trans (hb8.mono HB7a.out.size))
          have Y8 := Lib.hid (Y7.out.low hb8)
          have Q8 := Lib.hid (And.intro (Q7.out.1.low hb8) (Q7.out.2.low hb8))
          have Y9 := Lib.hid (Y6.out.low hb8)
          have Q9 := Lib.hid (And.intro (Q6.out.1.low hb8) (Q6.out.2.low hb8))
          clear hb8 HX8 Y6 Y7 Q6 Q7
          have hrc := right_calls (w := w8) Q9.out HBD.out
          rw [HRR.out] at hrc
          have HRC := Lib.hid hrc
          have HSC : Hid (∀ W, Below w8.heap.size w8 W → Calls Tryz.prog 18 #[.agg #[.slice a5 m5 c5, .slice b5 r5 d5, .int .i64 u.within, .string (strB u.by_), .int .i64 u.pick], .agg #[.slice a7 m7 c7, .slice b7 r7 d7, .int .i64 u.within, .string (strB u.by_), .int .i64 u.pick]] W fun e w' => e = .returned (.bool true) ∧ Below W.heap.size W w') := fun W hW => by
            rw [← sameB_yes (rfl : u = u)]
            exact same_calls u u ⟨Q9.out.1.low hW, Q9.out.2.low hW⟩ ⟨Q8.out.1.low hW, Q8.out.2.low hW⟩ HLN.out.1 HLN.out.2.1 HLN.out.2.2
          clear hrc
          have xy0 := tcell_of_blk Y9.out (k := 0) rfl
          have xy1 := tcell_of_blk Y9.out (k := 1) rfl
          have xy2 := tcell_of_blk Y9.out (k := 2) rfl
          have xy3 := tcell_of_blk Y9.out (k := 3) rfl
          have xy4 := tcell_of_blk Y9.out (k := 4) rfl
          have xz0 := tcell_of_blk Y8.out (k := 0) rfl
          have xz1 := tcell_of_blk Y8.out (k := 1) rfl
          have xz2 := tcell_of_blk Y8.out (k := 2) rfl
          have xz3 := tcell_of_blk Y8.out (k := 3) rfl
          have xz4 := tcell_of_blk Y8.out (k := 4) rfl
          go_wp2_with fail
          with_reducible refine HRC.out.mono ?_
          rintro e9 w9 ⟨rfl, hb9⟩
          have HB9 := Lib.hid (HB8.out.trans (hb9.mono HB8.out.size))
          have HS9 := Lib.hid (HSC.out w9 hb9)
          have Y9 := Lib.hid (Y9.out.low hb9)
          have Y8 := Lib.hid (Y8.out.low hb9)
          clear hb9 HRC HSC xy0 xy1 xy2 xy3 xy4 xz0 xz1 xz2 xz3 xz4
          have xy0 := tcell_of_blk Y9.out (k := 0) rfl
          have xy1 := tcell_of_blk Y9.out (k := 1) rfl
          have xy2 := tcell_of_blk Y9.out (k := 2) rfl
          have xy3 := tcell_of_blk Y9.out (k := 3) rfl
          have xy4 := tcell_of_blk Y9.out (k := 4) rfl
          have xz0 := tcell_of_blk Y8.out (k := 0) rfl
          have xz1 := tcell_of_blk Y8.out (k := 1) rfl
          have xz2 := tcell_of_blk Y8.out (k := 2) rfl
          have xz3 := tcell_of_blk Y8.out (k := 3) rfl
          have xz4 := tcell_of_blk Y8.out (k := 4) rfl
          go_wp2_with fail
          with_reducible refine HS9.out.mono ?_
          rintro e10 w10 ⟨rfl, hb10⟩
          have HB10 := Lib.hid (HB9.out.trans (hb10.mono HB9.out.size))
          clear hb10 HS9 Y8 Y9 Q8 Q9 xy0 xy1 xy2 xy3 xy4 xz0 xz1 xz2 xz3 xz4
          go_wp2
          go_ret
          exact ⟨rfl, HB10.out⟩
        · rw [hp7] at HP7
          obtain ⟨⟨ts, ex, qx⟩, hts⟩ : ∃ z, readX sl = z := ⟨_, rfl⟩
          rw [hts] at HX8 hx8
          dsimp only at hx8
          subst hx8
          clear hp7 hts HBK
          go_wp2_with fail
          with_reducible refine HP7.out.mono ?_
          rintro e7 w7 ⟨a7, m7, c7, b7, r7, d7, rfl, _, hb7⟩
          have HB7 := Lib.hid (HB6.out.trans (hb7.mono HB6.out.size))
          dsimp only
          have hba := (Below.refl w7.heap.size w7).alloc (Nat.le_refl _) (.cells #[.slice a7 m7 c7, .slice b7 r7 d7, .int .i64 noQ.within, .string (strB noQ.by_), .int .i64 noQ.pick] 26)
          have HB7a := Lib.hid (HB7.out.trans (hba.mono HB7.out.size))
          have Y6 := Lib.hid ((Y6.out.low hb7).low hba)
          have Q6 := Lib.hid (And.intro ((Q6.out.1.low hb7).low hba) ((Q6.out.2.low hb7).low hba))
          clear hb7 hba HP7
          go_wp2_with fail
          with_reducible refine (HX8.out _).mono ?_
          rintro e8 w8 ⟨v8, rfl, _, hb8⟩
          have HB8 := Lib.hid (HB7a.out.trans (hb8.mono HB7a.out.size))
          have Y9 := Lib.hid (Y6.out.low hb8)
          have Q9 := Lib.hid (And.intro (Q6.out.1.low hb8) (Q6.out.2.low hb8))
          clear hb8 HX8 Y6 Q6
          have hrc := right_calls (w := w8) Q9.out HBD.out
          rw [HRR.out] at hrc
          have HRC := Lib.hid hrc
          clear hrc
          have xy0 := tcell_of_blk Y9.out (k := 0) rfl
          have xy1 := tcell_of_blk Y9.out (k := 1) rfl
          have xy2 := tcell_of_blk Y9.out (k := 2) rfl
          have xy3 := tcell_of_blk Y9.out (k := 3) rfl
          have xy4 := tcell_of_blk Y9.out (k := 4) rfl
          go_wp2_with fail
          with_reducible refine HRC.out.mono ?_
          rintro e9 w9 ⟨rfl, hb9⟩
          have HB9 := Lib.hid (HB8.out.trans (hb9.mono HB8.out.size))
          clear hb9 HRC Y9 Q9 xy0 xy1 xy2 xy3 xy4
          go_wp2
          go_ret
          exact ⟨rfl, HB9.out⟩
      · obtain rfl := HNO.out he
        have t2 : (er != 0) = true := by rw [bne_iff_ne]; exact he
        have HSN : Hid (∀ W, Below (w5.alloc (.cells #[.slice a5 m5 c5, .slice b5 r5 d5, .int .i64 0, .string ⟨#[]⟩, .int .i64 0] 26)).heap.size (w5.alloc (.cells #[.slice a5 m5 c5, .slice b5 r5 d5, .int .i64 0, .string ⟨#[]⟩, .int .i64 0] 26)) W → Calls Tryz.prog 18 #[.agg #[.slice a5 m5 c5, .slice b5 r5 d5, .int .i64 0, .string ⟨#[]⟩, .int .i64 0], .agg #[.slice none 0 0, .slice none 0 0, .int .i64 0, .string ⟨#[]⟩, .int .i64 0]] W fun e w' => e = .returned (.bool true) ∧ Below W.heap.size W w') := fun W hW => by
          have h := same_calls (K' := fun _ => False) (w := W) (a' := none) (q' := 0) (c' := 0) (b' := none) (r' := 0) (d' := 0) noQ noQ ⟨Q5.out.1.low hW, Q5.out.2.low hW⟩ ⟨RowK.nil _ _ _, RowK.nil _ _ _⟩ (Nat.zero_le _) (Nat.zero_le _) noQ_ls
          rw [sameB_yes rfl] at h
          exact h
        rw [show noQ.within = 0 from rfl, show strB noQ.by_ = ⟨#[]⟩ from rfl, show noQ.pick = 0 from rfl]
        have Y5' : Hid (Blk (w5.alloc (.cells #[.slice a5 m5 c5, .slice b5 r5 d5, .int .i64 0, .string ⟨#[]⟩, .int .i64 0] 26)) w5.heap.size #[.slice a5 m5 c5, .slice b5 r5 d5, .int .i64 0, .string ⟨#[]⟩, .int .i64 0] 26) := Y5.out
        have HB5b : Hid (Below w.heap.size w (w5.alloc (.cells #[.slice a5 m5 c5, .slice b5 r5 d5, .int .i64 0, .string ⟨#[]⟩, .int .i64 0] 26))) := HB5a.out
        clear HRT HNO he Y5 Q5 HB5a HBD
        have xy0 := tcell_of_blk Y5'.out (k := 0) rfl
        have xy1 := tcell_of_blk Y5'.out (k := 1) rfl
        have xy2 := tcell_of_blk Y5'.out (k := 2) rfl
        have xy3 := tcell_of_blk Y5'.out (k := 3) rfl
        have xy4 := tcell_of_blk Y5'.out (k := 4) rfl
        go_wp2_with (go_at_call 18; (with_reducible refine (HSN.out _ (Below.refl _ _)).mono ?_); rintro e10 w10 ⟨rfl, hb10⟩; have HB10 := Lib.hid (HB5b.out.trans (hb10.mono HB5b.out.size)); clear hb10)
        go_ret
        exact ⟨rfl, HB10.out⟩
    | true =>
      have x0 := tcell_of_blk X3.out (k := 0) rfl
      have x1 := tcell_of_blk X3.out (k := 1) rfl
      have x2 := tcell_of_blk X3.out (k := 2) rfl
      have x3 := tcell_of_blk X3.out (k := 3) rfl
      have x4 := tcell_of_blk X3.out (k := 4) rfl
      have hpr := print_calls (w := w3) (p := p) (K := fun _ => False) ⟨HQ.out.1.low HB3.out, HQ.out.2.low HB3.out⟩ HS.out.bd (HPV.out.below HB3.out)
      have HPR := Lib.hid hpr
      clear hpr
      go_wp2_with fail
      with_reducible refine HPR.out.mono ?_
      rintro e4 w4 ⟨rfl, hb4⟩
      have HB4 := Lib.hid (HB3.out.trans (hb4.mono HB3.out.size))
      have X4 := Lib.hid (X3.out.low hb4)
      clear hb4 HPR x0 x1 x2 x3 x4
      obtain ⟨l1, l2, l3⟩ := ln_query HZ.out HS.out.bd
      have HSH := Lib.hid (print_short HZ.out)
      have HP5 := Lib.hid (parse_calls (HV.out.below HB4.out) (printQ p) HSH.out)
      have HLN := Lib.hid (And.intro l1 (And.intro l2 l3))
      have hbk := back_print HZ.out
      clear l1 l2 l3
      rcases hbk with ⟨hp7, _⟩ | ⟨⟨px, hp7⟩, _, h128⟩
      · rw [hp7] at HP5
        clear hp7
        go_wp2_with fail
        with_reducible refine HP5.out.mono ?_
        rintro e5 w5 ⟨a7, m7, c7, b7, r7, d7, rfl, hQ7, hb7⟩
        dsimp only at hQ7
        have HB7 := Lib.hid (HB4.out.trans (hb7.mono HB4.out.size))
        have hba := (Below.refl w5.heap.size w5).alloc (Nat.le_refl _) (.cells #[.slice a7 m7 c7, .slice b7 r7 d7, .int .i64 p.within, .string (strB p.by_), .int .i64 p.pick] 26)
        have HB7a := Lib.hid (HB7.out.trans (hba.mono HB7.out.size))
        have Y7 := Lib.hid (Blk.new w5 #[.slice a7 m7 c7, .slice b7 r7 d7, .int .i64 p.within, .string (strB p.by_), .int .i64 p.pick] 26)
        have Y6 := Lib.hid ((X4.out.low hb7).low hba)
        have HSC := Lib.hid (same_calls p p ⟨hQ7.1.low hba, hQ7.2.low hba⟩ ⟨HQ.out.1.low HB7a.out, HQ.out.2.low HB7a.out⟩ HLN.out.1 HLN.out.2.1 HLN.out.2.2)
        rw [sameB_yes rfl] at HSC
        clear hb7 hba hQ7 HP5 X4
        have xy0 := tcell_of_blk Y6.out (k := 0) rfl
        have xy1 := tcell_of_blk Y6.out (k := 1) rfl
        have xy2 := tcell_of_blk Y6.out (k := 2) rfl
        have xy3 := tcell_of_blk Y6.out (k := 3) rfl
        have xy4 := tcell_of_blk Y6.out (k := 4) rfl
        have xz0 := tcell_of_blk Y7.out (k := 0) rfl
        have xz1 := tcell_of_blk Y7.out (k := 1) rfl
        have xz2 := tcell_of_blk Y7.out (k := 2) rfl
        have xz3 := tcell_of_blk Y7.out (k := 3) rfl
        have xz4 := tcell_of_blk Y7.out (k := 4) rfl
        go_wp2_with fail
        with_reducible refine HSC.out.mono ?_
        rintro e6 w6 ⟨rfl, hb6⟩
        have HB6 := Lib.hid (HB7a.out.trans (hb6.mono HB7a.out.size))
        clear hb6 HSC Y6 Y7 xy0 xy1 xy2 xy3 xy4 xz0 xz1 xz2 xz3 xz4
        have hpa := parse_calls (HV.out.below HB6.out) t.data.toList (by rw [HT1.out]; omega)
        rw [strB_eq'] at hpa
        have hbd := parse_bd t.data.toList (by rw [HT1.out]; omega)
        have hrt := parse_right (l := t.data.toList)
        have hno := parse_none (l := t.data.toList)
        obtain ⟨⟨u, er, at_⟩, hr⟩ : ∃ z, parseI t.data.toList = z := ⟨_, rfl⟩
        rw [hr] at hpa hbd hrt hno
        dsimp only at hbd hrt hno
        have HP := Lib.hid hpa
        have HBD := Lib.hid hbd
        have HRT := Lib.hid hrt
        have HNO := Lib.hid hno
        clear hpa hr hbd hrt hno
        go_wp2_with fail
        with_reducible refine HP.out.mono ?_
        rintro e5 w5 ⟨a5, m5, c5, b5, r5, d5, rfl, hQ5, hb5⟩
        dsimp only at hQ5
        have HB5 := Lib.hid (HB6.out.trans (hb5.mono HB6.out.size))
        have hba := (Below.refl w5.heap.size w5).alloc (Nat.le_refl _) (.cells #[.slice a5 m5 c5, .slice b5 r5 d5, .int .i64 u.within, .string (strB u.by_), .int .i64 u.pick] 26)
        have HB5a := Lib.hid (HB5.out.trans (hba.mono HB5.out.size))
        have Y5 := Lib.hid (Blk.new w5 #[.slice a5 m5 c5, .slice b5 r5 d5, .int .i64 u.within, .string (strB u.by_), .int .i64 u.pick] 26)
        have Q5 := Lib.hid (And.intro (hQ5.1.low hba) (hQ5.2.low hba))
        clear HP hb5 hba hQ5 
        by_cases he : er = 0
        · subst he
          have hrr := HRT.out rfl
          have hpr := print_calls (w := w5.alloc (.cells #[.slice a5 m5 c5, .slice b5 r5 d5, .int .i64 u.within, .string (strB u.by_), .int .i64 u.pick] 26)) (p := u) Q5.out HBD.out (HPV.out.below HB5a.out)
          have HPR := Lib.hid hpr
          have hsh := print_short hrr
          have hbk := back_print hrr
          have hne := print_ne hrr
          obtain ⟨l1, l2, l3⟩ := ln_query hrr HBD.out
          obtain ⟨sl, hsl⟩ : ∃ sl, printQ u = sl := ⟨_, rfl⟩
          rw [hsl] at HPR hsh hbk hne
          have HSH := Lib.hid hsh
          have HBK := Lib.hid hbk
          have HNE := Lib.hid hne
          have HRR := Lib.hid hrr
          have HLN := Lib.hid (And.intro l1 (And.intro l2 l3))
          clear hpr hsh hbk hne hrr l1 l2 l3 hsl HRT HNO
          have xy0 := tcell_of_blk Y5.out (k := 0) rfl
          have xy1 := tcell_of_blk Y5.out (k := 1) rfl
          have xy2 := tcell_of_blk Y5.out (k := 2) rfl
          have xy3 := tcell_of_blk Y5.out (k := 3) rfl
          have xy4 := tcell_of_blk Y5.out (k := 4) rfl
          go_wp2_with fail
          with_reducible refine HPR.out.mono ?_
          rintro e6 w6 ⟨rfl, hb6⟩
          have HB6 := Lib.hid (HB5a.out.trans (hb6.mono HB5a.out.size))
          have Y6 := Lib.hid (Y5.out.low hb6)
          have Q6 := Lib.hid (And.intro (Q5.out.1.low hb6) (Q5.out.2.low hb6))
          clear hb6 HPR Y5 Q5 xy0 xy1 xy2 xy3 xy4
          have HP7 := Lib.hid (parse_calls (HV.out.below HB6.out) sl HSH.out)
          have HX8 := Lib.hid (fun W => xread_calls W (strB sl) sl (strB_list sl) (by rw [strB_size]; exact HSH.out))
          have hse : ((strB sl).toList == []) = false := by rw [tB_list, beq_eq_false_iff_ne]; exact HNE.out
          have hse2 : (!(strB sl).toList.isEmpty) = true := by rw [tB_list]; simpa using HNE.out
          have hse3 : (strB sl).toList.isEmpty = false := by rw [tB_list]; simpa using HNE.out
          obtain ⟨sv, hsv⟩ : ∃ sv, strB sl = sv := ⟨_, rfl⟩
          rw [hsv] at HP7 HX8 hse hse2 hse3 ⊢
          clear hsv
          rcases HBK.out with ⟨hp7, hx8⟩ | ⟨⟨px, hp7⟩, hx8, _⟩
          · rw [hp7] at HP7
            obtain ⟨⟨ts, ex, px⟩, hts⟩ : ∃ z, readX sl = z := ⟨_, rfl⟩
            rw [hts] at HX8 hx8
            dsimp only at hx8
            subst hx8
            clear hp7 hts HBK
            go_wp2_with fail
            with_reducible refine HP7.out.mono ?_
            rintro e7 w7 ⟨a7, m7, c7, b7, r7, d7, rfl, hQ7, hb7⟩
            dsimp only at hQ7
            have HB7 := Lib.hid (HB6.out.trans (hb7.mono HB6.out.size))
            have hba := (Below.refl w7.heap.size w7).alloc (Nat.le_refl _) (.cells #[.slice a7 m7 c7, .slice b7 r7 d7, .int .i64 u.within, .string (strB u.by_), .int .i64 u.pick] 26)
            have HB7a := Lib.hid (HB7.out.trans (hba.mono HB7.out.size))
            have Y7 := Lib.hid (Blk.new w7 #[.slice a7 m7 c7, .slice b7 r7 d7, .int .i64 u.within, .string (strB u.by_), .int .i64 u.pick] 26)
            have Q7 := Lib.hid (And.intro (hQ7.1.low hba) (hQ7.2.low hba))
            have Y6 := Lib.hid ((Y6.out.low hb7).low hba)
            have Q6 := Lib.hid (And.intro ((Q6.out.1.low hb7).low hba) ((Q6.out.2.low hb7).low hba))
            clear hb7 hba hQ7 HP7
            go_wp2_with fail
            with_reducible refine (HX8.out _).mono ?_
            rintro e8 w8 ⟨v8, rfl, _, hb8⟩
            have HB8 := Lib.hid (HB7a.out.trans (hb8.mono HB7a.out.size))
            have Y8 := Lib.hid (Y7.out.low hb8)
            have Q8 := Lib.hid (And.intro (Q7.out.1.low hb8) (Q7.out.2.low hb8))
            have Y9 := Lib.hid (Y6.out.low hb8)
            have Q9 := Lib.hid (And.intro (Q6.out.1.low hb8) (Q6.out.2.low hb8))
            clear hb8 HX8 Y6 Y7 Q6 Q7
            have hrc := right_calls (w := w8) Q9.out HBD.out
            rw [HRR.out] at hrc
            have HRC := Lib.hid hrc
            have HSC : Hid (∀ W, Below w8.heap.size w8 W → Calls Tryz.prog 18 #[.agg #[.slice a5 m5 c5, .slice b5 r5 d5, .int .i64 u.within, .string (strB u.by_), .int .i64 u.pick], .agg #[.slice a7 m7 c7, .slice b7 r7 d7, .int .i64 u.within, .string (strB u.by_), .int .i64 u.pick]] W fun e w' => e = .returned (.bool true) ∧ Below W.heap.size W w') := fun W hW => by
              rw [← sameB_yes (rfl : u = u)]
              exact same_calls u u ⟨Q9.out.1.low hW, Q9.out.2.low hW⟩ ⟨Q8.out.1.low hW, Q8.out.2.low hW⟩ HLN.out.1 HLN.out.2.1 HLN.out.2.2
            clear hrc
            have xy0 := tcell_of_blk Y9.out (k := 0) rfl
            have xy1 := tcell_of_blk Y9.out (k := 1) rfl
            have xy2 := tcell_of_blk Y9.out (k := 2) rfl
            have xy3 := tcell_of_blk Y9.out (k := 3) rfl
            have xy4 := tcell_of_blk Y9.out (k := 4) rfl
            have xz0 := tcell_of_blk Y8.out (k := 0) rfl
            have xz1 := tcell_of_blk Y8.out (k := 1) rfl
            have xz2 := tcell_of_blk Y8.out (k := 2) rfl
            have xz3 := tcell_of_blk Y8.out (k := 3) rfl
            have xz4 := tcell_of_blk Y8.out (k := 4) rfl
            go_wp2_with fail
            with_reducible refine HRC.out.mono ?_
            rintro e9 w9 ⟨rfl, hb9⟩
            have HB9 := Lib.hid (HB8.out.trans (hb9.mono HB8.out.size))
            have HS9 := Lib.hid (HSC.out w9 hb9)
            have Y9 := Lib.hid (Y9.out.low hb9)
            have Y8 := Lib.hid (Y8.out.low hb9)
            clear hb9 HRC HSC xy0 xy1 xy2 xy3 xy4 xz0 xz1 xz2 xz3 xz4
            have xy0 := tcell_of_blk Y9.out (k := 0) rfl
            have xy1 := tcell_of_blk Y9.out (k := 1) rfl
            have xy2 := tcell_of_blk Y9.out (k := 2) rfl
            have xy3 := tcell_of_blk Y9.out (k := 3) rfl
            have xy4 := tcell_of_blk Y9.out (k := 4) rfl
            have xz0 := tcell_of_blk Y8.out (k := 0) rfl
            have xz1 := tcell_of_blk Y8.out (k := 1) rfl
            have xz2 := tcell_of_blk Y8.out (k := 2) rfl
            have xz3 := tcell_of_blk Y8.out (k := 3) rfl
            have xz4 := tcell_of_blk Y8.out (k := 4) rfl
            go_wp2_with fail
            with_reducible refine HS9.out.mono ?_
            rintro e10 w10 ⟨rfl, hb10⟩
            have HB10 := Lib.hid (HB9.out.trans (hb10.mono HB9.out.size))
            clear hb10 HS9 Y8 Y9 Q8 Q9 xy0 xy1 xy2 xy3 xy4 xz0 xz1 xz2 xz3 xz4
            go_wp2
            go_ret
            exact ⟨rfl, HB10.out⟩
          · rw [hp7] at HP7
            obtain ⟨⟨ts, ex, qx⟩, hts⟩ : ∃ z, readX sl = z := ⟨_, rfl⟩
            rw [hts] at HX8 hx8
            dsimp only at hx8
            subst hx8
            clear hp7 hts HBK
            go_wp2_with fail
            with_reducible refine HP7.out.mono ?_
            rintro e7 w7 ⟨a7, m7, c7, b7, r7, d7, rfl, _, hb7⟩
            have HB7 := Lib.hid (HB6.out.trans (hb7.mono HB6.out.size))
            dsimp only
            have hba := (Below.refl w7.heap.size w7).alloc (Nat.le_refl _) (.cells #[.slice a7 m7 c7, .slice b7 r7 d7, .int .i64 noQ.within, .string (strB noQ.by_), .int .i64 noQ.pick] 26)
            have HB7a := Lib.hid (HB7.out.trans (hba.mono HB7.out.size))
            have Y6 := Lib.hid ((Y6.out.low hb7).low hba)
            have Q6 := Lib.hid (And.intro ((Q6.out.1.low hb7).low hba) ((Q6.out.2.low hb7).low hba))
            clear hb7 hba HP7
            go_wp2_with fail
            with_reducible refine (HX8.out _).mono ?_
            rintro e8 w8 ⟨v8, rfl, _, hb8⟩
            have HB8 := Lib.hid (HB7a.out.trans (hb8.mono HB7a.out.size))
            have Y9 := Lib.hid (Y6.out.low hb8)
            have Q9 := Lib.hid (And.intro (Q6.out.1.low hb8) (Q6.out.2.low hb8))
            clear hb8 HX8 Y6 Q6
            have hrc := right_calls (w := w8) Q9.out HBD.out
            rw [HRR.out] at hrc
            have HRC := Lib.hid hrc
            clear hrc
            have xy0 := tcell_of_blk Y9.out (k := 0) rfl
            have xy1 := tcell_of_blk Y9.out (k := 1) rfl
            have xy2 := tcell_of_blk Y9.out (k := 2) rfl
            have xy3 := tcell_of_blk Y9.out (k := 3) rfl
            have xy4 := tcell_of_blk Y9.out (k := 4) rfl
            go_wp2_with fail
            with_reducible refine HRC.out.mono ?_
            rintro e9 w9 ⟨rfl, hb9⟩
            have HB9 := Lib.hid (HB8.out.trans (hb9.mono HB8.out.size))
            clear hb9 HRC Y9 Q9 xy0 xy1 xy2 xy3 xy4
            go_wp2
            go_ret
            exact ⟨rfl, HB9.out⟩
        · obtain rfl := HNO.out he
          have t2 : (er != 0) = true := by rw [bne_iff_ne]; exact he
          have HSN : Hid (∀ W, Below (w5.alloc (.cells #[.slice a5 m5 c5, .slice b5 r5 d5, .int .i64 0, .string ⟨#[]⟩, .int .i64 0] 26)).heap.size (w5.alloc (.cells #[.slice a5 m5 c5, .slice b5 r5 d5, .int .i64 0, .string ⟨#[]⟩, .int .i64 0] 26)) W → Calls Tryz.prog 18 #[.agg #[.slice a5 m5 c5, .slice b5 r5 d5, .int .i64 0, .string ⟨#[]⟩, .int .i64 0], .agg #[.slice none 0 0, .slice none 0 0, .int .i64 0, .string ⟨#[]⟩, .int .i64 0]] W fun e w' => e = .returned (.bool true) ∧ Below W.heap.size W w') := fun W hW => by
            have h := same_calls (K' := fun _ => False) (w := W) (a' := none) (q' := 0) (c' := 0) (b' := none) (r' := 0) (d' := 0) noQ noQ ⟨Q5.out.1.low hW, Q5.out.2.low hW⟩ ⟨RowK.nil _ _ _, RowK.nil _ _ _⟩ (Nat.zero_le _) (Nat.zero_le _) noQ_ls
            rw [sameB_yes rfl] at h
            exact h
          rw [show noQ.within = 0 from rfl, show strB noQ.by_ = ⟨#[]⟩ from rfl, show noQ.pick = 0 from rfl]
          have Y5' : Hid (Blk (w5.alloc (.cells #[.slice a5 m5 c5, .slice b5 r5 d5, .int .i64 0, .string ⟨#[]⟩, .int .i64 0] 26)) w5.heap.size #[.slice a5 m5 c5, .slice b5 r5 d5, .int .i64 0, .string ⟨#[]⟩, .int .i64 0] 26) := Y5.out
          have HB5b : Hid (Below w.heap.size w (w5.alloc (.cells #[.slice a5 m5 c5, .slice b5 r5 d5, .int .i64 0, .string ⟨#[]⟩, .int .i64 0] 26))) := HB5a.out
          clear HRT HNO he Y5 Q5 HB5a HBD
          have xy0 := tcell_of_blk Y5'.out (k := 0) rfl
          have xy1 := tcell_of_blk Y5'.out (k := 1) rfl
          have xy2 := tcell_of_blk Y5'.out (k := 2) rfl
          have xy3 := tcell_of_blk Y5'.out (k := 3) rfl
          have xy4 := tcell_of_blk Y5'.out (k := 4) rfl
          go_wp2_with (go_at_call 18; (with_reducible refine (HSN.out _ (Below.refl _ _)).mono ?_); rintro e10 w10 ⟨rfl, hb10⟩; have HB10 := Lib.hid (HB5b.out.trans (hb10.mono HB5b.out.size)); clear hb10)
          go_ret
          exact ⟨rfl, HB10.out⟩
      · rw [hp7] at HP5
        clear hp7
        go_wp2_with fail
        with_reducible refine HP5.out.mono ?_
        rintro e5 w5 ⟨a7, m7, c7, b7, r7, d7, rfl, _, hb7⟩
        dsimp only
        have HB7 := Lib.hid (HB4.out.trans (hb7.mono HB4.out.size))
        have hba := (Below.refl w5.heap.size w5).alloc (Nat.le_refl _) (.cells #[.slice a7 m7 c7, .slice b7 r7 d7, .int .i64 noQ.within, .string (strB noQ.by_), .int .i64 noQ.pick] 26)
        have HB7a := Lib.hid (HB7.out.trans (hba.mono HB7.out.size))
        have Y6 := Lib.hid ((X4.out.low hb7).low hba)
        have hpr := print_calls (w := w5.alloc (.cells #[.slice a7 m7 c7, .slice b7 r7 d7, .int .i64 noQ.within, .string (strB noQ.by_), .int .i64 noQ.pick] 26)) (p := p) (K := fun _ => False) ⟨HQ.out.1.low HB7a.out, HQ.out.2.low HB7a.out⟩ HS.out.bd (HPV.out.below HB7a.out)
        obtain ⟨sp, hsp⟩ : ∃ sp, strB (printQ p) = sp := ⟨_, rfl⟩
        have hspl : 128 ≤ sp.size := by rw [← hsp, strB_size]; exact h128
        rw [hsp] at hpr
        have HPR := Lib.hid hpr
        have hd : decide ((sp.size : Int) < 128) = false := by simp; omega
        clear hb7 hba HP5 X4 hpr hsp h128
        have xy0 := tcell_of_blk Y6.out (k := 0) rfl
        have xy1 := tcell_of_blk Y6.out (k := 1) rfl
        have xy2 := tcell_of_blk Y6.out (k := 2) rfl
        have xy3 := tcell_of_blk Y6.out (k := 3) rfl
        have xy4 := tcell_of_blk Y6.out (k := 4) rfl
        go_wp2_with fail
        with_reducible refine HPR.out.mono ?_
        rintro e6 w6 ⟨rfl, hb6⟩
        have HB6 := Lib.hid (HB7a.out.trans (hb6.mono HB7a.out.size))
        clear hb6 HPR Y6 xy0 xy1 xy2 xy3 xy4
        have hpa := parse_calls (HV.out.below HB6.out) t.data.toList (by rw [HT1.out]; omega)
        rw [strB_eq'] at hpa
        have hbd := parse_bd t.data.toList (by rw [HT1.out]; omega)
        have hrt := parse_right (l := t.data.toList)
        have hno := parse_none (l := t.data.toList)
        obtain ⟨⟨u, er, at_⟩, hr⟩ : ∃ z, parseI t.data.toList = z := ⟨_, rfl⟩
        rw [hr] at hpa hbd hrt hno
        dsimp only at hbd hrt hno
        have HP := Lib.hid hpa
        have HBD := Lib.hid hbd
        have HRT := Lib.hid hrt
        have HNO := Lib.hid hno
        clear hpa hr hbd hrt hno
        go_wp2_with fail
        with_reducible refine HP.out.mono ?_
        rintro e5 w5 ⟨a5, m5, c5, b5, r5, d5, rfl, hQ5, hb5⟩
        dsimp only at hQ5
        have HB5 := Lib.hid (HB6.out.trans (hb5.mono HB6.out.size))
        have hba := (Below.refl w5.heap.size w5).alloc (Nat.le_refl _) (.cells #[.slice a5 m5 c5, .slice b5 r5 d5, .int .i64 u.within, .string (strB u.by_), .int .i64 u.pick] 26)
        have HB5a := Lib.hid (HB5.out.trans (hba.mono HB5.out.size))
        have Y5 := Lib.hid (Blk.new w5 #[.slice a5 m5 c5, .slice b5 r5 d5, .int .i64 u.within, .string (strB u.by_), .int .i64 u.pick] 26)
        have Q5 := Lib.hid (And.intro (hQ5.1.low hba) (hQ5.2.low hba))
        clear HP hb5 hba hQ5 
        by_cases he : er = 0
        · subst he
          have hrr := HRT.out rfl
          have hpr := print_calls (w := w5.alloc (.cells #[.slice a5 m5 c5, .slice b5 r5 d5, .int .i64 u.within, .string (strB u.by_), .int .i64 u.pick] 26)) (p := u) Q5.out HBD.out (HPV.out.below HB5a.out)
          have HPR := Lib.hid hpr
          have hsh := print_short hrr
          have hbk := back_print hrr
          have hne := print_ne hrr
          obtain ⟨l1, l2, l3⟩ := ln_query hrr HBD.out
          obtain ⟨sl, hsl⟩ : ∃ sl, printQ u = sl := ⟨_, rfl⟩
          rw [hsl] at HPR hsh hbk hne
          have HSH := Lib.hid hsh
          have HBK := Lib.hid hbk
          have HNE := Lib.hid hne
          have HRR := Lib.hid hrr
          have HLN := Lib.hid (And.intro l1 (And.intro l2 l3))
          clear hpr hsh hbk hne hrr l1 l2 l3 hsl HRT HNO
          have xy0 := tcell_of_blk Y5.out (k := 0) rfl
          have xy1 := tcell_of_blk Y5.out (k := 1) rfl
          have xy2 := tcell_of_blk Y5.out (k := 2) rfl
          have xy3 := tcell_of_blk Y5.out (k := 3) rfl
          have xy4 := tcell_of_blk Y5.out (k := 4) rfl
          go_wp2_with fail
          with_reducible refine HPR.out.mono ?_
          rintro e6 w6 ⟨rfl, hb6⟩
          have HB6 := Lib.hid (HB5a.out.trans (hb6.mono HB5a.out.size))
          have Y6 := Lib.hid (Y5.out.low hb6)
          have Q6 := Lib.hid (And.intro (Q5.out.1.low hb6) (Q5.out.2.low hb6))
          clear hb6 HPR Y5 Q5 xy0 xy1 xy2 xy3 xy4
          have HP7 := Lib.hid (parse_calls (HV.out.below HB6.out) sl HSH.out)
          have HX8 := Lib.hid (fun W => xread_calls W (strB sl) sl (strB_list sl) (by rw [strB_size]; exact HSH.out))
          have hse : ((strB sl).toList == []) = false := by rw [tB_list, beq_eq_false_iff_ne]; exact HNE.out
          have hse2 : (!(strB sl).toList.isEmpty) = true := by rw [tB_list]; simpa using HNE.out
          have hse3 : (strB sl).toList.isEmpty = false := by rw [tB_list]; simpa using HNE.out
          obtain ⟨sv, hsv⟩ : ∃ sv, strB sl = sv := ⟨_, rfl⟩
          rw [hsv] at HP7 HX8 hse hse2 hse3 ⊢
          clear hsv
          rcases HBK.out with ⟨hp7, hx8⟩ | ⟨⟨px, hp7⟩, hx8, _⟩
          · rw [hp7] at HP7
            obtain ⟨⟨ts, ex, px⟩, hts⟩ : ∃ z, readX sl = z := ⟨_, rfl⟩
            rw [hts] at HX8 hx8
            dsimp only at hx8
            subst hx8
            clear hp7 hts HBK
            go_wp2_with fail
            with_reducible refine HP7.out.mono ?_
            rintro e7 w7 ⟨a7, m7, c7, b7, r7, d7, rfl, hQ7, hb7⟩
            dsimp only at hQ7
            have HB7 := Lib.hid (HB6.out.trans (hb7.mono HB6.out.size))
            have hba := (Below.refl w7.heap.size w7).alloc (Nat.le_refl _) (.cells #[.slice a7 m7 c7, .slice b7 r7 d7, .int .i64 u.within, .string (strB u.by_), .int .i64 u.pick] 26)
            have HB7a := Lib.hid (HB7.out.trans (hba.mono HB7.out.size))
            have Y7 := Lib.hid (Blk.new w7 #[.slice a7 m7 c7, .slice b7 r7 d7, .int .i64 u.within, .string (strB u.by_), .int .i64 u.pick] 26)
            have Q7 := Lib.hid (And.intro (hQ7.1.low hba) (hQ7.2.low hba))
            have Y6 := Lib.hid ((Y6.out.low hb7).low hba)
            have Q6 := Lib.hid (And.intro ((Q6.out.1.low hb7).low hba) ((Q6.out.2.low hb7).low hba))
            clear hb7 hba hQ7 HP7
            go_wp2_with fail
            with_reducible refine (HX8.out _).mono ?_
            rintro e8 w8 ⟨v8, rfl, _, hb8⟩
            have HB8 := Lib.hid (HB7a.out.trans (hb8.mono HB7a.out.size))
            have Y8 := Lib.hid (Y7.out.low hb8)
            have Q8 := Lib.hid (And.intro (Q7.out.1.low hb8) (Q7.out.2.low hb8))
            have Y9 := Lib.hid (Y6.out.low hb8)
            have Q9 := Lib.hid (And.intro (Q6.out.1.low hb8) (Q6.out.2.low hb8))
            clear hb8 HX8 Y6 Y7 Q6 Q7
            have hrc := right_calls (w := w8) Q9.out HBD.out
            rw [HRR.out] at hrc
            have HRC := Lib.hid hrc
            have HSC : Hid (∀ W, Below w8.heap.size w8 W → Calls Tryz.prog 18 #[.agg #[.slice a5 m5 c5, .slice b5 r5 d5, .int .i64 u.within, .string (strB u.by_), .int .i64 u.pick], .agg #[.slice a7 m7 c7, .slice b7 r7 d7, .int .i64 u.within, .string (strB u.by_), .int .i64 u.pick]] W fun e w' => e = .returned (.bool true) ∧ Below W.heap.size W w') := fun W hW => by
              rw [← sameB_yes (rfl : u = u)]
              exact same_calls u u ⟨Q9.out.1.low hW, Q9.out.2.low hW⟩ ⟨Q8.out.1.low hW, Q8.out.2.low hW⟩ HLN.out.1 HLN.out.2.1 HLN.out.2.2
            clear hrc
            have xy0 := tcell_of_blk Y9.out (k := 0) rfl
            have xy1 := tcell_of_blk Y9.out (k := 1) rfl
            have xy2 := tcell_of_blk Y9.out (k := 2) rfl
            have xy3 := tcell_of_blk Y9.out (k := 3) rfl
            have xy4 := tcell_of_blk Y9.out (k := 4) rfl
            have xz0 := tcell_of_blk Y8.out (k := 0) rfl
            have xz1 := tcell_of_blk Y8.out (k := 1) rfl
            have xz2 := tcell_of_blk Y8.out (k := 2) rfl
            have xz3 := tcell_of_blk Y8.out (k := 3) rfl
            have xz4 := tcell_of_blk Y8.out (k := 4) rfl
            go_wp2_with fail
            with_reducible refine HRC.out.mono ?_
            rintro e9 w9 ⟨rfl, hb9⟩
            have HB9 := Lib.hid (HB8.out.trans (hb9.mono HB8.out.size))
            have HS9 := Lib.hid (HSC.out w9 hb9)
            have Y9 := Lib.hid (Y9.out.low hb9)
            have Y8 := Lib.hid (Y8.out.low hb9)
            clear hb9 HRC HSC xy0 xy1 xy2 xy3 xy4 xz0 xz1 xz2 xz3 xz4
            have xy0 := tcell_of_blk Y9.out (k := 0) rfl
            have xy1 := tcell_of_blk Y9.out (k := 1) rfl
            have xy2 := tcell_of_blk Y9.out (k := 2) rfl
            have xy3 := tcell_of_blk Y9.out (k := 3) rfl
            have xy4 := tcell_of_blk Y9.out (k := 4) rfl
            have xz0 := tcell_of_blk Y8.out (k := 0) rfl
            have xz1 := tcell_of_blk Y8.out (k := 1) rfl
            have xz2 := tcell_of_blk Y8.out (k := 2) rfl
            have xz3 := tcell_of_blk Y8.out (k := 3) rfl
            have xz4 := tcell_of_blk Y8.out (k := 4) rfl
            go_wp2_with fail
            with_reducible refine HS9.out.mono ?_
            rintro e10 w10 ⟨rfl, hb10⟩
            have HB10 := Lib.hid (HB9.out.trans (hb10.mono HB9.out.size))
            clear hb10 HS9 Y8 Y9 Q8 Q9 xy0 xy1 xy2 xy3 xy4 xz0 xz1 xz2 xz3 xz4
            go_wp2
            go_ret
            exact ⟨rfl, HB10.out⟩
          · rw [hp7] at HP7
            obtain ⟨⟨ts, ex, qx⟩, hts⟩ : ∃ z, readX sl = z := ⟨_, rfl⟩
            rw [hts] at HX8 hx8
            dsimp only at hx8
            subst hx8
            clear hp7 hts HBK
            go_wp2_with fail
            with_reducible refine HP7.out.mono ?_
            rintro e7 w7 ⟨a7, m7, c7, b7, r7, d7, rfl, _, hb7⟩
            have HB7 := Lib.hid (HB6.out.trans (hb7.mono HB6.out.size))
            dsimp only
            have hba := (Below.refl w7.heap.size w7).alloc (Nat.le_refl _) (.cells #[.slice a7 m7 c7, .slice b7 r7 d7, .int .i64 noQ.within, .string (strB noQ.by_), .int .i64 noQ.pick] 26)
            have HB7a := Lib.hid (HB7.out.trans (hba.mono HB7.out.size))
            have Y6 := Lib.hid ((Y6.out.low hb7).low hba)
            have Q6 := Lib.hid (And.intro ((Q6.out.1.low hb7).low hba) ((Q6.out.2.low hb7).low hba))
            clear hb7 hba HP7
            go_wp2_with fail
            with_reducible refine (HX8.out _).mono ?_
            rintro e8 w8 ⟨v8, rfl, _, hb8⟩
            have HB8 := Lib.hid (HB7a.out.trans (hb8.mono HB7a.out.size))
            have Y9 := Lib.hid (Y6.out.low hb8)
            have Q9 := Lib.hid (And.intro (Q6.out.1.low hb8) (Q6.out.2.low hb8))
            clear hb8 HX8 Y6 Q6
            have hrc := right_calls (w := w8) Q9.out HBD.out
            rw [HRR.out] at hrc
            have HRC := Lib.hid hrc
            clear hrc
            have xy0 := tcell_of_blk Y9.out (k := 0) rfl
            have xy1 := tcell_of_blk Y9.out (k := 1) rfl
            have xy2 := tcell_of_blk Y9.out (k := 2) rfl
            have xy3 := tcell_of_blk Y9.out (k := 3) rfl
            have xy4 := tcell_of_blk Y9.out (k := 4) rfl
            go_wp2_with fail
            with_reducible refine HRC.out.mono ?_
            rintro e9 w9 ⟨rfl, hb9⟩
            have HB9 := Lib.hid (HB8.out.trans (hb9.mono HB8.out.size))
            clear hb9 HRC Y9 Q9 xy0 xy1 xy2 xy3 xy4
            go_wp2
            go_ret
            exact ⟨rfl, HB9.out⟩
        · obtain rfl := HNO.out he
          have t2 : (er != 0) = true := by rw [bne_iff_ne]; exact he
          have HSN : Hid (∀ W, Below (w5.alloc (.cells #[.slice a5 m5 c5, .slice b5 r5 d5, .int .i64 0, .string ⟨#[]⟩, .int .i64 0] 26)).heap.size (w5.alloc (.cells #[.slice a5 m5 c5, .slice b5 r5 d5, .int .i64 0, .string ⟨#[]⟩, .int .i64 0] 26)) W → Calls Tryz.prog 18 #[.agg #[.slice a5 m5 c5, .slice b5 r5 d5, .int .i64 0, .string ⟨#[]⟩, .int .i64 0], .agg #[.slice none 0 0, .slice none 0 0, .int .i64 0, .string ⟨#[]⟩, .int .i64 0]] W fun e w' => e = .returned (.bool true) ∧ Below W.heap.size W w') := fun W hW => by
            have h := same_calls (K' := fun _ => False) (w := W) (a' := none) (q' := 0) (c' := 0) (b' := none) (r' := 0) (d' := 0) noQ noQ ⟨Q5.out.1.low hW, Q5.out.2.low hW⟩ ⟨RowK.nil _ _ _, RowK.nil _ _ _⟩ (Nat.zero_le _) (Nat.zero_le _) noQ_ls
            rw [sameB_yes rfl] at h
            exact h
          rw [show noQ.within = 0 from rfl, show strB noQ.by_ = ⟨#[]⟩ from rfl, show noQ.pick = 0 from rfl]
          have Y5' : Hid (Blk (w5.alloc (.cells #[.slice a5 m5 c5, .slice b5 r5 d5, .int .i64 0, .string ⟨#[]⟩, .int .i64 0] 26)) w5.heap.size #[.slice a5 m5 c5, .slice b5 r5 d5, .int .i64 0, .string ⟨#[]⟩, .int .i64 0] 26) := Y5.out
          have HB5b : Hid (Below w.heap.size w (w5.alloc (.cells #[.slice a5 m5 c5, .slice b5 r5 d5, .int .i64 0, .string ⟨#[]⟩, .int .i64 0] 26))) := HB5a.out
          clear HRT HNO he Y5 Q5 HB5a HBD
          have xy0 := tcell_of_blk Y5'.out (k := 0) rfl
          have xy1 := tcell_of_blk Y5'.out (k := 1) rfl
          have xy2 := tcell_of_blk Y5'.out (k := 2) rfl
          have xy3 := tcell_of_blk Y5'.out (k := 3) rfl
          have xy4 := tcell_of_blk Y5'.out (k := 4) rfl
          go_wp2_with (go_at_call 18; (with_reducible refine (HSN.out _ (Below.refl _ _)).mono ?_); rintro e10 w10 ⟨rfl, hb10⟩; have HB10 := Lib.hid (HB5b.out.trans (hb10.mono HB5b.out.size)); clear hb10)
          go_ret
          exact ⟨rfl, HB10.out⟩
end Go.Proofs.YtifacoompbngaaaGreatDoor
namespace Go.Proofs.YtifacoompbngaaaGreatDoor
open Go.ChangeShapes Go.WideShapes Go.ChangeAt Go.RowKit Go.Lib Go.Joins

theorem xown_ : ownKnob Tryz.prog.godebug = none := by kernel_rfl
theorem xlaidOut : laidOutB Tryz.prog = true := by kernel_rfl
theorem ytTab : (Tryz.prog.globals[3]?).map (·.type) = some 308 := by kernel_rfl
theorem ytSyn : (Tryz.prog.globals[4]?).map (·.type) = some 127 := by kernel_rfl
theorem ytRan : (Tryz.prog.globals[5]?).map (·.type) = some 127 := by kernel_rfl
theorem ytTru : (Tryz.prog.globals[2]?).map (·.type) = some 305 := by kernel_rfl
theorem ygTru : Tryz.prog.globalNamed "augury/tree.truths" = some 2 := by kernel_rfl

def laidX {H : Type} : List (String × DataW H) := [("math/bits.deBruijn32tab", Rows.laid_math_bits_deBruijn32tab), ("math/bits.deBruijn64tab", Rows.laid_math_bits_deBruijn64tab), ("internal/strconv.uint64pow10", Rows.laid_internal_strconv_uint64pow10), ("strconv.ErrRange", Rows.laid_strconv_ErrRange), ("strconv.ErrSyntax", Rows.laid_strconv_ErrSyntax), ("augury/tree.truths", Rows.laid_augury_tree_truths)]

set_option maxRecDepth 100000 in
/-- The door's own heap meets the condition. -/
theorem xdoor_met (os : Os) (args : Array Value) : laidMetH Tryz.prog laidX ((World.doorLaid Tryz.prog 74 os).forCall (fun _ _ => 0) ⟨#[], args, []⟩).memory :=
  laidMetH_of_parts3 (fuel := 8) (laidMet_of_run' 8 (by kernel_rfl) (by kernel_rfl)) (by kernel_rfl) (by kernel_rfl)

section
variable {H : Type} {enc : TypeId × Value → H} {P : Program} {w : World} {base : Nat} {sp : Nat → Bool} {held : Bool}
theorem array_at {fuel : Nat} {t e : TypeId} {n m : Nat} {cs : List Value} {ds : List (DataW H)} {p : List MemPlace} (ht : P.underlying t = some (.array n e)) (hce : P.cellsOf e = m)
    (h : DataW.trod enc P w base sp held fuel t cs = some (.agg ds, p)) : ∀ i d, ds[i]? = some d → ∃ f q, DataW.trod enc P w base sp held f e ((cs.drop (i * m)).take m) = some (d, q) := by
  obtain ⟨xs, f, _, hx, hlen, hn, hel⟩ := DataW.trod_array ht h
  intro i d hd
  have hds : ds = xs.map (·.1) := by
    have := congrArg Prod.fst hx
    simpa using this
  rw [hds, List.getElem?_map] at hd
  obtain ⟨x, hx1, rfl⟩ := Option.map_eq_some_iff.1 hd
  have hin : i < n := by rw [← hn]; exact (List.getElem?_eq_some_iff.1 hx1).1
  have h1 := hel i hin
  rw [hce] at h1
  refine ⟨f, x.2, ?_⟩
  rw [h1, hx1]
theorem str_at {fuel : Nat} {t : TypeId} {cs : List Value} {b : List UInt8} {p : List MemPlace} (ht : P.underlying t = some .string) (h : DataW.trod enc P w base sp held fuel t cs = some (.lit (.string b), p)) : cs = [.string (strB b)] := by
  obtain ⟨s, rfl, hx, _⟩ := DataW.trod_string ht h
  simp only [Prod.mk.injEq, DataW.lit.injEq, Lit.string.injEq] at hx
  have e : strB s.data.toList = s := by
    apply ByteArray.ext
    simp [strB]
  rw [hx.1, e]
end

set_option maxRecDepth 100000 in
theorem vars_of_laid {W : World} (h : laidMetH Tryz.prog laidX W) : TVars W ∧ PVars W := by
  rw [MakeChecks.laidMetH_plain _ _ _ (by kernel_rfl)] at h
  obtain ⟨ps, ⟨g0, t0, cs0, f0, p0, q0, hg0, ht0, hv0, hd0, ⟨g1, t1, cs1, f1, p1, q1, hg1, ht1, hv1, hd1, ⟨g2, t2, cs2, f2, p2, q2, hg2, ht2, hv2, hd2, ⟨g3, t3, cs3, f3, p3, q3, hg3, ht3, hv3, hd3, ⟨g4, t4, cs4, f4, p4, q4, hg4, ht4, hv4, hd4, ⟨g5, t5, cs5, f5, p5, q5, hg5, ht5, hv5, hd5, _, _⟩, _⟩, _⟩, _⟩, _⟩, _⟩, _⟩ := h
  obtain rfl := Option.some.inj (tgTab.symm.trans hg2)
  obtain rfl := Option.some.inj (xgRan.symm.trans hg3)
  obtain rfl := Option.some.inj (xgSyn.symm.trans hg4)
  obtain rfl := Option.some.inj (ygTru.symm.trans hg5)
  obtain rfl := Option.some.inj (ytTab.symm.trans ht2)
  obtain rfl := Option.some.inj (ytRan.symm.trans ht3)
  obtain rfl := Option.some.inj (ytSyn.symm.trans ht4)
  obtain rfl := Option.some.inj (ytTru.symm.trans ht5)
  have e2 := cells_of_tab (zs := pow10Tab) Tryz.underlying308 Tryz.underlying252 (by kernel_rfl) (by kernel_rfl) hd2
  obtain ⟨l3⟩ := cs3
  obtain ⟨l4⟩ := cs4
  obtain ⟨_, u3, v3, e3, _, _⟩ := iface_of_trod Tryz.underlying127 hd3
  obtain ⟨_, u4, v4, e4, _, _⟩ := iface_of_trod Tryz.underlying127 hd4
  have e3' : l3 = [.iface u3 v3] := e3
  have e4' : l4 = [.iface u4 v4] := e4
  subst e3' e4'
  have c1 : Tryz.prog.cellsOf 9 = 1 := by kernel_rfl
  have key : ∀ (i : Nat) (b : List UInt8), ((match (Rows.laid_augury_tree_truths (H := Unit)) with | .agg l => l | _ => [])[i]? = some (.lit (.string b))) → W.cell? ⟨2, i, none⟩ = some (.string (strB b)) := by
    intro i b hi
    obtain ⟨f, q, h1⟩ := array_at Tryz.underlying305 c1 hd5 i _ hi
    have h4 := str_at Tryz.underlying9 h1
    have h5 := World.var?_cell ygTru hv5 i
    rw [h5]
    have h6 := congrArg (·[0]?) h4
    simp only [Nat.mul_one, List.getElem?_take, List.getElem?_drop, List.getElem?_cons_zero] at h6
    simpa using h6
  have k0 := key 0 _ rfl
  have k1 := key 1 _ rfl
  refine ⟨⟨⟨⟨u4, v4, hv4⟩, ⟨u3, v3, hv3⟩⟩, k0, k1⟩, ?_, k0, k1⟩
  unfold TabIs
  rw [hv2]
  congr 1
  apply Array.ext'
  rw [e2]
end Go.Proofs.YtifacoompbngaaaGreatDoor
namespace Go.Proofs.YtifacoompbngaaaGreatDoor
open Go.ChangeShapes Go.WideShapes Go.ChangeAt Go.RowKit Go.Lib Go.Deep Go.Joins
open Go.ChangeMaps (open_string shut_string)

namespace treeBack
set_option maxRecDepth 100000 in
theorem lifted (os : Os) (started : os.Started) (H : Type) (enc : TypeId × Value → H) :
    ReturnsInHanded {} Tryz.checked os 5 .any (fun w args => (Rows.treeBackSpec.pre enc Tryz.prog Tryz.f5 [] false w args ∧ laidMetH Tryz.prog laidX w) ∧ sizedMet enc Tryz.prog Tryz.f5 (OpenSpec.ofChange Rows.treeBackSpec) false w args)
      (Rows.treeBackSpec.post enc Tryz.prog Tryz.f5 false true false false) := by
  refine returnsInHanded_of_change_and (C := Tryz.checked) (X := fun w _ => laidMetH Tryz.prog laidX w) (fun _ _ _ hh h => h.of_heap hh) xown_ started (by kernel_rfl) Tryz.func5
    (ChangeSpec.witness_shaped (enc := enc) (C := Tryz.checked) (os := os) (X := fun w _ => laidMetH Tryz.prog laidX w) false (World.doorLaid Tryz.prog 74 os) #[.agg #[.slice none 0 0, .slice none 0 0, .int .i64 0, .string .empty, .int .i64 0], .string .empty] 8 rfl (World.shaped_of_RefB (by kernel_rfl) (by kernel_rfl)) (by kernel_rfl) (by kernel_rfl) (by kernel_rfl) (xdoor_met os _)) ?_
  intro W base args ds gs before hval0 hW _ hsz hL _
  have hT := vars_of_laid hL
  have hval : ∀ (j : Nat) t v, Tryz.f5.params[j]? = some t → args[j]? = some v → Value.okWide Tryz.prog W .any base t v := hval0
  have hW' := hW
  obtain ⟨p, q, hA0, hV, rfl, _, _⟩ := hW
  have hA : DataW.TrodAll enc Tryz.prog W 0 (fun _ => true) true Tryz.f5.params.toList args.toList ds p := hA0
  rw [Tryz.params5] at hA hval
  obtain ⟨v0, vs0, d0, ds0, p0, q0, hargs, rfl, rfl, h0, r0⟩ := trodAll_cons hA
  obtain ⟨v1, vs1, d1, ds1, p1, q1, rfl, rfl, rfl, h1, r1⟩ := trodAll_cons r0
  obtain ⟨rfl, rfl, rfl⟩ := trodAll_nil r1
  obtain rfl : args = #[v0, v1] := by cases args; simp_all
  obtain ⟨rfl, rfl⟩ := trodVars_none hV
  have lt0 : ∀ x ∈ p0, x.block < W.heap.size := by obtain ⟨m, hm⟩ := h0; exact DataW.trod_lt m _ _ _ hm
  have lt1 : ∀ x ∈ p1, x.block < W.heap.size := by obtain ⟨m, hm⟩ := h1; exact DataW.trod_lt m _ _ _ hm
  have k_0 := h0
  have k_1 := h1
  obtain ⟨a0, q0_, c0, b0, r0_, e0, qu0, rfl, hq0, hl0⟩ := open_query (hval 0 26 v0 rfl rfl) h0 (fun q hq => by
    have h8 := List.all_eq_true.1 hsz q (DataW.weights_mem_each (j := 0) (t := 26) (d := d0) (by kernel_rfl) rfl q hq)
    simpa using h8)
  obtain ⟨s1, rfl, hd1, _, hs1⟩ := open_string Tryz.underlying9 (hval 1 9 v1 rfl rfl) h1
  have hr1 : s1.size ≤ 140737488351232 := by
    have h8 := sized_string hsz (j := 1) (t := 9) (bytes := s1.data.toList) (by kernel_rfl) (by rw [hd1]; rfl)
    simpa [reachBytes] using h8
  clear hA0 hval0
  refine (tback_walk W hT.1 hT.2 hq0 hl0 s1 hs1).mono fun e W' ⟨he, bel⟩ => ?_
  subst he
  exact ⟨_, rfl, _, _, _, [], _, [], hW', trodAll_mk1 (shut_bool Tryz.underlying4 _), (trodAll_cons_mk (Below.trod xlaidOut (by kernel_rfl) (of_decide_eq_true (by kernel_rfl)) k_0 bel lt0) (trodAll_cons_mk (Below.trod xlaidOut (by kernel_rfl) (of_decide_eq_true (by kernel_rfl)) k_1 bel lt1) trodAll_mk0)), rfl, bel.frame _, fun h => by cases h⟩

set_option maxHeartbeats 400000000 in
theorem closed : joinedFacts Tryz.pinned.checked.prog 5 Tryz.f5 Rows.treeBackSpec Rows.treeBackRow = true := by
  unfold joinedFacts
  repeat' with_reducible refine Bool.and_eq_true_iff.2 ⟨?_, ?_⟩
  all_goals as_aux_lemma => kernel_rfl

theorem row_holds : Rows.TreeBackSaid :=
  OpenClaim.holds_of_wide 5 Tryz.f5 rfl rfl rfl rfl rfl rfl rfl ⟨rfl, rfl, rfl, rfl, rfl⟩ rfl rfl rfl rfl rfl (by kernel_rfl) Tryz.func5 closed
    (of_decide_eq_true (by kernel_rfl)) (by unfold Func.isWrapper; first | (rw [if_pos (by decide +kernel)]; kernel_rfl) | (rw [if_neg (by decide +kernel)]; exact ⟨rfl, rfl⟩))
    (fun os started H enc _ => lifted os started H enc)

theorem holds : Rows.TreeBackCardSaid :=
  Claim7.holds_tied_plain_at .later [] [.data, .data, .data, .sentinel, .sentinel, .data] true _ true row_holds (fun _ h => by cases h) (by as_aux_lemma => kernel_rfl) (fun _ h => by cases h) treeBack_row_tie rfl ⟨rfl, rfl⟩ (by as_aux_lemma => kernel_rfl) rfl
    (fun f fn hf hfn => by
      obtain rfl : f = 5 := Option.some.inj ((show Tryz.prog.funcNamed "augury/augurylaw08.TreeBack" = some 5 by as_aux_lemma => kernel_rfl).symm.trans hf) |>.symm
      obtain rfl : fn = Tryz.f5 := (Option.some.inj (Tryz.func5.symm.trans hfn)).symm
      exact ⟨by as_aux_lemma => kernel_rfl, fun j t ht => by
        rw [Tryz.params5] at ht
        have hm : t ∈ [26, 9] := by simpa using Array.mem_of_getElem? ht
        have hall : ([26, 9].all fun u => !Tryz.prog.wantsStandIn u) = true := by as_aux_lemma => kernel_rfl
        exact (show Tryz.prog.wantsStandIn t = false by simpa using List.all_eq_true.1 hall t hm)⟩)
    (by as_aux_lemma => kernel_rfl)
end treeBack
end Go.Proofs.YtifacoompbngaaaGreatDoor

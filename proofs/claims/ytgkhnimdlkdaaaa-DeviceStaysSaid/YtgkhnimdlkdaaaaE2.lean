/- The statement DeviceRefused, its walk. -/
import Derived.Test.YtgkhnimdlkdaaaaE1
namespace Go.Proofs.Ytgkhnimdlkdaaaa
open Go.RowKit Go.Lib Go.Maps Go.ChangeMaps Go.Sort

set_option maxHeartbeats 8000000 in
set_option maxRecDepth 100000 in
theorem refused_walk (room : Int) (la : Option Addr) (lc : Nat) (ls : List LogV) (oa : Option Addr) (oc : Nat) (os : List OpV) (w : World) (hroom : -9223372036854775808 ≤ room ∧ room ≤ 9223372036854775807)
    (hls : LRow w la ls) (hl : ls.length ≤ maxLen) (hos : ORow w oa os) (hol : os.length ≤ maxLen) :
    Calls Try.prog 5 #[.int .i64 room, .slice la ls.length lc, .slice oa os.length oc] w (Fine w) := by
  have Hls := Lib.hid hls
  have Hos := Lib.hid hos
  have hl' : Hid (ls.length ≤ maxLen) := hl
  have hol' : Hid (os.length ≤ maxLen) := hol
  have hof := fun w1 (h : LRow w1 la ls) => of_calls room la lc ls w1 hroom h hl'.out
  have hgl := fun w1 (h : LRow w1 la ls) => greatLogs_calls la lc ls w1 h hl'.out
  have hgr := fun w1 (h : ORow w1 oa os) => great_calls oa oc os w1 h hol'.out
  obtain ⟨l, hll⟩ : ∃ l, ls.length = l := ⟨_, rfl⟩
  obtain ⟨ol, hool⟩ : ∃ ol, os.length = ol := ⟨_, rfl⟩
  rw [hll] at hl hof hgl ⊢
  rw [hool] at hol hgr ⊢
  have Hof := Lib.hid hof
  have Hgl := Lib.hid hgl
  have Hgr := Lib.hid hgr
  have Hl := Lib.hid hll
  have Hol := Lib.hid hool
  unfold maxLen at hl hol
  clear hls hos hll hool hof hgl hgr
  go_enter Try.func5, Try.ntmps5
  go_wp2_with fail
  refine (head_calls w).mono ?_
  rintro e w1 ⟨rfl, hb1⟩
  have Hb1 := Lib.hid hb1
  have Hls1 := Lib.hid (Hls.out.below hb1)
  clear hb1
  go_wp2_with fail
  refine (Hof.out w1 Hls1.out).mono ?_
  rintro e w2 (⟨rfl, hb2, _⟩ | ⟨db, fb, rb, own2, D2, n2, rfl, hok, h2, hn2, st2⟩)
  · have Hb2 := Lib.hid hb2
    clear hb2
    go_wp2_with fail
    go_ret
    exact Fine.below (Hb1.out.trans (Hb2.out.mono Hb1.out.size))
  have H2 := Lib.hid h2
  have ST2 := Lib.hid ((below_step (fun _ => none) Hb1.out).trans st2)
  clear hok h2 st2
  go_wp2_with fail
  refine (Hgr.out w2 (Hos.out.below ST2.out.below)).mono ?_
  rintro e w3 ⟨g, rfl, _, hb3⟩
  have H3 := Lib.hid (H2.out.below hb3)
  have ST3 := Lib.hid (ST2.out.trans (below_step own2 hb3))
  clear hb3
  cases g with
  | true =>
    go_wp2_with fail
    go_ret
    exact Fine.below ST3.out.below
  | false =>
  go_wp2_with fail
  refine (Hgl.out w3 (Hls.out.below ST3.out.below)).mono ?_
  rintro e w4 ⟨g, rfl, hb4⟩
  have H4 := Lib.hid (H3.out.below hb4)
  have ST4 := Lib.hid (ST3.out.trans (below_step own2 hb4))
  clear hb4
  cases g with
  | true =>
    go_wp2_with fail
    go_ret
    exact Fine.below ST4.out.below
  | false =>
  by_cases h60 : 60 < ol
  · have d2 : decide ((60 : Int) < (ol : Int)) = true := by simp; omega
    go_wp2_with fail
    go_ret
    exact Fine.below ST4.out.below
  have d2 : decide ((60 : Int) < (ol : Int)) = false := by simp; omega
  have HD0 : Hid (OnK w w4 db fb rb 0) := ⟨own2, D2, _, n2, _, H4.out, OnM.of, by omega, by show (0 : Int) ≤ _; omega, ST4.out⟩
  clear hn2
  go_wp2_with fail
  go_loopw [9] (fun i wr => ∃ k : Nat, k ≤ ol ∧ i = .int .i64 k ∧ Hid (OnK w wr db fb rb k)) (fun i _ => ol - (intOf i).toNat)
  case atStart => exact ⟨0, Nat.zero_le _, rfl, HD0⟩
  case round =>
    obtain ⟨k, hk, rfl, HD⟩ := hrel
    obtain ⟨ow, D, E, n, m, hd, hon, hn, ha, hs⟩ := HD.out
    by_cases hlt : k < ol
    · obtain ⟨o, ho⟩ : ∃ o, os[k]? = some o := ⟨_, List.getElem?_eq_getElem (by rw [Hol.out]; exact hlt)⟩
      obtain ⟨A, rfl, hat0⟩ := Hos.out k o ho
      obtain ⟨what, name, ba, bc, bs, on, oka, okc, oks⟩ := o
      have Hat0 := Lib.hid hat0
      have Hd := Lib.hid hd
      have Hon := Lib.hid hon
      have HS := Lib.hid hs
      have ha0 := hd.racts
      have hk0 : (0 : Int) ≤ (k : Int) := by omega
      have hk1 : (k : Int) < (ol : Int) := by omega
      have Hnm : Hid (name.size ≤ maxLen) := hat0.hname
      clear ho hat0 hd hs hon
      go_wp2_with fail
      refine (Hd.out.names (by omega)).mono ?_
      rintro e w5 ⟨v5, ss, rfl, hperm, hrow, hb5⟩
      have hlen := Hd.out.names_len hperm
      obtain ⟨a5, c5, rfl⟩ := row_slice hrow
      have H5 := Lib.hid (Hd.out.below hb5)
      have S5 := Lib.hid (HS.out.trans (below_step ow hb5))
      have hsl : ss.length ≤ 1000 := by rw [hlen]; have := Hd.out.cnt; omega
      obtain ⟨sl, hsl2⟩ : ∃ sl, ss.length = sl := ⟨_, rfl⟩
      rw [hsl2] at hlen hsl ⊢
      have Hsl := Lib.hid hlen
      clear hperm hrow hb5 hlen hsl2
      go_wp2_with fail
      refine (H5.out.used (by omega)).mono ?_
      rintro e w6 ⟨rfl, hb6⟩
      have H6 := Lib.hid (H5.out.below hb6)
      have S6 := Lib.hid (S5.out.trans (below_step ow hb6))
      obtain ⟨u, hu⟩ : ∃ u, usedD D m.files = u := ⟨_, rfl⟩
      rw [hu]
      have Hu := Lib.hid hu
      have c3 := H6.out.c3
      clear hb6 hu
      go_wp2_with fail
      refine (acts_calls db m.acts w6 c3).mono ?_
      rintro e w6 ⟨rfl, rfl⟩
      have hat6 := Hat0.out.below S6.out.below
      have c1 := hat6.c1
      unfold fld at c1
      dsimp only at c1
      obtain ⟨ac, hac⟩ : ∃ ac, m.acts = ac := ⟨_, rfl⟩
      rw [hac] at ha ha0 ⊢
      have Hac := Lib.hid hac
      clear c3 hat6 hac
      go_wp2_with fail
      refine (H6.out.read (s := name) Hnm.out).mono ?_
      rintro e w7 ⟨v7, rfl, hrow7, hb7⟩
      have H7 := Lib.hid (H6.out.below hb7)
      have S7 := Lib.hid (S6.out.trans (below_step ow hb7))
      have B7 : Hid (BArg w7 ow v7 (readM m name.data.toList).1) := BArg.of_owns hrow7 (fun b hb => H6.out.old b hb)
      have hat7 := Hat0.out.below S7.out.below
      have hdo := H7.out.does (by omega) (by rw [Hac.out]; omega) ⟨what, name, ba, bc, bs, on, oka, okc, oks⟩ Hnm.out (Hat0.out.hb.step S7.out)
      obtain ⟨hon1, hsame, hname1⟩ := Hon.out.does (Maps.size D) (usedD D m.files) ⟨what, name, ba, bc, bs, on, oka, okc, oks⟩
      have ha1 := doesM_acts m (Maps.size D) (usedD D m.files) ⟨what, name, ba, bc, bs, on, oka, okc, oks⟩
      obtain ⟨r, hr⟩ : ∃ r, doesM m (Maps.size D) (usedD D m.files) ⟨what, name, ba, bc, bs, on, oka, okc, oks⟩ = r := ⟨_, rfl⟩
      rw [hr] at hdo hon1 hsame hname1 ha1
      obtain ⟨m', ec⟩ := r
      dsimp only at hdo hon1 hsame hname1 ha1
      have Hdo := Lib.hid hdo
      have Hon1 := Lib.hid hon1
      have Hsame := Lib.hid hsame
      have Hname1 := Lib.hid hname1
      have Ha1 := Lib.hid ha1
      have c0 := hat7.c0
      have c1 := hat7.c1
      have c2 := hat7.c2
      have c3 := hat7.c3
      have c4 := hat7.c4
      dsimp only at c0 c1 c2 c3 c4
      unfold fld at c1 c2 c3 c4
      obtain ⟨bl, hbl⟩ : ∃ bl, bs.length = bl := ⟨_, rfl⟩
      obtain ⟨kl, hkl⟩ : ∃ kl, oks.length = kl := ⟨_, rfl⟩
      clear hrow7 hb7 hat7 hdo hon1 hsame hname1 ha1 hr hbl hkl
      go_wp2_with fail
      refine Hdo.out.mono ?_
      rintro e w8 ⟨rfl, own8, D8, E8, h8, st8⟩
      have H8 := Lib.hid h8
      have S8 := Lib.hid (S7.out.trans st8)
      have B8 := Lib.hid (B7.out.step st8)
      have hat8 := Hat0.out.below S8.out.below
      have c1 := hat8.c1
      unfold fld at c1
      dsimp only at c1
      clear h8 st8 hat8 Hdo c0 c2 c3 c4
      go_wp2_with fail
      refine (H8.out.read (s := name) Hnm.out).mono ?_
      rintro e w9 ⟨v9, rfl, hrow9, hb9⟩
      have H9 := Lib.hid (H8.out.below hb9)
      have S9 := Lib.hid (S8.out.trans (below_step own8 hb9))
      have B9 : Hid (BArg w9 own8 v9 (readM m' name.data.toList).1) := BArg.of_owns hrow9 (fun b hb => H8.out.old b hb)
      have BW9 := Lib.hid (B8.out.step (below_step own8 hb9))
      clear hrow9 hb9 c1
      have key : Hid (∀ w10 : World, Step (fun _ => none) own8 w w10 → Dev True w10 own8 db fb rb D8 E8 (n + 1) m' → OnK w w10 db fb rb (k + 1)) := fun w10 st hd => ⟨own8, D8, E8, n + 1, m', hd, Hon1.out, by omega, by have := Ha1.out; rw [Hac.out] at this; omega, st⟩
      by_cases he : ec = 0
      · have t1 : (ec != 0) = false := by rw [bne_eq_false_iff_eq]; exact he
        have hatz := Hat0.out.below S9.out.below
        have c0 := hatz.c0
        have c1 := hatz.c1
        dsimp only at c0 c1
        unfold fld at c1
        clear hatz
        by_cases hw0 : 0 ≤ what
        rotate_left
        · have t2 : decide ((0 : Int) ≤ what) = false := by simpa using hw0
          go_wp2_with fail
          go_roundw
          case rel => exact ⟨k + 1, by omega, by go_num, key.out _ S9.out H9.out⟩
          case measure => simp [intOf]; omega
        have t2 : decide ((0 : Int) ≤ what) = true := by simpa using hw0
        by_cases hw4 : what < 4
        rotate_left
        · have t3 : decide (what < 4) = false := by simpa using hw4
          go_wp2_with fail
          go_roundw
          case rel => exact ⟨k + 1, by omega, by go_num, key.out _ S9.out H9.out⟩
          case measure => simp [intOf]; omega
        have t3 : decide (what < 4) = true := by simpa using hw4
        cases hnk : nameOk name.data.toList with
        | true =>
          have hrn : Calls Try.prog 33 #[.string name] w9 fun e w' => e = .returned (.bool true) ∧ w9 = w' := by
            have h1 := rname_calls name w9 Hnm.out
            rwa [hnk] at h1
          clear hnk
          go_wp2_with fail
          refine hrn.mono ?_
          rintro e wq ⟨rfl, rfl⟩
          clear hrn
          go_wp2_with fail
          go_roundw
          case rel => exact ⟨k + 1, by omega, by go_num, key.out _ S9.out H9.out⟩
          case measure => simp [intOf]; omega
        | false =>
          have hrn : Calls Try.prog 33 #[.string name] w9 fun e w' => e = .returned (.bool false) ∧ w9 = w' := by
            have h1 := rname_calls name w9 Hnm.out
            rwa [hnk] at h1
          have hec1 : ec = 1 := Hname1.out hw0 hw4 hnk
          exfalso
          omega
      · have t1 : (ec != 0) = true := by rw [bne_iff_ne]; exact he
        have hmm : m' = m := Hsame.out he
        subst hmm
        obtain ⟨_, hz, hus⟩ := H7.out.same H8.out rfl
        rw [Hu.out] at hus
        have Hus := Lib.hid hus
        have Hz := Lib.hid hz
        clear hus hz
        go_wp2_with fail
        refine (H9.out.names (by omega)).mono ?_
        rintro e w10 ⟨v10, s2, rfl, hperm, hrow, hb10⟩
        have hlen := H9.out.names_len hperm
        rw [Hz.out, ← Hsl.out] at hlen
        obtain ⟨a10, c10, rfl⟩ := row_slice hrow
        rw [hlen]
        have H10 := Lib.hid (H9.out.below hb10)
        have S10 := Lib.hid (S9.out.trans (below_step own8 hb10))
        have B10 := Lib.hid (B9.out.step (below_step own8 hb10))
        have BW10 := Lib.hid (BW9.out.step (below_step own8 hb10))
        have hus := H10.out.used (by omega)
        rw [Hus.out] at hus
        have Hus2 := Lib.hid hus
        clear hperm hrow hb10 hlen hus
        go_wp2_with fail
        refine Hus2.out.mono ?_
        rintro e w11 ⟨rfl, hb11⟩
        have H11 := Lib.hid (H10.out.below hb11)
        have S11 := Lib.hid (S10.out.trans (below_step own8 hb11))
        have k1 := conv_barg (B10.out.step (below_step own8 hb11))
        have k2 := conv_barg (BW10.out.step (below_step own8 hb11))
        have c3 := H11.out.c3
        rw [Hac.out] at c3
        obtain ⟨xz, hxz⟩ : ∃ xz : ByteArray, xz = ⟨(readM m' name.data.toList).1.toArray⟩ := ⟨_, rfl⟩
        rw [← hxz] at k1 k2
        clear hb11 Hus2 hxz
        go_wp2_with fail
        refine (acts_calls db ac w11 c3).mono ?_
        rintro e wq ⟨rfl, rfl⟩
        clear c3
        have hatz := Hat0.out.below S11.out.below
        have c0 := hatz.c0
        have c1 := hatz.c1
        dsimp only at c0 c1
        unfold fld at c1
        clear hatz
        by_cases hw0 : 0 ≤ what
        rotate_left
        · have t2 : decide ((0 : Int) ≤ what) = false := by simpa using hw0
          go_wp2_with fail
          go_roundw
          case rel => exact ⟨k + 1, by omega, by go_num, key.out _ S11.out H11.out⟩
          case measure => simp [intOf]; omega
        have t2 : decide ((0 : Int) ≤ what) = true := by simpa using hw0
        by_cases hw4 : what < 4
        rotate_left
        · have t3 : decide (what < 4) = false := by simpa using hw4
          go_wp2_with fail
          go_roundw
          case rel => exact ⟨k + 1, by omega, by go_num, key.out _ S11.out H11.out⟩
          case measure => simp [intOf]; omega
        have t3 : decide (what < 4) = true := by simpa using hw4
        cases hnk : nameOk name.data.toList with
        | true =>
          have hrn : Calls Try.prog 33 #[.string name] w11 fun e w' => e = .returned (.bool true) ∧ w11 = w' := by
            have h1 := rname_calls name w11 Hnm.out
            rwa [hnk] at h1
          clear hnk
          go_wp2_with fail
          refine hrn.mono ?_
          rintro e wq ⟨rfl, rfl⟩
          clear hrn
          go_wp2_with fail
          go_roundw
          case rel => exact ⟨k + 1, by omega, by go_num, key.out _ S11.out H11.out⟩
          case measure => simp [intOf]; omega
        | false =>
          have hrn : Calls Try.prog 33 #[.string name] w11 fun e w' => e = .returned (.bool false) ∧ w11 = w' := by
            have h1 := rname_calls name w11 Hnm.out
            rwa [hnk] at h1
          have hec1 : ec = 1 := Hname1.out hw0 hw4 hnk
          have t4 : (ec != 1) = false := by rw [bne_eq_false_iff_eq]; exact hec1
          clear hnk hec1
          go_wp2_with fail
          refine hrn.mono ?_
          rintro e wq ⟨rfl, rfl⟩
          clear hrn
          go_wp2_with fail
          go_roundw
          case rel => exact ⟨k + 1, by omega, by go_num, key.out _ S11.out H11.out⟩
          case measure => simp [intOf]; omega
    · clear hd hs
      go_wp2_with fail
      go_ret
      exact Fine.below HD.out.choose_spec.choose_spec.choose_spec.choose_spec.choose_spec.2.2.2.2.below

end Go.Proofs.Ytgkhnimdlkdaaaa

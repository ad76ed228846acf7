/- The statement DeviceStays, its walk. -/
import Derived.Test.YtgkhnimdlkdaaaaE4
namespace Go.Proofs.Ytgkhnimdlkdaaaa
open Go.RowKit Go.Lib Go.Maps Go.ChangeMaps Go.Sort

theorem row_cap {w : World} {base : Nat} {t : TypeId} {sz : Nat} {v : Value} {k : Nat} {xs : List Value} (h : w.ownsRow base t sz v k xs) : ∃ c a, v = .slice a k c ∧ k ≤ c := by
  rcases h.2 with ⟨rfl, h0⟩ | ⟨g, cap, cur, rfl, _, _, h1, _⟩
  · exact ⟨0, none, by rw [h0], by omega⟩
  · exact ⟨cap, _, rfl, h1⟩

theorem str_upto (W : World) (s : ByteArray) (k : Nat) (hk : k ≤ s.size) : (Instr.slice 9 (.string s) none (some (.int .i64 k)) none).run Try.prog W = .ok (.string ⟨(s.data.toList.take k).toArray⟩) W := by
  rw [run_slice_string_h (P := Try.prog) W 9 s Try.underlying9 .i64 (k : Int) (by omega) (by omega)]
  congr 2
  apply ByteArray.ext
  apply Array.ext'
  simp

theorem Dev.read_le {S : Prop} {w : World} {own : Owner} {db fb rb : Nat} {D E : DataW Unit} {n : Nat} {m : DevM} (h : Dev S w own db fb rb D E n m) (k : List UInt8) : (readM m k).1.length ≤ 262144 := by
  unfold readM
  split
  · exact Nat.zero_le _
  · split
    · split
      · exact Nat.zero_le _
      · rename_i f hf
        obtain ⟨p, dv, _, hfa, _⟩ := h.fil _ f hf
        exact hfa.2.2.2
    · exact Nat.zero_le _

/-- A device that is on, behind a Sync and k calls more, and what was read of a file ahead of them. -/
def StayK (w wr : World) (db fb rb k : Nat) (v : Value) (W nm : List UInt8) (e0 : Int) (g : Bool) (L : List UInt8) : Prop :=
  ∃ (ow : Owner) (D E : DataW Unit) (n : Nat) (m : DevM), Dev True wr ow db fb rb D E n m ∧ OnM m ∧ n ≤ 1000 + k ∧ m.acts ≤ 1000 + k ∧ Step (fun _ => none) ow w wr ∧ BArg wr ow v W ∧ (e0 = 0 → StayI W nm m g L)

set_option maxHeartbeats 16000000 in
set_option maxRecDepth 100000 in
theorem stays_walk (la : Option Addr) (lc : Nat) (ls : List LogV) (oa : Option Addr) (oc : Nat) (os : List OpV) (name : ByteArray) (pa : Option Addr) (pc : Nat) (ps : List OpV) (ka : Option Addr) (kc : Nat) (ks : List (ByteArray × Int)) (w : World)
    (hls : LRow w la ls) (hl : ls.length ≤ maxLen) (hos : ORow w oa os) (hol : os.length ≤ maxLen) (hnm : name.size ≤ maxLen) (hps : ORow w pa ps) (hpl : ps.length ≤ maxLen) (hkl : ks.length ≤ maxLen) (hk : KArg w (fun _ => none) (.slice ka ks.length kc) ks) :
    Calls Try.prog 4 #[.slice la ls.length lc, .slice oa os.length oc, .string name, .slice pa ps.length pc, .slice ka ks.length kc] w (Fine w) := by
  have Hls := Lib.hid hls
  have Hos := Lib.hid hos
  have Hps := Lib.hid hps
  have Hk := Lib.hid hk
  have Hnm : Hid (name.size ≤ maxLen) := hnm
  have hl' : Hid (ls.length ≤ maxLen) := hl
  have hol' : Hid (os.length ≤ maxLen) := hol
  have hpl' : Hid (ps.length ≤ maxLen) := hpl
  have hof := fun w1 (h : LRow w1 la ls) => of_calls 4194304 la lc ls w1 (by omega) h hl'.out
  have hgl := fun w1 (h : LRow w1 la ls) => greatLogs_calls la lc ls w1 h hl'.out
  have hgr := fun w1 (h : ORow w1 oa os) => great_calls oa oc os w1 h hol'.out
  have hgp := fun w1 (h : ORow w1 pa ps) => great_calls pa pc ps w1 h hpl'.out
  obtain ⟨l, hll⟩ : ∃ l, ls.length = l := ⟨_, rfl⟩
  obtain ⟨ol, hool⟩ : ∃ ol, os.length = ol := ⟨_, rfl⟩
  obtain ⟨pl, hppl⟩ : ∃ pl, ps.length = pl := ⟨_, rfl⟩
  obtain ⟨q, hq⟩ : ∃ q, ks.length = q := ⟨_, rfl⟩
  rw [hll] at hl hof hgl ⊢
  rw [hool] at hol hgr ⊢
  rw [hppl] at hpl hgp ⊢
  rw [hq] at hkl Hk ⊢
  have Hof := Lib.hid hof
  have Hgl := Lib.hid hgl
  have Hgr := Lib.hid hgr
  have Hgp := Lib.hid hgp
  have Hl := Lib.hid hll
  have Hol := Lib.hid hool
  have Hpl := Lib.hid hppl
  have Hq := Lib.hid hq
  unfold maxLen at hl hol hpl hkl hnm
  clear hls hos hps hk hll hool hppl hq hof hgl hgr hgp
  go_enter Try.func4, Try.ntmps4
  go_wp2_with fail
  refine (head_calls w).mono ?_
  rintro e w1 ⟨rfl, hb1⟩
  have Hb1 := Lib.hid hb1
  have Hls1 := Lib.hid (Hls.out.below hb1)
  clear hb1
  go_wp2_with fail
  refine (Hof.out w1 Hls1.out).mono ?_
  rintro e w2 (⟨rfl, hb2, _⟩ | ⟨db, fb, rb, own2, D2, n2, rfl, hok, h2, hn2, st2⟩)
  · have Hb2 := Lib.hid hb2
    clear hb2
    go_wp2_with fail
    go_ret
    exact Fine.below (Hb1.out.trans (Hb2.out.mono Hb1.out.size))
  have H2 := Lib.hid h2
  have ST2 := Lib.hid ((below_step (fun _ => none) Hb1.out).trans st2)
  clear hok h2 st2
  go_wp2_with fail
  refine (Hgr.out w2 (Hos.out.below ST2.out.below)).mono ?_
  rintro e w3 ⟨g, rfl, hg300, hb3⟩
  have H3 := Lib.hid (H2.out.below hb3)
  have ST3 := Lib.hid (ST2.out.trans (below_step own2 hb3))
  have Hg300 := Lib.hid hg300
  clear hb3 hg300
  cases g with
  | true =>
    go_wp2_with fail
    go_ret
    exact Fine.below ST3.out.below
  | false =>
  have hol3 : ol ≤ 300 := Hg300.out rfl
  go_wp2_with fail
  refine (Hgp.out w3 (Hps.out.below ST3.out.below)).mono ?_
  rintro e w3b ⟨g, rfl, hg300, hb3⟩
  have H3b := Lib.hid (H3.out.below hb3)
  have ST3b := Lib.hid (ST3.out.trans (below_step own2 hb3))
  have Hg301 := Lib.hid hg300
  clear hb3 hg300
  cases g with
  | true =>
    go_wp2_with fail
    go_ret
    exact Fine.below ST3b.out.below
  | false =>
  have hpl3 : pl ≤ 300 := Hg301.out rfl
  go_wp2_with fail
  refine (Hgl.out w3b (Hls.out.below ST3b.out.below)).mono ?_
  rintro e w4 ⟨g, rfl, hb4⟩
  have H4 := Lib.hid (H3b.out.below hb4)
  have ST4 := Lib.hid (ST3b.out.trans (below_step own2 hb4))
  clear hb4
  cases g with
  | true =>
    go_wp2_with fail
    go_ret
    exact Fine.below ST4.out.below
  | false =>
  by_cases hnb : 1000 < name.size
  · have d1 : decide ((1000 : Int) < (name.size : Int)) = true := by simp; omega
    go_wp2_with fail
    go_ret
    exact Fine.below ST4.out.below
  have d1 : decide ((1000 : Int) < (name.size : Int)) = false := by simp; omega
  by_cases hkb : 100 < q
  · have d2 : decide ((100 : Int) < (q : Int)) = true := by simp; omega
    go_wp2_with fail
    go_ret
    exact Fine.below ST4.out.below
  have d2 : decide ((100 : Int) < (q : Int)) = false := by simp; omega
  have HD0 : Hid (OnK w w4 db fb rb 0) := ⟨own2, D2, _, n2, _, H4.out, OnM.of, by omega, by show (0 : Int) ≤ _; omega, ST4.out⟩
  clear hn2
  go_wp2_with fail
  go_loopw [13] (fun i wr => ∃ k : Nat, k ≤ ol ∧ i = .int .i64 k ∧ Hid (OnK w wr db fb rb k)) (fun i _ => ol - (intOf i).toNat)
  case atStart => exact ⟨0, Nat.zero_le _, rfl, HD0⟩
  case round =>
    obtain ⟨k, hk, rfl, HD⟩ := hrel
    obtain ⟨ow, D, E, n, m, hd, hon, hn, ha, hs⟩ := HD.out
    by_cases hlt : k < ol
    · obtain ⟨o, ho⟩ : ∃ o, os[k]? = some o := ⟨_, List.getElem?_eq_getElem (by rw [Hol.out]; exact hlt)⟩
      obtain ⟨A, rfl, hat0⟩ := Hos.out k o ho
      have hat := hat0.below hs.below
      have hdo := hd.does (by omega) (by omega) o hat0.hname (hat0.hb.step hs)
      have ha1 := doesM_acts m (Maps.size D) (usedD D m.files) o
      have hon1 := (hon.does (Maps.size D) (usedD D m.files) o).1
      obtain ⟨what, name', ba, bc, bs, on, oka, okc, oks⟩ := o
      have c0 := hat.c0
      have c1 := hat.c1
      have c2 := hat.c2
      have c3 := hat.c3
      have c4 := hat.c4
      dsimp only at c0 c1 c2 c3 c4
      unfold fld at c1 c2 c3 c4
      have Hdo := Lib.hid hdo
      have Ha1 := Lib.hid ha1
      have Hon1 := Lib.hid hon1
      have HSt := Lib.hid hs
      have hk0 : (0 : Int) ≤ (k : Int) := by omega
      have hk1 : (k : Int) < (ol : Int) := by omega
      clear ho hat0 hat hdo ha1 hd hs hon hon1
      go_wp2_with fail
      refine Hdo.out.mono ?_
      rintro e w5 ⟨rfl, own5, D5, E5, h5, st5⟩
      have HD5 : Hid (OnK w w5 db fb rb (k + 1)) := ⟨own5, D5, E5, n + 1, _, h5, Hon1.out, by omega, by have := Ha1.out; omega, HSt.out.trans st5⟩
      clear c0 c1 c2 c3 c4 h5 st5 Hdo
      go_wp2_with fail
      go_roundw
      case rel => exact ⟨k + 1, by omega, by go_num, HD5⟩
      case measure => simp [intOf]; omega
    · have hsy := hd.sync (by omega)
      have Hsy := Lib.hid hsy
      have HSt := Lib.hid hs
      have hn5 : n ≤ 400 := by omega
      have hac : (syncM m).1.acts ≤ 400 := by have := syncM_acts m; omega
      have Hon := Lib.hid hon
      clear hsy hd hs HD HD0 ha hn hon
      go_wp2_with fail
      refine Hsy.out.mono ?_
      rintro e w5 ⟨rfl, E5, h5, st5⟩
      have ST5 := Lib.hid (HSt.out.trans st5)
      have H5 := Lib.hid h5
      have hrd := h5.read (s := name) Hnm.out
      obtain ⟨r, hr⟩ : ∃ r, readM (syncM m).1 name.data.toList = r := ⟨_, rfl⟩
      have hwb := h5.read_le name.data.toList
      rw [hr] at hrd hwb
      obtain ⟨W, e0⟩ := r
      dsimp only at hwb
      have Hwb := Lib.hid hwb
      dsimp only at hrd
      have hst : e0 = 0 → nameOk name.data.toList = true ∧ StayI W name.data.toList (syncM m).1 false W := fun he => by
        have h1 := StayI.start (nm := name.data.toList) Hon.out (by rw [hr]; exact he)
        rw [hr] at h1
        exact h1
      have Hst := Lib.hid hst
      have Hrd := Lib.hid hrd
      clear h5 st5 Hsy hrd hr hst hwb
      go_wp2_with fail
      refine Hrd.out.mono ?_
      rintro e w6 ⟨v6, rfl, hrow, hb6⟩
      have H6 := Lib.hid (H5.out.below hb6)
      have ST6 := Lib.hid (ST5.out.trans (below_step ow hb6))
      have B6 : Hid (BArg w6 ow v6 W) := BArg.of_owns hrow (fun b hb => H5.out.old b hb)
      have k1 : (convert 31 9 v6).run Try.prog w6 = .ok (.string ⟨W.toArray⟩) w6 := conv_row hrow
      obtain ⟨c6, a6, rfl, hc6⟩ := row_cap hrow
      have Hc6 : Hid (W.length ≤ c6) := hc6
      have hWb : W.length ≤ 262144 := Hwb.out
      obtain ⟨wl, hwl⟩ : ∃ wl, W.length = wl := ⟨_, rfl⟩
      rw [hwl] at hWb k1
      have HW := Lib.hid hwl
      obtain ⟨av0, hav0⟩ : ∃ av0 : ByteArray, av0 = ⟨W.toArray⟩ := ⟨_, rfl⟩
      rw [← hav0] at k1
      have Hav0 : Hid (av0.data.toList = W) := by rw [hav0]; rfl
      have HK0 : Hid (StayK w w6 db fb rb 0 (.slice a6 wl c6) W name.data.toList e0 false W) := ⟨ow, D, E5, n, _, H6.out, Hon.out.sync.1, by omega, by omega, ST6.out, by rw [← hwl]; exact B6.out, fun he => (Hst.out he).2⟩
      clear hrow hb6 Hrd hc6 hwl hav0 hac hn5
      rw [HW.out]
      go_wp2_with fail
      go_loopw [16, 17, 18] (fun al gn i wr => ∃ (k : Nat) (g : Bool) (av : ByteArray) (L : List UInt8), k ≤ pl ∧ i = .int .i64 k ∧ gn = .bool g ∧ al = .string av ∧ Hid (av.data.toList = L) ∧ L.length ≤ 262144 * (k + 1) ∧ Hid (StayK w wr db fb rb k (.slice a6 wl c6) W name.data.toList e0 g L)) (fun _ _ i _ => pl - (intOf i).toNat)
      case atStart => exact ⟨0, false, _, W, Nat.zero_le _, rfl, rfl, rfl, Hav0, by rw [HW.out]; omega, HK0⟩
      case round =>
        obtain ⟨k, g, av, L, hk, rfl, rfl, rfl, Hav, hL, HK⟩ := hrel
        obtain ⟨ow, D, E, n, m, hd, hon, hn, ha, hs, hb6, hst⟩ := HK.out
        by_cases hlt : k < pl
        · obtain ⟨o, ho⟩ : ∃ o, ps[k]? = some o := ⟨_, List.getElem?_eq_getElem (by rw [Hpl.out]; exact hlt)⟩
          obtain ⟨A, rfl, hat0⟩ := Hps.out k o ho
          have hat := hat0.below hs.below
          have hdo := hd.does (by omega) (by omega) o hat0.hname (hat0.hb.step hs)
          have ha1 := doesM_acts m (Maps.size D) (usedD D m.files) o
          have hon1 := (hon.does (Maps.size D) (usedD D m.files) o).1
          have hk0 : (0 : Int) ≤ (k : Int) := by omega
          have hk1 : (k : Int) < (pl : Int) := by omega
          have HSt := Lib.hid hs
          have HB6 := Lib.hid hb6
          have Hat0 := Lib.hid hat0
          by_cases h4 : o.what = 4
          · obtain ⟨what, xn, ba, bc, bs, on, oka, okc, oks⟩ := o
            have c0 := hat.c0
            dsimp only at c0 h4
            subst h4
            have HK1 : Hid (StayK w wr db fb rb (k + 1) (.slice a6 wl c6) W name.data.toList e0 g L) := ⟨ow, D, E, n, m, hd, hon, by omega, by omega, hs, hb6, hst⟩
            clear ho hat0 hat hdo ha1 hd hs hon hon1 hb6 hst
            go_wp2_with fail
            go_roundw
            case rel => exact ⟨k + 1, g, av, L, by omega, by go_num, rfl, rfl, Hav, by omega, HK1⟩
            case measure => simp [intOf]; omega
          have hx4 : ∀ hne : (doesM m (Maps.size D) (usedD D m.files) o).2 ≠ 0 ∨ o.name.data.toList ≠ name.data.toList ∨ (o.what < 0 ∨ 3 < o.what), e0 = 0 → StayI W name.data.toList (doesM m (Maps.size D) (usedD D m.files) o).1 g L := fun hne he => (hst he).other hon h4 hne
          have hx3 : ∀ (h3 : o.what = 3) (hnm : o.name.data.toList = name.data.toList) (h0 : (doesM m (Maps.size D) (usedD D m.files) o).2 = 0), e0 = 0 → StayI W name.data.toList (doesM m (Maps.size D) (usedD D m.files) o).1 true L := fun h3 hnm h0 he => (hst he).remove hon h3 hnm h0
          have hx0 : ∀ (hw : o.what = 0 ∨ o.what = 1 ∨ o.what = 2) (hnm : o.name.data.toList = name.data.toList) (h0 : (doesM m (Maps.size D) (usedD D m.files) o).2 = 0), o.bs.length ≤ 262144 ∧ (e0 = 0 → StayI W name.data.toList (doesM m (Maps.size D) (usedD D m.files) o).1 g (L ++ o.bs)) := fun hw hnm h0 => ⟨does_len hon hw h0, fun he => (hst he).append hon hw hnm h0⟩
          obtain ⟨r, hr⟩ : ∃ r, doesM m (Maps.size D) (usedD D m.files) o = r := ⟨_, rfl⟩
          rw [hr] at hdo ha1 hon1 hx4 hx3 hx0
          obtain ⟨m', ec⟩ := r
          obtain ⟨what, xn, ba, bc, bs, on, oka, okc, oks⟩ := o
          dsimp only at hdo ha1 hon1 hx4 hx3 hx0 h4
          have t4 : (what == 4) = false := by rw [beq_eq_false_iff_ne]; exact h4
          have Hx4 := Lib.hid hx4
          have Hx3 := Lib.hid hx3
          have Hx0 := Lib.hid hx0
          have c0 := hat.c0
          have c1 := hat.c1
          have c2 := hat.c2
          have c3 := hat.c3
          have c4 := hat.c4
          dsimp only at c0 c1 c2 c3 c4
          unfold fld at c1 c2 c3 c4
          have Hdo := Lib.hid hdo
          have Ha1 := Lib.hid ha1
          have Hon1 := Lib.hid hon1
          clear ho hat0 hat hdo ha1 hd hs hon hon1 hb6 hst hr hx4 hx3 hx0 h4
          go_wp2_with fail
          refine Hdo.out.mono ?_
          rintro e w8 ⟨rfl, own8, D8, E8, h8, st8⟩
          have ST8 := Lib.hid (HSt.out.trans st8)
          have hb8 := HB6.out.step st8
          have key : Hid (∀ (g' : Bool) (L' : List UInt8), (e0 = 0 → StayI W name.data.toList m' g' L') → StayK w w8 db fb rb (k + 1) (.slice a6 wl c6) W name.data.toList e0 g' L') := fun g' L' hh => ⟨own8, D8, E8, n + 1, m', h8, Hon1.out, by omega, by have := Ha1.out; omega, ST8.out, hb8, hh⟩
          have hat8 := Hat0.out.below ST8.out.below
          have c0' := hat8.c0
          have c1' := hat8.c1
          have c2' := hat8.c2
          dsimp only at c0' c1' c2'
          unfold fld at c1' c2'
          have kb := conv_barg (hat8.hb.step (below_step (fun _ => none) (Below.refl _ w8)))
          dsimp only at kb
          clear c0 c1 c2 c3 c4 h8 st8 Hdo hb8 hat8
          by_cases hec : ec = 0
          rotate_left
          · have t5 : (ec == 0) = false := by rw [beq_eq_false_iff_ne]; exact hec
            have HK1 := Lib.hid (key.out g L (Hx4.out (Or.inl hec)))
            clear hec kb
            go_wp2_with fail
            go_roundw
            case rel => exact ⟨k + 1, g, av, L, by omega, by go_num, rfl, rfl, Hav, by omega, HK1⟩
            case measure => simp [intOf]; omega
          have t5 : (ec == 0) = true := by rw [beq_iff_eq]; exact hec
          by_cases hne : xn.data.toList = name.data.toList
          rotate_left
          · have t6 : (xn.toList == name.toList) = false := by rw [toL_eq, toL_eq, beq_eq_false_iff_ne]; exact hne
            have HK1 := Lib.hid (key.out g L (Hx4.out (Or.inr (Or.inl hne))))
            clear hec hne kb
            go_wp2_with fail
            go_roundw
            case rel => exact ⟨k + 1, g, av, L, by omega, by go_num, rfl, rfl, Hav, by omega, HK1⟩
            case measure => simp [intOf]; omega
          have t6 : (xn.toList == name.toList) = true := by rw [toL_eq, toL_eq, hne]; exact beq_self_eq_true _
          by_cases h3 : what = 3
          · have HK1 := Lib.hid (key.out true L (Hx3.out h3 hne hec))
            have t7 : (what == 3) = true := by rw [beq_iff_eq]; exact h3
            clear hec hne kb h3
            go_wp2_with fail
            go_roundw
            case rel => exact ⟨k + 1, true, av, L, by omega, by go_num, rfl, rfl, Hav, by omega, HK1⟩
            case measure => simp [intOf]; omega
          have t7 : (what == 3) = false := by rw [beq_eq_false_iff_ne]; exact h3
          by_cases hw0 : 0 ≤ what
          rotate_left
          · have HK1 := Lib.hid (key.out g L (Hx4.out (Or.inr (Or.inr (by omega)))))
            have t8 : decide ((0 : Int) ≤ what) = false := by simpa using hw0
            clear hec hne kb h3
            go_wp2_with fail
            go_roundw
            case rel => exact ⟨k + 1, g, av, L, by omega, by go_num, rfl, rfl, Hav, by omega, HK1⟩
            case measure => simp [intOf]; omega
          have t8 : decide ((0 : Int) ≤ what) = true := by simpa using hw0
          by_cases hw3 : what < 3
          rotate_left
          · have HK1 := Lib.hid (key.out g L (Hx4.out (Or.inr (Or.inr (by omega)))))
            have t9 : decide (what < 3) = false := by simpa using hw3
            clear hec hne kb h3
            go_wp2_with fail
            go_roundw
            case rel => exact ⟨k + 1, g, av, L, by omega, by go_num, rfl, rfl, Hav, by omega, HK1⟩
            case measure => simp [intOf]; omega
          have t9 : decide (what < 3) = true := by simpa using hw3
          obtain ⟨hbl, hsa⟩ := Hx0.out (by omega) hne hec
          have HK1 := Lib.hid (key.out g (L ++ bs) hsa)
          obtain ⟨xb, hxb⟩ : ∃ xb : ByteArray, xb = ⟨bs.toArray⟩ := ⟨_, rfl⟩
          rw [← hxb] at kb
          have hxs : xb.size = bs.length := by rw [hxb]; simp [ByteArray.size]
          have hvs : av.size = L.length := by rw [← Hav.out]; simp
          have hadd : av.size + xb.size ≤ 200000000 := by omega
          have Hxb : Hid (xb.data.toList = bs) := by rw [hxb]; rfl
          have hLL : (L ++ bs).length ≤ 262144 * (k + 1 + 1) := by rw [List.length_append]; omega
          have HLL := Lib.hid hLL
          clear hec hne h3 hsa hxb hxs hvs hLL
          go_wp2_with fail
          go_roundw
          case rel =>
            refine ⟨k + 1, g, _, L ++ bs, by omega, by go_num, rfl, rfl, ?_, HLL.out, HK1⟩
            show _ = _
            rw [← Hav.out, ← Hxb.out]
            simp
          case measure => simp [intOf]; omega
        · have hcr := hd.crash trivial (by omega) (Hk.out.step hs) (by rw [Hq.out]; omega)
          have Hcr := Lib.hid hcr
          have HSt := Lib.hid hs
          have HB6 := Lib.hid hb6
          have Hst1 := Lib.hid hst
          have hn9 : n ≤ 2000 := by omega
          clear hcr hd hs hb6 hst hon ha hn HK
          go_wp2_with fail
          refine Hcr.out.mono ?_
          rintro e w8 ⟨rfl, own8, D8, h8, st8⟩
          have ST8 := Lib.hid (HSt.out.trans st8)
          have B8 := Lib.hid (HB6.out.step st8)
          have H8 := Lib.hid h8
          have hrd := h8.read (s := name) Hnm.out
          have hrl := h8.read_le name.data.toList
          obtain ⟨r, hr⟩ : ∃ r, readM (crashM ks m) name.data.toList = r := ⟨_, rfl⟩
          rw [hr] at hrd hrl
          have Hr := Lib.hid hr
          obtain ⟨X, gc⟩ := r
          dsimp only at hrd hrl
          have Hrd := Lib.hid hrd
          clear h8 st8 hrd hr Hcr
          go_wp2_with fail
          refine Hrd.out.mono ?_
          rintro e w9 ⟨v9, rfl, hrow9, hb9⟩
          have ST9 := Lib.hid (ST8.out.trans (below_step own8 hb9))
          by_cases he0 : e0 = 0
          rotate_left
          · have t5 : (e0 != 0) = true := by rw [bne_iff_ne]; exact he0
            clear hrow9 hb9 he0
            go_wp2_with fail
            go_ret
            exact Fine.below ST9.out.below
          have t5 : (e0 != 0) = false := by rw [bne_eq_false_iff_eq]; exact he0
          obtain ⟨X', hX, hX1, hX2, hX3, hX4⟩ := (Hst1.out he0).crash ks (Hst.out he0).1
          rw [Hr.out] at hX
          injection hX with hXa hXb
          subst hXa
          subst hXb
          obtain ⟨c9, a9, rfl, hc9⟩ := row_cap hrow9
          have hb9o : BArg w9 own8 (.slice a9 X.length c9) X := BArg.of_owns hrow9 (fun b hb => H8.out.old b hb)
          obtain ⟨v10, hv10, hb10⟩ := hb9o.upto hX1 ⟨c9, a9, rfl, hc9⟩
          rw [hX2] at hb10
          have hb11 := B8.out.step (below_step own8 hb9)
          obtain ⟨xw, hxw⟩ : ∃ xw : ByteArray, xw = ⟨W.toArray⟩ := ⟨_, rfl⟩
          obtain ⟨xx, hxx⟩ : ∃ xx : ByteArray, xx = ⟨X.toArray⟩ := ⟨_, rfl⟩
          have cv1 : ∀ nq, (convert 31 9 v10).run Try.prog (w9.drewN nq) = .ok (.string xw) (w9.drewN nq) := fun nq => by
            rw [hxw]
            exact conv_barg (hb10.step (below_step own8 (below_drewN (Below.refl _ w9) nq)))
          have cv2 : ∀ nq, (convert 31 9 (.slice a6 wl c6)).run Try.prog (w9.drewN nq) = .ok (.string xw) (w9.drewN nq) := fun nq => by
            rw [hxw]
            exact conv_barg (hb11.step (below_step own8 (below_drewN (Below.refl _ w9) nq)))
          have cv3 : ∀ nq, (convert 31 9 (.slice a9 X.length c9)).run Try.prog (w9.drewN nq) = .ok (.string xx) (w9.drewN nq) := fun nq => by
            rw [hxx]
            exact conv_barg (hb9o.step (below_step own8 (below_drewN (Below.refl _ w9) nq)))
          have HF : Hid (∀ a b, Fine w (.returned (.bool true)) ((w9.drewN a).drewN b)) := fun a b => Fine.below (ST9.out.trans (below_step own8 (below_drewN (below_drewN (Below.refl _ w9) a) b))).below
          rw [HW.out] at hX1 hX2 hv10
          obtain ⟨xl, hxl⟩ : ∃ xl, X.length = xl := ⟨_, rfl⟩
          rw [hxl] at hX1 hv10 cv3 hrl ⊢
          have hlt1 : decide (xl < wl) = false := by simp; omega
          cases g with
          | true =>
            have hXW : xx = xw := by rw [hxx, hxw, hX3 rfl]
            rw [hXW] at cv3
            clear hX1 hX2 hX3 hX4 hXW hxx hxw hb9o hb10 hb11 hxl hrow9 hb9 he0 hc9
            go_wp2_with fail
            go_quiet (fail)
            go_wp2_with fail
            go_quiet (fail)
            go_wp2_with fail
            go_ret
            exact HF.out _ _
          | false =>
            obtain ⟨hXL, hXt⟩ := hX4 rfl
            have hvs : av.size = L.length := by rw [← Hav.out]; simp
            have hle : decide (xl ≤ av.size) = true := by simp; omega
            have hle2 : (xl : Int) ≤ av.size := by omega
            have hsl : ∀ W' : World, (Instr.slice 9 (.string av) none (some (.int .i64 xl)) none).run Try.prog W' = .ok (.string xx) W' := fun W' => by
              rw [str_upto W' av xl (by omega), Hav.out, ← hxl, hXt, hxx]
            clear hX1 hX2 hX3 hX4 hXL hXt hvs hxx hxw hb9o hb10 hb11 hxl hrow9 hb9 he0 hc9
            go_wp2_with fail
            go_quiet (fail)
            go_wp2_with fail
            go_quiet (fail)
            go_wp2_with fail
            go_ret
            exact HF.out _ _

end Go.Proofs.Ytgkhnimdlkdaaaa

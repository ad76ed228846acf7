/- The statement DeviceTwice, its walk. -/
import Derived.Test.YtgkhnimdlkdaaaaDV
namespace Go.Proofs.Ytgkhnimdlkdaaaa
open Go.RowKit Go.Lib Go.Maps Go.ChangeMaps Go.Sort
open Go.Proofs (encStr)

def sortB (ss : List (List UInt8)) : List (List UInt8) := ss.mergeSort (fun x y => decide (x ≤ y))

/-- A device behind k calls of does. -/
def DoneK (w wr : World) (db fb rb k : Nat) : Prop := ∃ (ow : Owner) (D E : DataW Unit) (n : Nat) (m : DevM), Dev True wr ow db fb rb D E n m ∧ n ≤ 64 + k ∧ m.acts ≤ k ∧ Step (fun _ => none) ow w wr

set_option maxHeartbeats 8000000 in
set_option maxRecDepth 100000 in
theorem twice_walk (la : Option Addr) (lc : Nat) (ls : List LogV) (oa : Option Addr) (oc : Nat) (os : List OpV) (ka : Option Addr) (kc : Nat) (ks : List (ByteArray × Int)) (ja : Option Addr) (jc : Nat) (js : List (ByteArray × Int)) (w : World)
    (hls : LRow w la ls) (hl : ls.length ≤ maxLen) (hos : ORow w oa os) (hol : os.length ≤ maxLen) (hkl : ks.length ≤ maxLen) (hk : KArg w (fun _ => none) (.slice ka ks.length kc) ks) (hjl : js.length ≤ maxLen) (hj : KArg w (fun _ => none) (.slice ja js.length jc) js) :
    Calls Try.prog 9 #[.slice la ls.length lc, .slice oa os.length oc, .slice ka ks.length kc, .slice ja js.length jc] w (Fine w) := by
  have Hls := Lib.hid hls
  have Hos := Lib.hid hos
  have Hk := Lib.hid hk
  have Hj := Lib.hid hj
  have hl' : Hid (ls.length ≤ maxLen) := hl
  have hol' : Hid (os.length ≤ maxLen) := hol
  have hof := fun w1 (h : LRow w1 la ls) => of_calls 4194304 la lc ls w1 (by omega) h hl'.out
  have hgl := fun w1 (h : LRow w1 la ls) => greatLogs_calls la lc ls w1 h hl'.out
  have hgr := fun w1 (h : ORow w1 oa os) => great_calls oa oc os w1 h hol'.out
  obtain ⟨l, hll⟩ : ∃ l, ls.length = l := ⟨_, rfl⟩
  obtain ⟨ol, hool⟩ : ∃ ol, os.length = ol := ⟨_, rfl⟩
  obtain ⟨q, hq⟩ : ∃ q, ks.length = q := ⟨_, rfl⟩
  obtain ⟨p, hp⟩ : ∃ p, js.length = p := ⟨_, rfl⟩
  rw [hll] at hl hof hgl ⊢
  rw [hool] at hol hgr ⊢
  rw [hq] at hkl Hk ⊢
  rw [hp] at hjl Hj ⊢
  have Hof := Lib.hid hof
  have Hgl := Lib.hid hgl
  have Hgr := Lib.hid hgr
  have Hl := Lib.hid hll
  have Hol := Lib.hid hool
  have Hq := Lib.hid hq
  have Hp := Lib.hid hp
  unfold maxLen at hl hol hkl hjl
  clear hls hos hk hj hll hool hq hp hof hgl hgr
  go_enter Try.func9, Try.ntmps9
  go_wp2_with fail
  refine (head_calls w).mono ?_
  rintro e w1 ⟨rfl, hb1⟩
  have Hb1 := Lib.hid hb1
  have Hls1 := Lib.hid (Hls.out.below hb1)
  clear hb1
  go_wp2_with fail
  refine (Hof.out w1 Hls1.out).mono ?_
  rintro e w2 (⟨rfl, hb2, _⟩ | ⟨db, fb, rb, own2, D2, n2, rfl, hok, h2, hn2, st2⟩)
  · have Hb2 := Lib.hid hb2
    clear hb2
    go_wp2_with fail
    go_ret
    exact Fine.below (Hb1.out.trans (Hb2.out.mono Hb1.out.size))
  have H2 := Lib.hid h2
  have ST2 := Lib.hid ((below_step (fun _ => none) Hb1.out).trans st2)
  clear hok h2 st2
  go_wp2_with fail
  refine (Hgr.out w2 (Hos.out.below ST2.out.below)).mono ?_
  rintro e w3 ⟨g, rfl, hg300, hb3⟩
  have H3 := Lib.hid (H2.out.below hb3)
  have ST3 := Lib.hid (ST2.out.trans (below_step own2 hb3))
  have Hg300 := Lib.hid hg300
  clear hb3 hg300
  cases g with
  | true =>
    go_wp2_with fail
    go_ret
    exact Fine.below ST3.out.below
  | false =>
  have hol3 : ol ≤ 300 := by have := Hg300.out rfl; first | exact this | (rw [Hol.out] at this; exact this)
  go_wp2_with fail
  refine (Hgl.out w3 (Hls.out.below ST3.out.below)).mono ?_
  rintro e w4 ⟨g, rfl, hb4⟩
  have H4 := Lib.hid (H3.out.below hb4)
  have ST4 := Lib.hid (ST3.out.trans (below_step own2 hb4))
  clear hb4
  cases g with
  | true =>
    go_wp2_with fail
    go_ret
    exact Fine.below ST4.out.below
  | false =>
  by_cases hkb : 100 < q
  · have d2 : decide ((100 : Int) < (q : Int)) = true := by simp; omega
    go_wp2_with fail
    go_ret
    exact Fine.below ST4.out.below
  have d2 : decide ((100 : Int) < (q : Int)) = false := by simp; omega
  by_cases hjb : 100 < p
  · have d3 : decide ((100 : Int) < (p : Int)) = true := by simp; omega
    go_wp2_with fail
    go_ret
    exact Fine.below ST4.out.below
  have d3 : decide ((100 : Int) < (p : Int)) = false := by simp; omega
  have HD0 : Hid (DoneK w w4 db fb rb 0) := ⟨own2, D2, _, n2, _, H4.out, by omega, by show (0 : Int) ≤ _; omega, ST4.out⟩
  clear hn2
  go_wp2_with fail
  go_loopw [11] (fun i wr => ∃ k : Nat, k ≤ ol ∧ i = .int .i64 k ∧ Hid (DoneK w wr db fb rb k)) (fun i _ => ol - (intOf i).toNat)
  case atStart => exact ⟨0, Nat.zero_le _, rfl, HD0⟩
  case round =>
    obtain ⟨k, hk, rfl, HD⟩ := hrel
    obtain ⟨ow, D, E, n, m, hd, hn, ha, hs⟩ := HD.out
    by_cases hlt : k < ol
    · obtain ⟨o, ho⟩ : ∃ o, os[k]? = some o := ⟨_, List.getElem?_eq_getElem (by rw [Hol.out]; exact hlt)⟩
      obtain ⟨A, rfl, hat0⟩ := Hos.out k o ho
      have hat := hat0.below hs.below
      have hdo := hd.does (by omega) (by omega) o hat0.hname (hat0.hb.step hs)
      have ha1 := doesM_acts m (Maps.size D) (usedD D m.files) o
      obtain ⟨what, name, ba, bc, bs, on, oka, okc, oks⟩ := o
      have c0 := hat.c0
      have c1 := hat.c1
      have c2 := hat.c2
      have c3 := hat.c3
      have c4 := hat.c4
      dsimp only at c0 c1 c2 c3 c4
      unfold fld at c1 c2 c3 c4
      have Hdo := Lib.hid hdo
      have Ha1 := Lib.hid ha1
      have HSt := Lib.hid hs
      have hk0 : (0 : Int) ≤ (k : Int) := by omega
      have hk1 : (k : Int) < (ol : Int) := by omega
      clear ho hat0 hat hdo ha1 hd hs
      go_wp2_with fail
      refine Hdo.out.mono ?_
      rintro e w5 ⟨rfl, own5, D5, E5, h5, st5⟩
      have HD5 : Hid (DoneK w w5 db fb rb (k + 1)) := ⟨own5, D5, E5, n + 1, _, h5, by omega, by have := Ha1.out; omega, HSt.out.trans st5⟩
      clear c0 c1 c2 c3 c4 h5 st5 Hdo
      go_wp2_with fail
      go_roundw
      case rel => exact ⟨k + 1, by omega, by go_num, HD5⟩
      case measure => simp [intOf]; omega
    · have hn5 : n ≤ 1000 := by omega
      have hcr := hd.crash trivial (by omega) (Hk.out.step hs) (by rw [Hq.out]; omega)
      have HSt := Lib.hid hs
      have Hcr := Lib.hid hcr
      have ha5 : m.acts ≤ 1000 := by omega
      clear hcr hd hs HD HD0 ha
      go_wp2_with fail
      refine Hcr.out.mono ?_
      rintro e w5 ⟨rfl, own5, D5, h5, st5⟩
      have H5 := Lib.hid h5
      have ST5 := Lib.hid (HSt.out.trans st5)
      clear h5 st5 Hcr
      go_wp2_with fail
      refine (H5.out.names (by omega)).mono ?_
      rintro e w6 ⟨v6, ss, rfl, hperm, hrow, hb6⟩
      have hlen := H5.out.names_len hperm
      have H6 := Lib.hid (H5.out.below hb6)
      have ST6 := Lib.hid (ST5.out.trans (below_step own5 hb6))
      have hsl : (sortB ss).length = ss.length := List.length_mergeSort ss
      have hrow' : w6.ownsRow w5.heap.size 9 1 v6 (sortB ss).length ((sortB ss).map encStr) := by rw [hsl]; exact hrow
      obtain ⟨a6, c6, rfl, hnr⟩ := NRow.of_owns (own := own5) hrow' (fun b hb => H5.out.old b hb)
      have HN6 := Lib.hid hnr
      have Hperm := Lib.hid hperm
      have hbig : (sortB ss).length ≤ 1000 := by rw [hsl, hlen]; have := H5.out.cnt; omega
      obtain ⟨nn, hnn⟩ : ∃ nn, (sortB ss).length = nn := ⟨_, rfl⟩
      rw [hnn] at hbig ⊢
      have Hnn := Lib.hid hnn
      have hus := H6.out.used (by omega)
      have Hus := Lib.hid hus
      clear hperm hrow hb6 hlen hsl hrow' hnr hnn hus H5
      go_wp2_with fail
      refine Hus.out.mono ?_
      rintro e w7 ⟨rfl, hb7⟩
      have H7 := Lib.hid (H6.out.below hb7)
      have ST7 := Lib.hid (ST6.out.trans (below_step own5 hb7))
      have HN7 := Lib.hid (HN6.out.step (below_step own5 hb7))
      have hcr := H7.out.crash trivial (by omega) (Hj.out.step ST7.out) (by rw [Hp.out]; omega)
      rw [crash_crash] at hcr
      have Hcr := Lib.hid hcr
      obtain ⟨u, hu⟩ : ∃ u, usedD D5 (crashM ks m).files = u := ⟨_, rfl⟩
      rw [hu]
      have Hu := Lib.hid hu
      clear hb7 hcr Hus HN6 hu
      go_wp2_with fail
      refine Hcr.out.mono ?_
      rintro e w8 ⟨rfl, own8, D8, h8, st8⟩
      have HN8 := Lib.hid (HN7.out.step st8)
      have ST8 := Lib.hid (ST7.out.trans st8)
      have hsy := h8.sync (by show m.acts ≤ _; omega)
      rw [(sync_crash ks m).1] at hsy
      have Hsy := Lib.hid hsy
      clear h8 st8 Hcr hsy HN7
      go_wp2_with fail
      refine Hsy.out.mono ?_
      rintro e w9 ⟨rfl, E9, h9, st9⟩
      have HN9 := Lib.hid (HN8.out.step st9)
      have ST9 := Lib.hid (ST8.out.trans st9)
      have H9 := Lib.hid h9
      obtain ⟨hp9, hz9, hu9⟩ := H7.out.same h9 (sync_crash ks m).2
      have Hp9 := Lib.hid hp9
      have Hu9 := Lib.hid hu9
      clear h9 st9 Hsy HN8 hp9 hz9 hu9
      go_wp2_with fail
      refine (H9.out.names (by omega)).mono ?_
      rintro e w10 ⟨v10, tt, rfl, hperm, hrow, hb10⟩
      have H10 := Lib.hid (H9.out.below hb10)
      have ST10 := Lib.hid (ST9.out.trans (below_step own8 hb10))
      have HN10 := Lib.hid (HN9.out.step (below_step own8 hb10))
      have hts : sortB tt = sortB ss := mergeSort_of_perm ((hperm.trans Hp9.out).trans Hperm.out.symm)
      have htl : (sortB tt).length = tt.length := List.length_mergeSort tt
      have hrow' : w10.ownsRow w9.heap.size 9 1 v10 (sortB ss).length ((sortB ss).map encStr) := by rw [← hts, htl]; exact hrow
      obtain ⟨a10, c10, rfl, hnr⟩ := NRow.of_owns (own := own8) hrow' (fun b hb => H9.out.old b hb)
      have HM10 := Lib.hid hnr
      rw [Hnn.out]
      clear hperm hrow hb10 hts htl hrow' hnr H9 HN9
      go_wp2_with fail
      go_loopw [16] (fun i wr => ∃ j x : Nat, j ≤ nn ∧ i = .int .i64 j ∧ wr = w10.drewN x) (fun i _ => nn - (intOf i).toNat)
      case atStart => exact ⟨0, 0, Nat.zero_le _, rfl, rfl⟩
      case round =>
        obtain ⟨j, x, hj, rfl, rfl⟩ := hrel
        by_cases hlt2 : j < nn
        · obtain ⟨s, hs⟩ : ∃ s, (sortB ss)[j]? = some s := ⟨_, List.getElem?_eq_getElem (by rw [Hnn.out]; exact hlt2)⟩
          obtain ⟨A6, rfl, _, g6⟩ := HN10.out j s hs
          obtain ⟨A10, rfl, _, g10⟩ := HM10.out j s hs
          have g6' : w10.cell? (A6.add j) = some (.string ⟨s.toArray⟩) := g6
          have g10' : w10.cell? (A10.add j) = some (.string ⟨s.toArray⟩) := g10
          have hd5 : decide (nn ≤ j) = false := by simp; omega
          have hj2 : (j : Int) < nn := by omega
          clear hs g6 g10
          go_wp2_with fail
          go_quiet (fail)
          go_wp2_with fail
          go_roundw
          case rel => exact ⟨j + 1, _, by omega, by go_num, rfl⟩
          case measure => simp [intOf]; omega
        · have H11 := Lib.hid (H10.out.below (below_drewN (Below.refl _ w10) x))
          have hus := H11.out.used (by omega)
          rw [Hu9.out, Hu.out] at hus
          have Hus := Lib.hid hus
          have ST11 := Lib.hid (ST10.out.trans (below_step own8 (below_drewN (Below.refl _ w10) x)))
          clear hus
          go_wp2_with fail
          refine Hus.out.mono ?_
          rintro e w12 ⟨rfl, hb12⟩
          have ST12 := Lib.hid (ST11.out.trans (below_step own8 hb12))
          clear hb12
          go_wp2_with fail
          go_ret
          exact Fine.below ST12.out.below

end Go.Proofs.Ytgkhnimdlkdaaaa

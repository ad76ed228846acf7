/- The statement DeviceRemoved, its walk: the calls. -/
import Derived.Test.YtgkhnimdlkdaaaaDS
import Derived.Laws.IdiomStrings
namespace Go.Proofs.Ytgkhnimdlkdaaaa
open Go.RowKit Go.Lib Go.Maps Go.ChangeMaps

/-- 'string(b)' of bytes that came in. -/
theorem conv_barg {w : World} {own : Owner} {v : Value} {d : List UInt8} (h : BArg w own v d) : (convert 31 9 v).run Try.prog w = .ok (.string ⟨d.toArray⟩) w := by
  rcases h with ⟨rfl, rfl⟩ | ⟨A, c, rfl, _, hc⟩
  · exact run_convert_bytes_nil w 31 5 Try.underlying31 Try.underlying5 0 0 9 Try.underlying9
  · exact run_convert_bytes_back w 31 9 5 A c d Try.underlying31 Try.underlying5 Try.underlying9 (fun j hj => hc j _ (List.getElem?_eq_getElem hj))

theorem Fine.below {w w' : World} (h : Below w.heap.size w w') : Fine w (.returned (.bool true)) w' := ⟨rfl, h⟩

set_option maxHeartbeats 4000000 in
set_option maxRecDepth 100000 in
theorem removed_walk (la : Option Addr) (lc : Nat) (ls : List LogV) (v : Int) (ba : Option Addr) (bc : Nat) (bs : List UInt8) (sy : Bool) (ka : Option Addr) (kc : Nat) (ks : List (ByteArray × Int)) (w : World)
    (hls : LRow w la ls) (hl : ls.length ≤ maxLen) (hv0 : 0 ≤ v) (hv1 : v ≤ 255) (hbl : bs.length ≤ maxLen) (hb : BArg w (fun _ => none) (.slice ba bs.length bc) bs) (hkl : ks.length ≤ maxLen) (hk : KArg w (fun _ => none) (.slice ka ks.length kc) ks) :
    Calls Try.prog 10 #[.slice la ls.length lc, .int .u8 v, .slice ba bs.length bc, .bool sy, .slice ka ks.length kc] w (Fine w) := by
  have Hls := Lib.hid hls
  have Hb := Lib.hid hb
  have Hk := Lib.hid hk
  have hl' : Hid (ls.length ≤ maxLen) := hl
  have hof := fun w1 (h : LRow w1 la ls) => of_calls 4194304 la lc ls w1 (by omega) h hl'.out
  have hgl := fun w1 (h : LRow w1 la ls) => greatLogs_calls la lc ls w1 h hl'.out
  obtain ⟨l, hll⟩ : ∃ l, ls.length = l := ⟨_, rfl⟩
  obtain ⟨bl, hbl'⟩ : ∃ bl, bs.length = bl := ⟨_, rfl⟩
  obtain ⟨q, hq⟩ : ∃ q, ks.length = q := ⟨_, rfl⟩
  rw [hll] at hl hof hgl ⊢
  rw [hbl'] at hbl Hb ⊢
  rw [hq] at hkl Hk ⊢
  have Hof := Lib.hid hof
  have Hgl := Lib.hid hgl
  have Hl := Lib.hid hll
  have Hbl := Lib.hid hbl'
  have Hq := Lib.hid hq
  unfold maxLen at hl hbl hkl
  clear hls hb hk hll hbl' hq hof hgl
  go_enter Try.func10, Try.ntmps10
  go_wp2_with fail
  refine (head_calls w).mono ?_
  rintro e w1 ⟨rfl, hb1⟩
  have Hb1 := Lib.hid hb1
  have Hls1 := Lib.hid (Hls.out.below hb1)
  clear hb1
  go_wp2_with fail
  refine (Hof.out w1 Hls1.out).mono ?_
  rintro e w2 (⟨rfl, hb2, _⟩ | ⟨db, fb, rb, own2, D2, n2, rfl, hok, h2, hn2, st2⟩)
  · have Hb2 := Lib.hid hb2
    clear hb2
    go_wp2_with fail
    go_ret
    exact Fine.below (Hb1.out.trans (Hb2.out.mono Hb1.out.size))
  · have Hok := Lib.hid hok
    have H2 := Lib.hid h2
    have ST2 := Lib.hid ((below_step (fun _ => none) Hb1.out).trans st2)
    clear hok h2 st2
    go_wp2_with fail
    refine (Hgl.out w2 (Hls.out.below ST2.out.below)).mono ?_
    rintro e w3 ⟨g, rfl, hb3⟩
    have H3 := Lib.hid (H2.out.below hb3)
    have ST3 := Lib.hid (ST2.out.trans (below_step own2 hb3))
    clear hb3
    cases g with
    | true =>
      go_wp2_with fail
      go_ret
      exact Fine.below ST3.out.below
    | false =>
      by_cases h0 : l = 0
      · subst h0
        go_wp2_with fail
        go_ret
        exact Fine.below ST3.out.below
      · have d0 : ((l : Int) == 0) = false := by simpa using h0
        by_cases hbig : 20000 < bl
        · have d1 : decide ((20000 : Int) < (bl : Int)) = true := by simp; omega
          go_wp2_with fail
          go_ret
          exact Fine.below ST3.out.below
        · have d1 : decide ((20000 : Int) < (bl : Int)) = false := by simp; omega
          by_cases hkb : 100 < q
          · have d2 : decide ((100 : Int) < (q : Int)) = true := by simp; omega
            go_wp2_with fail
            go_ret
            exact Fine.below ST3.out.below
          · have d2 : decide ((100 : Int) < (q : Int)) = false := by simp; omega
            obtain ⟨i, hi⟩ : ∃ i : Nat, v % (l : Int) = (i : Int) := ⟨(v % (l : Int)).toNat, by have := Int.emod_nonneg v (b := (l : Int)) (by omega); omega⟩
            have hil : i < l := by have := Int.emod_lt_of_pos v (b := (l : Int)) (by omega); omega
            obtain ⟨x, hx⟩ : ∃ x, ls[i]? = some x := ⟨_, List.getElem?_eq_getElem (by rw [Hl.out]; exact hil)⟩
            have Hx := Lib.hid hx
            obtain ⟨A, rfl, hat⟩ := (Hls.out.below ST3.out.below) i x hx
            obtain ⟨name, da, dc, ds⟩ := x
            have c0 := hat.c0
            have c1 := hat.c1
            dsimp only at c0 c1
            unfold fld at c1
            have Hat := Lib.hid hat
            have hrem : (v.tmod (l : Int)) = (i : Int) := by rw [Int.tmod_eq_emod_of_nonneg hv0]; exact hi
            have hho : own2 w3.heap.size = none := H3.out.old _ (Nat.le_refl _)
            have H4 := Lib.hid (H3.out.alloc (.cells #[.string name, .slice da ds.length dc] 55))
            have ST4 := Lib.hid (ST3.out.trans (alloc_step own2 w3 (.cells #[.string name, .slice da ds.length dc] 55)))
            have hlt4 : w3.heap.size < (w3.alloc (.cells #[.string name, .slice da ds.length dc] 55)).heap.size := by simp
            have c4 : (w3.alloc (.cells #[.string name, .slice da ds.length dc] 55)).cell? ⟨w3.heap.size, 0, none⟩ = some (.string name) := cell_of_blk (heap_alloc_new w3 _) rfl
            have c5 : (w3.alloc (.cells #[.string name, .slice da ds.length dc] 55)).cell? ⟨w3.heap.size, 1, none⟩ = some (.slice da ds.length dc) := cell_of_blk (heap_alloc_new w3 _) rfl
            have Hho := Lib.hid hho
            have C4 := Lib.hid c4
            have C5 := Lib.hid c5
            have Hlt4 := Lib.hid hlt4
            have hnm := Hat.out.hname
            have Hnm : Hid (name.size ≤ maxLen) := hnm
            have Hnk : Hid (nameOk name.data.toList = true) := (Hok.out.2 i _ Hx.out).1
            have hrm := H4.out.remove (s := name) (by omega) (by show (0 : Int) ≤ _; omega) Hnm.out
            have er := remove_of (room := 4194304) Hok.out Hx.out
            unfold nmOf at er
            rw [er] at hrm
            dsimp only at hrm
            have Hrm := Lib.hid hrm
            clear hat hx hho hlt4 hnm hrm er
            go_wp2_with fail
            generalize w3.alloc (.cells #[.string name, .slice da ds.length dc] 55) = w4 at *
            refine Hrm.out.mono ?_
            rintro e w5 ⟨rfl, own5, D5, E5, h5, st5⟩
            have H5 := Lib.hid h5
            have ST5 := Lib.hid st5
            clear h5 st5 Hrm
            cases sy with
            | true =>
              have hsy := H5.out.sync (by show (1 : Int) ≤ _; omega)
              rw [rsync] at hsy
              have Hsy := Lib.hid hsy
              clear hsy c4 c5
              go_wp2_with fail
              refine Hsy.out.mono ?_
              rintro e w6 ⟨rfl, E6, h6, st6⟩
              have H6 := Lib.hid h6
              have ST6 := Lib.hid (ST5.out.trans st6)
              have hcr := h6.crash trivial (by omega) (Hk.out.step (ST4.out.trans (ST5.out.trans st6))) (by rw [Hq.out]; omega)
              have Hcr := Lib.hid hcr
              clear h6 st6 hcr Hsy
              go_wp2_with fail
              refine Hcr.out.mono ?_
              rintro e w7 ⟨rfl, own7, D7, h7, st7⟩
              have H7 : Hid (Dev True w7 own7 db fb rb D7 (.map []) n2 (rscM ks 4194304 ls ⟨name, da, dc, ds⟩)) := h7
              have ST7 := Lib.hid (ST6.out.trans st7)
              have c7 : w7.cell? ⟨w3.heap.size, 0, none⟩ = some (.string name) := ST7.out.fr.cell C4.out (by simp [Hho.out])
              have hrd := H7.out.read (s := name) Hnm.out
              have er := rsc_read (ks := ks) (room := 4194304) (ls := ls) (x := ⟨name, da, dc, ds⟩) Hnk.out
              unfold nmOf at er
              rw [er] at hrd
              have Hrd := Lib.hid hrd
              have hsz := rsc_size H7.out Hok.out Hx.out
              rw [Hl.out] at hsz
              have Hsz := Lib.hid hsz
              clear h7 st7 Hcr hrd er hsz
              go_wp2_with fail
              refine Hrd.out.mono ?_
              rintro e w8 ⟨v8, rfl, _, hb8⟩
              have H8 := Lib.hid (H7.out.below hb8)
              have ST8 := Lib.hid (ST7.out.trans (below_step own7 hb8))
              clear hb8 c7
              go_wp2_with fail
              refine (H8.out.names (by omega)).mono ?_
              rintro e w9 ⟨v9, ss, rfl, hperm, hrow, hb9⟩
              have hlen := H8.out.names_len hperm
              rw [Hsz.out] at hlen
              obtain ⟨a9, c9, rfl⟩ := row_slice hrow
              have ST9 := Lib.hid (ST8.out.trans (below_step own7 hb9))
              have hss : (ss.length : Int) = (l : Int) - 1 := by omega
              generalize ss.length = k9 at *
              clear hperm hrow hb9 hlen
              go_wp2_with fail
              go_ret
              exact Fine.below (ST4.out.trans ST9.out).below
            | false =>
              have hap := H5.out.append (by omega) (by show (1 : Int) ≤ _; omega) Hnm.out (Hb.out.step (ST4.out.trans ST5.out))
              obtain ⟨r, hr⟩ : ∃ r, appendM (rmM 4194304 ls ⟨name, da, dc, ds⟩) (Maps.size D5) (usedD D5 (rmM 4194304 ls ⟨name, da, dc, ds⟩).files) name.data.toList bs = r := ⟨_, rfl⟩
              have hg := rm_append 4194304 ls ⟨name, da, dc, ds⟩ (Maps.size D5) (usedD D5 (rmM 4194304 ls ⟨name, da, dc, ds⟩).files) name.data.toList bs
              rw [hr] at hap hg
              have hg1 : r.1.gone name.data.toList = some ds := by rw [hg]; exact setF_same (fun _ => none) (nmOf ⟨name, da, dc, ds⟩) (some ds)
              have Hg := Lib.hid hg1
              have Hap := Lib.hid hap
              have c5a : w5.cell? ⟨w3.heap.size, 0, none⟩ = some (.string name) := ST5.out.fr.cell C4.out (by simp [Hho.out])
              clear hap hg hg1 hr c4 c5
              go_wp2_with fail
              refine Hap.out.mono ?_
              rintro e w6 ⟨rfl, own6, D6, h6, st6⟩
              have ST6 := Lib.hid (ST5.out.trans st6)
              have hcr := h6.crash trivial (by omega) (Hk.out.step (ST4.out.trans (ST5.out.trans st6))) (by rw [Hq.out]; omega)
              have Hcr := Lib.hid hcr
              clear h6 st6 hcr Hap c5a
              go_wp2_with fail
              refine Hcr.out.mono ?_
              rintro e w7 ⟨rfl, own7, D7, h7, st7⟩
              have H7 := Lib.hid h7
              have ST7 := Lib.hid (ST6.out.trans st7)
              have c7 : w7.cell? ⟨w3.heap.size, 0, none⟩ = some (.string name) := ST7.out.fr.cell C4.out (by simp [Hho.out])
              have hrd := H7.out.read (s := name) Hnm.out
              rw [read_back Hnk.out Hg.out] at hrd
              have Hrd := Lib.hid hrd
              clear h7 st7 Hcr hrd
              go_wp2_with fail
              refine Hrd.out.mono ?_
              rintro e w8 ⟨v8, rfl, hrow, hb8⟩
              have ST8 := Lib.hid (ST7.out.trans (below_step own7 hb8))
              have c8 : w8.cell? ⟨w3.heap.size, 1, none⟩ = some (.slice da ds.length dc) := ST8.out.fr.cell C5.out (by simp [Hho.out])
              have k1 := conv_row hrow
              obtain ⟨A1, hA1, hat1⟩ := Hls.out i _ Hx.out
              have k2 := conv_barg (hat1.hb.step (ST4.out.trans ST8.out))
              dsimp only at k2
              clear hrow hb8 c7 hat1 hA1
              go_wp2_with fail
              go_ret
              exact Fine.below (ST4.out.trans ST8.out).below

end Go.Proofs.Ytgkhnimdlkdaaaa

/- The document's Fits. -/
import Derived.Test.YtppgecbjdkfohaaECf
namespace Go.Proofs.Ytppgecbjdkfohaa
open Go.RowKit Go.Lib Go.Op

set_option maxHeartbeats 4000000 in
set_option maxRecDepth 100000 in
theorem rfits_calls (sa : Option Addr) (sc : Nat) (xs : List SIn) (t d s : Int) (n : ByteArray) (a : Option Addr) (c : Nat) (vs : List VIn) (w : World) (hs : SRow w sa xs) (hsl : xs.length ≤ maxLen) (hn : n.size ≤ maxLen) (hv : VRow w a vs) (hl : vs.length ≤ maxLen) :
    Calls Try.prog 25 #[.slice sa xs.length sc, evV t d s n (.slice a vs.length c)] w fun e w' => e = .returned (.int .i64 (if rightE (pe t d s n vs) then fitsI xs n vs else 1)) ∧ Below w.heap.size w w' := by
  have hb0 : Below w.heap.size w (w.alloc (.cells #[.int .i64 t, .int .i64 d, .int .i64 s, .string n, .slice a vs.length c] 25)) := (Below.refl _ _).alloc (Nat.le_refl _) _
  have HR := Lib.hid (rrightE_calls t d s n a c vs (w.alloc (.cells #[.int .i64 t, .int .i64 d, .int .i64 s, .string n, .slice a vs.length c] 25)) hn (hv.below hb0) hl)
  have HFd := Lib.hid (fun W (hb : Below w.heap.size w W) => rfind_calls sa sc xs n W (hs.below hb) hsl)
  have HV := Lib.hid hv
  have HSl : Hid (∀ x ∈ xs, x.fs.length ≤ maxLen) := fun x hx => by
    obtain ⟨j, hj, rfl⟩ := List.mem_iff_getElem.1 hx
    obtain ⟨_, _, _, _, _, h, _⟩ := hs j _ (List.getElem?_eq_getElem hj)
    exact h
  obtain ⟨l, hll⟩ : ∃ l, vs.length = l := ⟨_, rfl⟩
  have Hl := Lib.hid hll
  rw [hll] at HR hl hb0 ⊢
  have HB0 := Lib.hid hb0
  have x4 : (w.alloc (.cells #[.int .i64 t, .int .i64 d, .int .i64 s, .string n, .slice a l c] 25)).cell? ⟨w.heap.size, 4, none⟩ = some (.slice a l c) := by simp
  have x3 : (w.alloc (.cells #[.int .i64 t, .int .i64 d, .int .i64 s, .string n, .slice a l c] 25)).cell? ⟨w.heap.size, 3, none⟩ = some (.string n) := by simp
  have HX3 := Lib.hid x3
  have HX4 := Lib.hid x4
  unfold maxLen at hl
  clear hv hs hll hb0 x3 x4
  cases hr : rightE (pe t d s n vs) with
  | false =>
    rw [hr] at HR
    go_enter Try.func25, Try.ntmps25
    go_wp2_with (go_at_call 55; (with_reducible refine HR.out.mono ?_); rintro e w1 ⟨rfl, hb1⟩)
    go_ret
    exact ⟨rfl, HB0.out.trans (hb1.mono HB0.out.size)⟩
  | true =>
  rw [hr] at HR
  go_enter Try.func25, Try.ntmps25
  go_wp2_with (go_at_call 55; (with_reducible refine HR.out.mono ?_); rintro e w1 ⟨rfl, hb1⟩; have x3 := ekeep hb1 HX3.out; have x4 := ekeep hb1 HX4.out)
  have HB1 : Hid (Below w.heap.size w w1) := HB0.out.trans (hb1.mono HB0.out.size)
  refine (HFd.out _ HB1.out).mono ?_
  rintro e w2 ⟨rn, ra, rc, rf, rfl, hrn, hrf, hfr, hb2⟩
  have HB2 : Hid (Below w.heap.size w w2) := HB1.out.trans (hb2.mono HB1.out.size)
  have y4 := ekeep hb2 x4
  have HFr := Lib.hid hfr
  clear x3 x4 hb1 hb2 hfr HR HFd HX3 HX4
  cases hf : xs.findIdx? (fun x => nameIs n x.name) with
  | none =>
    have HN := Lib.hid (fitsI_none (vs := vs) hf)
    have hsome : (findS xs n).isSome = false := by rw [findS_none hf]; rfl
    rw [hsome]
    clear hf hrn hrf hsome
    go_wp2
    go_ret
    exact ⟨by rw [HN.out]; rfl, HB2.out.alloc HB2.out.size _⟩
  | some k =>
    obtain ⟨x, hx, _, _⟩ := find_at hf
    have HN := Lib.hid (fitsI_some (vs := vs) hf hx)
    have hsome : (findS xs n).isSome = true := by rw [findS_some hf hx]; rfl
    rw [findS_some hf hx] at hrf
    have hrf : rf = x.fs := hrf
    have HLm := Lib.hid (HSl.out x (List.mem_of_getElem? hx))
    rw [← hrf] at HN HLm
    rw [hsome]
    clear hf hrn hrf hsome hx HSl
    obtain ⟨m, hmm⟩ : ∃ m, rf.length = m := ⟨_, rfl⟩
    have Hm := Lib.hid hmm
    rw [hmm] at HLm ⊢
    have hlm9 := HLm.out
    unfold maxLen at hlm9
    clear hmm
    have y4' := ekeepAl (.cells #[.string rn, .slice ra m rc] 31) y4
    by_cases hlm : l = m
    · subst hlm
      have hbx : Below w2.heap.size w2 (w2.alloc (.cells #[.string rn, .slice ra l rc] 31)) := (Below.refl _ _).alloc (Nat.le_refl _) _
      have HF3 := Lib.hid (HFr.out.below hbx)
      have HY4 := Lib.hid (ekeep hbx y4)
      have HB3 : Hid (Below w.heap.size w (w2.alloc (.cells #[.string rn, .slice ra l rc] 31))) := HB2.out.trans (hbx.mono HB2.out.size)
      have HZ1 : Hid ((w2.alloc (.cells #[.string rn, .slice ra l rc] 31)).cell? ⟨w2.heap.size, 1, none⟩ = some (.slice ra l rc)) := new_cell _ _ _ rfl rfl
      clear hbx
      go_wp2
      generalize w2.alloc (.cells #[.string rn, .slice ra l rc] 31) = w3 at *
      generalize w2.heap.size = SB at *
      clear y4 y4'
      go_loopw [7] (fun i wr => ∃ k : Nat, i = .int .i64 k ∧ k ≤ l ∧ Hid (KindsTo vs rf k) ∧ Hid (Below w3.heap.size w3 wr)) (fun i _ => l - (intOf i).toNat)
      case atStart => exact ⟨0, rfl, Nat.zero_le _, fun j x y hj => by omega, Below.refl _ _⟩
      case round =>
        obtain ⟨k, rfl, hk, HK, HB4⟩ := hrel
        have y4 := ekeep HB4.out HY4.out
        have z1 := ekeep HB4.out HZ1.out
        have HBw : Hid (Below w.heap.size w wr) := HB3.out.trans (HB4.out.mono HB3.out.size)
        by_cases hlt : k < l
        · obtain ⟨x, hx⟩ : ∃ x, vs[k]? = some x := ⟨_, List.getElem?_eq_getElem (by rw [Hl.out]; exact hlt)⟩
          obtain ⟨y, hy⟩ : ∃ y, rf[k]? = some y := ⟨_, List.getElem?_eq_getElem (by rw [Hm.out]; exact hlt)⟩
          obtain ⟨A, rfl, c0, _⟩ := (HV.out.below HBw.out) k x hx
          obtain ⟨B, rfl, _, d1, _⟩ := (HF3.out.below HB4.out) k y hy
          unfold efld at d1
          have hst := fun h => Lib.hid (HK.out.step hx hy h)
          have hno := fun h => Lib.hid (kindsB_at hx hy h)
          obtain ⟨k1, n1, s1⟩ := x
          obtain ⟨yn, yk⟩ := y
          dsimp only at c0 d1 hst hno
          have hk0 : (0 : Int) ≤ (k : Int) := by omega
          have hk1 : (k : Int) < (l : Int) := by omega
          clear hx hy
          by_cases he : k1 = yk
          · have Hst := hst he
            subst he
            clear hst hno
            go_upto_region 11 with fail
            go_quiet (fail)
            go_wp2
            go_roundw
            case rel => exact ⟨k + 1, by go_num, by omega, Hst, vbelow_drewN HB4.out _⟩
            case measure => simp [intOf]; omega
          · have Hno := hno he
            have h1 : (k1 != yk) = true := by rw [bne_iff_ne]; exact he
            clear hst hno
            go_upto_region 11 with fail
            go_quiet (fail)
            go_wp2
            go_ret
            exact ⟨by rw [HN.out, Hno.out]; rfl, vbelow_drewN HBw.out _⟩
        · obtain rfl : k = l := by omega
          have hall := Lib.hid (KindsTo.all (vs := vs) (fs := rf) (by rw [Hl.out]; exact HK.out) (by rw [Hl.out, Hm.out]))
          go_wp2
          go_ret
          exact ⟨by rw [HN.out, hall.out]; rfl, HBw.out⟩
    · have Hno := Lib.hid (kindsB_len (vs := vs) (fs := rf) (by rw [Hl.out, Hm.out]; exact hlm))
      have hd : ((l : Int) != (m : Int)) = true := by rw [bne_iff_ne]; omega
      go_wp2
      go_ret
      exact ⟨by rw [HN.out, Hno.out]; rfl, HB2.out.alloc HB2.out.size _⟩

end Go.Proofs.Ytppgecbjdkfohaa

/- The laws of the journal that are proved, together. -/
import Derived.Test.YtdpbnacabinlgaaGreatDoorMH
import Derived.Lib.MinMax
namespace Go.Proofs.YtdpbnacabinlgaaGreatDoor
open Go.RowKit Go.Lib Go.Maps Go.ChangeMaps Go.Sort Go.Shelf

set_option maxHeartbeats 32000000 in
set_option maxRecDepth 100000 in
theorem picture_walk {w : World} (hv : Vars w (fun _ => none)) (a : Option Addr) (c : Nat) (rs : List (List UInt8)) (hx : TRow w a rs) (hl : rs.length ≤ maxLen)
    (so sp : ByteArray) (hso : so.size ≤ 140737488351232) (hsp : sp.size ≤ 140737488351232) (F : Nat) (hF : F ≤ 255)
    (ka : Option Addr) (kc : Nat) (ks : List (ByteArray × Int)) (hks : KArg w (fun _ => none) (.slice ka ks.length kc) ks) (hkl : ks.length ≤ 1000000000000000) :
    Calls Tryz.prog 6 #[.slice a rs.length c, .string so, .string sp, .int .u8 F, .slice ka ks.length kc] w fun e w' => e = .returned (.bool true) ∧ Below w.heap.size w w' := by
  unfold maxLen at hl
  have HV := Lib.hid hv
  have HX := Lib.hid hx
  have HKS := Lib.hid hks
  obtain ⟨l, hrl⟩ : ∃ l, rs.length = l := ⟨_, rfl⟩
  have Hl := Lib.hid hrl
  rw [hrl] at hl ⊢
  obtain ⟨kl, hk2⟩ : ∃ kl, ks.length = kl := ⟨_, rfl⟩
  have Hkl := Lib.hid hk2
  rw [hk2] at hkl ⊢
  obtain ⟨os, hos⟩ : ∃ os, so.size = os := ⟨_, rfl⟩
  have Hos := Lib.hid hos
  obtain ⟨ps, hps⟩ : ∃ ps, sp.size = ps := ⟨_, rfl⟩
  have Hps := Lib.hid hps
  rw [hos] at hso
  rw [hps] at hsp
  obtain ⟨i0, hi, hi0, hi1, hi2⟩ := info_parts infoS16
  have hw1 : IntKind.i64.wrap ((kl : Int) + (os : Int)) = ((kl + os : Nat) : Int) := by rw [IntWalk.i64_in _ ⟨by omega, by omega⟩]; omega
  have hw2 : IntKind.i64.wrap (((kl + os : Nat) : Int) + (ps : Int)) = ((kl + os + ps : Nat) : Int) := by rw [IntWalk.i64_in _ ⟨by omega, by omega⟩]; omega
  have hw3 : IntKind.i64.wrap ((kl : Int) + (os : Int) + (ps : Int)) = ((kl + os + ps : Nat) : Int) := by rw [IntWalk.i64_in _ ⟨by omega, by omega⟩]; omega
  have hzo : (so.size : Int) = (os : Int) := by rw [hos]
  have hzp : (sp.size : Int) = (ps : Int) := by rw [hps]
  clear hv hx hks hrl hk2
  go_enter Tryz.func6, Tryz.ntmps6
  go_wp2_with fail
  refine (jhead_calls HV.out).mono ?_
  rintro e w1 ⟨rfl, hb1⟩
  have HB1 := Lib.hid hb1
  have HV1 := Lib.hid (HV.out.below hb1)
  clear hb1
  go_wp2_with fail
  refine (jopened_calls HV1.out).mono ?_
  rintro e w2 ⟨jb, db, fb, gb, own2, rfl, hj2⟩
  have HJ2 := Lib.hid hj2
  have HB2 := Lib.hid (HB1.out.trans ((step_low hj2.st).mono HB1.out.size))
  have hbig : 2 < w1.heap.size := hj2.big
  clear hj2
  go_wp2_with fail
  go_loop [15, 16] (fun n i => ∃ k nn : Nat, k ≤ l ∧ i = .int .i64 k ∧ n = .int .i64 nn ∧ nn ≤ kl + os + ps + 40001 ∧ kl + os + ps ≤ nn) (fun _ i => l - (intOf i).toNat)
  case atStart => exact ⟨0, kl + os + ps, Nat.zero_le _, rfl, rfl, by omega, by omega⟩
  case round =>
    obtain ⟨k, nn, hk, rfl, rfl, hnb, hnk⟩ := hrel
    by_cases hgo : k < l ∧ nn < 20000
    · obtain ⟨hlt, hn2⟩ := hgo
      obtain ⟨s, hs⟩ : ∃ s, rs[k]? = some s := ⟨_, List.getElem?_eq_getElem (by rw [Hl.out]; exact hlt)⟩
      obtain ⟨ad, rfl, hcell, hss⟩ := (HX.out.below HB2.out) k s hs
      unfold maxLen at hss
      have hsz : (strB s).size = s.length := strB_size s
      have hss1 : (strB s).size ≤ 9223372036854775807 := by omega
      have hd : decide ((nn : Int) < 20000) = true := by simp; omega
      have hT0 : (0 : Int) ≤ min ((strB s).size : Int) 20000 := by omega
      have hT1 : min ((strB s).size : Int) 20000 ≤ 20000 := by omega
      have hcast : ((nn : Int) + 1 + min ((strB s).size : Int) 20000) = ((nn + 1 + min (strB s).size 20000 : Nat) : Int) := by omega
      have Hcast := Lib.hid hcast
      clear hs hsz hcast
      go_wp2
      go_round
      case rel => exact ⟨k + 1, nn + 1 + min (strB s).size 20000, by omega, by go_num, by rw [Hcast.out], by omega, by omega⟩
      case measure => simp [intOf]; omega
    · by_cases hbg : 20000 ≤ nn
      · have hd2 : decide ((nn : Int) < 20000) = false := by simp; omega
        have hd3 : decide ((20000 : Int) ≤ (nn : Int)) = true := by simp; omega
        by_cases hlt : k < l
        all_goals
          go_wp2
          go_ret
          exact ⟨rfl, HB2.out⟩
      · have hlt : ¬ k < l := by omega
        have hd3 : decide ((20000 : Int) ≤ (nn : Int)) = false := by simp; omega
        by_cases h60 : 60 < l
        · have hd4 : decide ((60 : Int) < (l : Int)) = true := by simp; omega
          go_wp2
          go_ret
          exact ⟨rfl, HB2.out⟩
        · have hd4 : decide ((60 : Int) < (l : Int)) = false := by simp; omega
          have HKL : Hid (kl ≤ 1000000000000) := by show _ ≤ _; omega
          have HFI := Lib.hid (HJ2.out.first (by omega) (s := so) (by rw [hos]; unfold maxLen; omega))
          clear hnb hgo hbg hnk
          go_wp2_with fail
          refine HFI.out.mono ?_
          rintro e w3 ⟨ca, r0, l0, rfl, hca, hb0, hl0, hr0, HI3⟩
          have HCA := Lib.hid hca
          have HB0 := Lib.hid hb0
          have HR0 := Lib.hid hr0
          clear hca hb0 hr0 HFI HJ2
          go_wp2_with fail
          go_loopw [18, 19] (fun v i wr => ∃ (k U A : Nat) (xs : List (List UInt8)) (vv : Value), vv = v ∧ k ≤ l ∧ i = .int .i64 k ∧ A ≤ 600 + 4 * k ∧ Hid (RowJ True r0 l0 [] w1 wr jb db fb gb A k U vv 0 xs)) (fun _ i _ => l - (intOf i).toNat)
          case atStart => exact ⟨0, _, _, [], _, rfl, Nat.zero_le _, rfl, by omega, HI3⟩
          case round =>
            obtain ⟨k2, U, A, xs, vv, rfl, hk2, rfl, hA, HI2⟩ := hrel
            by_cases hlt2 : k2 < l
            · obtain ⟨s, hs⟩ : ∃ s, rs[k2]? = some s := ⟨_, List.getElem?_eq_getElem (by rw [Hl.out]; exact hlt2)⟩
              obtain ⟨ad, rfl, hcell, hss⟩ := (HX.out.below (HB1.out.trans (HI2.out.low.mono HB1.out.size))) k2 s hs
              have HADD := Lib.hid (HI2.out.add HB0.out (by omega) (by omega) hss)
              have HLEN : Hid (xs.length ≤ k2) := by obtain ⟨_, _, _, _, _, _, _, e1, _, _, _, n1, _⟩ := HI2.out; rw [e1]; exact n1
              have HCELL : Hid (∀ wz, Below w1.heap.size w1 wz → wz.cell? (ad.add k2) = some (.string (strB s))) := fun wz hz => by
                obtain ⟨ad2, e, hc, _⟩ := (HX.out.below (HB1.out.trans (hz.mono HB1.out.size))) k2 s hs
                injection e with e
                rw [e]
                exact hc
              clear hs hss
              go_wp2_with fail
              refine HADD.out.mono ?_
              rintro e w4 ⟨ec, rfl, hcase⟩
              clear HADD HI2
              rcases hcase with ⟨rfl, hlen, HA3⟩ | ⟨hne, _, HJ3⟩
              · have hc3 := HCELL.out w4 HA3.out.low
                have HO3 : Hid ((w4.alloc (.cells #[.string (strB s)] 9)).ownsRow w1.heap.size 9 1 vv xs.length (recCells xs)) := by
                  obtain ⟨_, _, _, _, _, _, t1, _⟩ := HA3.out
                  exact t1.1.alloc _
                have HA4 := Lib.hid (HA3.out.below ((Below.refl _ _).alloc (Nat.le_refl _) (.cells #[.string (strB s)] 9)))
                have hbz : Hid (w1.heap.size ≤ (w4.alloc (.cells #[.string (strB s)] 9)).heap.size) := HA4.out.low.size
                clear HA3 hlen
                go_wp2_with (first
                  | (at_builtin; refine wpList_append_own_at _ rfl (.tmp 92) (.tmp 97) 32 rfl w1.heap.size 9 i0 (.string .empty) 1 16 Tryz.underlying32 hi hi0 hi1 hi2 rfl (by decide) _ _ _ rfl HO3.out ⟨w4.heap.size, 0, none⟩ 1 1 (recCells [s]) rfl rfl (vals_new w4 _ _ _ _ rfl) (recCells_one _) (by have := HLEN.out; unfold maxLen; omega) (by have := HLEN.out; omega) hbz.out ?_; intro v4 w5 hown4 hgrow4 _ hat4; have HJ4 := Lib.hid (RowA.append HA4.out hown4 hgrow4 hat4); clear hown4 hgrow4 hat4))
                go_roundw
                case rel => exact ⟨k2 + 1, _, _, _, _, rfl, by omega, by go_num, by omega, HJ4⟩
                case measure => simp [intOf]; omega
              · go_wp2_with fail
                go_roundw
                case rel => exact ⟨k2 + 1, _, _, _, _, rfl, by omega, by go_num, by omega, HJ3⟩
                case measure => simp [intOf]; omega
            · have HSY := Lib.hid (HI2.out.syncs HB0.out (by omega) (by omega))
              obtain ⟨fa, fc, rfl⟩ := HI2.out.form
              have hxm : Hid (∀ x ∈ xs, x.length ≤ maxLen) := fun x hx => by
                obtain ⟨_, _, ls, _, _, g1, _, e1, _⟩ := HI2.out
                rw [e1, List.nil_append] at hx
                obtain ⟨d, hd, hx⟩ := List.mem_flatten.1 hx
                have := (g1.ok d hd).2.1 x hx
                unfold maxLen
                omega
              have hxl : Hid (xs.length ≤ 60) := by obtain ⟨_, _, _, _, _, _, _, e1, _, _, _, n1, _⟩ := HI2.out; rw [e1]; exact Nat.le_trans n1 (by omega)
              clear HI2
              go_wp2_with fail
              refine HSY.out.mono ?_
              rintro e w4 ⟨ec, rfl, HS4⟩
              have HFU : Hid (∀ y : Int, (-9223372036854775808 ≤ y ∧ y ≤ 9223372036854775807) → Calls Tryz.prog 19 #[.pointer (some ⟨db, 0, none⟩), .int .i64 y] w4 fun e w' => e = .returned (.tuple #[]) ∧ Hid (PicS r0 l0 w1 w' jb db fb gb (A + 1) (.slice fa xs.length fc) xs)) := fun y hy => HS4.out.fuse hy
              clear HSY
              go_wp2_with fail
              refine (HFU.out _ (by omega)).mono ?_
              rintro e w5 ⟨rfl, HS5⟩
              have HCO := Lib.hid (HS5.out.compact HB0.out HR0.out (by omega) (s := sp) (by rw [Hps.out]; unfold maxLen; omega))
              clear HFU HS4 HS5
              go_wp2_with fail
              refine HCO.out.mono ?_
              rintro e w6 ⟨cb, rfl, HC6⟩
              have HCR := Lib.hid (HC6.out.crash (kv := .slice ka kl kc) (ks := ks) (fun own hs => by rw [← Hkl.out]; exact HKS.out.step ((below_step _ HB1.out).trans hs)) (by rw [Hkl.out]; exact HKL.out))
              clear HCO HC6
              go_wp2_with fail
              refine HCR.out.mono ?_
              rintro e w7 ⟨rfl, r7, HK7⟩
              have HOP := Lib.hid (HK7.out.opens (by omega))
              have halt : (sp.data.toList.length ≤ 4096 ∧ ∃ n, 0 < n ∧ viewR r7 = ((n, sp.data.toList), [])) ∨ (cb ≠ 0 ∧ viewR r7 = (lastP r0, xs)) := by
                obtain ⟨_, _, _, _, _, _, _, h⟩ := HK7.out
                exact h
              have hspl : sp.data.toList.length = ps := by rw [← Hps.out]; simp
              have z1 : (sp.toList == sp.toList) = true := by simp
              have z2 : (so.toList == so.toList) = true := by simp
              clear HCR HK7
              rcases halt with ⟨hpl, n7, hn7, hv7⟩ | ⟨hcb, hv7⟩
              · have hl7 : lastP r7 = (n7, sp.data.toList) := congrArg Prod.fst hv7
                have hr7 : (viewR r7).2 = [] := congrArg Prod.snd hv7
                rw [hl7, hr7] at HOP
                rw [show strB (n7, sp.data.toList).2 = sp from strB_of sp, show decide (0 < (n7, sp.data.toList).1) = true by simpa using hn7] at HOP
                have hps2 : decide ((ps : Int) ≤ 4096) = true := by simp; omega
                rcases HCA.out with ⟨rfl, ho1, ho2⟩ | ⟨rfl, ho1, ho2⟩
                · have hos2 : decide ((os : Int) ≤ 4096) = true := by simp; omega
                  clear hv7 hl7 hr7 ho1 ho2 hpl hspl
                  go_wp2_with fail
                  refine HOP.out.mono ?_
                  rintro e w8 ⟨jb8, own8, ra, rc, rfl, hb8, _, _⟩
                  have HB8 := Lib.hid (HB1.out.trans (hb8.mono HB1.out.size))
                  clear hb8 HOP
                  go_wp2_with fail
                  go_ret
                  exact ⟨rfl, HB8.out⟩
                · have hos2 : decide ((os : Int) ≤ 4096) = false := by simp; omega
                  clear hv7 hl7 hr7 ho1 ho2 hpl hspl
                  go_wp2_with fail
                  refine HOP.out.mono ?_
                  rintro e w8 ⟨jb8, own8, ra, rc, rfl, hb8, _, _⟩
                  have HB8 := Lib.hid (HB1.out.trans (hb8.mono HB1.out.size))
                  clear hb8 HOP
                  go_wp2_with fail
                  go_ret
                  exact ⟨rfl, HB8.out⟩
              · have hl7 : lastP r7 = lastP r0 := congrArg Prod.fst hv7
                have hr7 : (viewR r7).2 = xs := congrArg Prod.snd hv7
                rw [hl7, hr7] at HOP
                obtain ⟨xl, hxl2⟩ : ∃ xl, xs.length = xl := ⟨_, rfl⟩
                have HXL := Lib.hid hxl2
                have hEND : Hid (∀ w8 ra rc own8, OwnT w1.heap.size w8 own8 (.slice fa xs.length fc) xs → OwnT w7.heap.size w8 own8 (.slice ra xs.length rc) xs → Calls Tryz.prog 17 #[.slice ra xl rc, .slice fa xl fc] w8 fun e w' => e = .returned (.bool true) ∧ ∃ n, w' = w8.drewN n) := fun w8 ra rc own8 t1 t2 => by
                  have hs := same_calls w8 ra fa rc fc xs xs (t2.trow hxm.out) (t1.trow hxm.out) (by have := hxl.out; unfold maxLen; omega) (by have := hxl.out; unfold maxLen; omega)
                  rw [hxl2] at hs
                  exact hs.mono fun e w' h => ⟨by rw [h.1]; simp, h.2⟩
                rw [hxl2] at HOP
                rw [hxl2]
                have hx0 : xl ≤ 60 := by rw [← hxl2]; exact hxl.out
                rcases HCA.out with ⟨rfl, ho1, ho2⟩ | ⟨rfl, ho1, ho2⟩
                · rw [ho2] at HOP
                  rw [show strB (1, so.data.toList).2 = so from strB_of so, show decide (0 < (1, so.data.toList).1) = true from rfl] at HOP
                  have hos2 : decide ((os : Int) ≤ 4096) = true := by simp; omega
                  obtain ⟨bq, hbq⟩ : ∃ bq, (so.toList == sp.toList) = bq := ⟨_, rfl⟩
                  have hcb2 : (cb != 0) = true := by simpa using hcb
                  have hcb3 : decide (cb = 0) = false := by simpa using hcb
                  clear hcb
                  clear hv7 hl7 hr7 ho1 ho2 hspl hxl2
                  go_wp2_with fail
                  refine HOP.out.mono ?_
                  rintro e w8 ⟨jb8, own8, ra, rc, rfl, hb8, t1, t2⟩
                  have HB8 := Lib.hid (HB1.out.trans (hb8.mono HB1.out.size))
                  have HS := Lib.hid (hEND.out w8 ra rc own8 (by rw [HXL.out]; exact t1) (by rw [HXL.out]; exact t2))
                  clear hb8 HOP t1 t2
                  cases bq
                  · go_wp2_with (go_at_call 17; refine HS.out.mono ?_; rintro e w9 ⟨rfl, nq, rfl⟩)
                    go_ret
                    exact ⟨rfl, below_drewN HB8.out _⟩
                  · by_cases hxz : xl = 0
                    · subst hxz
                      by_cases hpz : ps ≤ 4096
                      · have hpz2 : decide ((ps : Int) ≤ 4096) = true := by simp; omega
                        go_wp2_with (go_at_call 17; refine HS.out.mono ?_; rintro e w9 ⟨rfl, nq, rfl⟩)
                        go_ret
                        exact ⟨rfl, HB8.out⟩
                      · have hpz2 : decide ((ps : Int) ≤ 4096) = false := by simp; omega
                        go_wp2_with (go_at_call 17; refine HS.out.mono ?_; rintro e w9 ⟨rfl, nq, rfl⟩)
                        go_ret
                        exact ⟨rfl, below_drewN HB8.out _⟩
                    · have hxz2 : decide ((xl : Int) = 0) = false := by simp; omega
                      go_wp2_with (go_at_call 17; refine HS.out.mono ?_; rintro e w9 ⟨rfl, nq, rfl⟩)
                      go_ret
                      exact ⟨rfl, below_drewN HB8.out _⟩
                · rw [ho2] at HOP
                  rw [show decide (0 < ((0, []) : Nat × List UInt8).1) = false from rfl] at HOP
                  have hos2 : decide ((os : Int) ≤ 4096) = false := by simp; omega
                  have hcb2 : (cb != 0) = true := by simpa using hcb
                  have hcb3 : decide (cb = 0) = false := by simpa using hcb
                  clear hcb
                  clear hv7 hl7 hr7 ho1 ho2 hspl hxl2
                  go_wp2_with fail
                  refine HOP.out.mono ?_
                  rintro e w8 ⟨jb8, own8, ra, rc, rfl, hb8, t1, t2⟩
                  have HB8 := Lib.hid (HB1.out.trans (hb8.mono HB1.out.size))
                  have HS := Lib.hid (hEND.out w8 ra rc own8 (by rw [HXL.out]; exact t1) (by rw [HXL.out]; exact t2))
                  clear hb8 HOP t1 t2
                  go_wp2_with (go_at_call 17; refine HS.out.mono ?_; rintro e w9 ⟨rfl, nq, rfl⟩)
                  go_ret
                  first
                    | exact ⟨rfl, HB8.out⟩
                    | exact ⟨rfl, below_drewN HB8.out _⟩

end Go.Proofs.YtdpbnacabinlgaaGreatDoor
namespace Go.Proofs.YtdpbnacabinlgaaGreatDoor
open Go.ChangeShapes Go.WideShapes Go.ChangeAt Go.RowKit Go.Lib Go.Deep Go.Joins
open Go.ChangeMaps (open_string shut_string)

namespace journalPicture
set_option maxRecDepth 100000 in
theorem lifted (os : Os) (started : os.Started) (H : Type) (enc : TypeId × Value → H) :
    ReturnsInHanded {} Tryz.checked os 6 .any (fun w args => (Rows.journalPictureSpec.pre enc Tryz.prog Tryz.f6 [] false w args ∧ laidMetH Tryz.prog laidX w) ∧ sizedMet enc Tryz.prog Tryz.f6 (OpenSpec.ofChange Rows.journalPictureSpec) false w args)
      (Rows.journalPictureSpec.post enc Tryz.prog Tryz.f6 false true false false) := by
  refine returnsInHanded_of_change_and (C := Tryz.checked) (X := fun w _ => laidMetH Tryz.prog laidX w) (fun _ _ _ hh h => h.of_heap hh) xown_ started (by kernel_rfl) Tryz.func6
    (ChangeSpec.witness_shaped (enc := enc) (C := Tryz.checked) (os := os) (X := fun w _ => laidMetH Tryz.prog laidX w) false (World.doorLaid Tryz.prog 62 os) #[.slice none 0 0, .string .empty, .string .empty, .int .u8 0, .slice none 0 0] 8 rfl (World.shaped_of_RefB (by kernel_rfl) (by kernel_rfl)) (by kernel_rfl) (by kernel_rfl) (by kernel_rfl) (xdoor_met os _)) ?_
  intro W base args ds gs before hval0 hW _ hsz hL _
  have hT := vars_of_laid hL
  have hval : ∀ (j : Nat) t v, Tryz.f6.params[j]? = some t → args[j]? = some v → Value.okWide Tryz.prog W .any base t v := hval0
  have hW' := hW
  obtain ⟨p, q, hA0, hV, rfl, _, _⟩ := hW
  have hA : DataW.TrodAll enc Tryz.prog W 0 (fun _ => true) true Tryz.f6.params.toList args.toList ds p := hA0
  rw [Tryz.params6] at hA hval
  obtain ⟨v0, vs0, d0, ds0, p0, q0, hargs, rfl, rfl, h0, r0⟩ := trodAll_cons hA
  obtain ⟨v1, vs1, d1, ds1, p1, q1, rfl, rfl, rfl, h1, r1⟩ := trodAll_cons r0
  obtain ⟨v2, vs2, d2, ds2, p2, q2, rfl, rfl, rfl, h2, r2⟩ := trodAll_cons r1
  obtain ⟨v3, vs3, d3, ds3, p3, q3, rfl, rfl, rfl, h3, r3⟩ := trodAll_cons r2
  obtain ⟨v4, vs4, d4, ds4, p4, q4, rfl, rfl, rfl, h4, r4⟩ := trodAll_cons r3
  obtain ⟨rfl, rfl, rfl⟩ := trodAll_nil r4
  obtain rfl : args = #[v0, v1, v2, v3, v4] := by cases args; simp_all
  obtain ⟨rfl, rfl⟩ := trodVars_none hV
  have lt0 : ∀ x ∈ p0, x.block < W.heap.size := by obtain ⟨m, hm⟩ := h0; exact DataW.trod_lt m _ _ _ hm
  have lt1 : ∀ x ∈ p1, x.block < W.heap.size := by obtain ⟨m, hm⟩ := h1; exact DataW.trod_lt m _ _ _ hm
  have lt2 : ∀ x ∈ p2, x.block < W.heap.size := by obtain ⟨m, hm⟩ := h2; exact DataW.trod_lt m _ _ _ hm
  have lt3 : ∀ x ∈ p3, x.block < W.heap.size := by obtain ⟨m, hm⟩ := h3; exact DataW.trod_lt m _ _ _ hm
  have lt4 : ∀ x ∈ p4, x.block < W.heap.size := by obtain ⟨m, hm⟩ := h4; exact DataW.trod_lt m _ _ _ hm
  have k_0 := h0
  have k_1 := h1
  have k_2 := h2
  have k_3 := h3
  have k_4 := h4
  obtain ⟨a0, l0, c0, rfl⟩ := okWide_slice Tryz.underlying32 (hval 0 32 v0 rfl rfl)
  obtain ⟨m0, hm0⟩ := h0
  obtain ⟨rs0, rfl, hrs0, hl0⟩ := open_texts hm0
  obtain ⟨s1, rfl, hd1, _, hs1⟩ := open_string Tryz.underlying9 (hval 1 9 v1 rfl rfl) h1
  have hr1 : s1.size ≤ 140737488351232 := by
    have h8 := sized_string hsz (j := 1) (t := 9) (bytes := s1.data.toList) (by kernel_rfl) (by rw [hd1]; rfl)
    simpa [reachBytes] using h8
  obtain ⟨s2, rfl, hd2, _, hs2⟩ := open_string Tryz.underlying9 (hval 2 9 v2 rfl rfl) h2
  have hr2 : s2.size ≤ 140737488351232 := by
    have h8 := sized_string hsz (j := 2) (t := 9) (bytes := s2.data.toList) (by kernel_rfl) (by rw [hd2]; rfl)
    simpa [reachBytes] using h8
  obtain ⟨n3, rfl, _, _, hw3⟩ := open_int Tryz.underlying5 (hval 3 5 v3 rfl rfl) h3
  have hn3 : (0 : Int) ≤ n3 ∧ n3 ≤ 255 := by
    have h8 : (decide ((0 : Int) ≤ n3) && decide (n3 ≤ 255)) = true := hw3
    simpa using h8
  obtain ⟨N3, rfl⟩ : ∃ N : Nat, n3 = (N : Int) := ⟨n3.toNat, by omega⟩
  obtain ⟨a4, l4, c4, rfl⟩ := okWide_slice Tryz.underlying41 (hval 4 41 v4 rfl rfl)
  obtain ⟨m4, hm4⟩ := h4
  have hz4 := kepts_reach hm4 (sized_mem hsz (j := 4) (t := 41) (by kernel_rfl) rfl)
  obtain ⟨ks4, rfl, hkl4, hks4⟩ := open_kepts hm4
  clear hA0 hval0
  refine (picture_walk hT a0 c0 rs0 hrs0 hl0 s1 s2 hr1 hr2 N3 (by omega) a4 c4 ks4 (hks4 W (Below.refl _ _) _ (fun _ _ => rfl)) hz4).mono fun e W' ⟨he, bel⟩ => ?_
  subst he
  exact ⟨_, rfl, _, _, _, [], _, [], hW', trodAll_mk1 (shut_bool Tryz.underlying4 _), (trodAll_cons_mk (Below.trod xlaidOut (by kernel_rfl) (of_decide_eq_true (by kernel_rfl)) k_0 bel lt0) (trodAll_cons_mk (Below.trod xlaidOut (by kernel_rfl) (of_decide_eq_true (by kernel_rfl)) k_1 bel lt1) (trodAll_cons_mk (Below.trod xlaidOut (by kernel_rfl) (of_decide_eq_true (by kernel_rfl)) k_2 bel lt2) (trodAll_cons_mk (Below.trod xlaidOut (by kernel_rfl) (of_decide_eq_true (by kernel_rfl)) k_3 bel lt3) (trodAll_cons_mk (Below.trod xlaidOut (by kernel_rfl) (of_decide_eq_true (by kernel_rfl)) k_4 bel lt4) trodAll_mk0))))), rfl, bel.frame _, fun h => by cases h⟩

theorem row_holds : Rows.JournalPictureSaid :=
  OpenClaim.holds_of_wide 6 Tryz.f6 rfl rfl rfl rfl rfl rfl rfl ⟨rfl, rfl, rfl, rfl, rfl⟩ rfl rfl rfl rfl rfl (by kernel_rfl) Tryz.func6 (by kernel_rfl)
    (of_decide_eq_true (by kernel_rfl)) (by unfold Func.isWrapper; first | (rw [if_pos (by decide +kernel)]; kernel_rfl) | (rw [if_neg (by decide +kernel)]; exact ⟨rfl, rfl⟩))
    (fun os started H enc _ => lifted os started H enc)

theorem holds : Rows.JournalPictureCardSaid :=
  Claim7.holds_tied_plain_at .later [] [.data, .data, .data, .sentinel, .sentinel] true _ true row_holds (fun _ h => by cases h) (by kernel_rfl) (fun _ h => by cases h) journalPicture_row_tie rfl ⟨rfl, rfl⟩ (by kernel_rfl) rfl
    (fun f fn hf hfn => by
      obtain rfl : f = 6 := Option.some.inj ((show Tryz.prog.funcNamed "augury/augurylaw03.JournalPicture" = some 6 by kernel_rfl).symm.trans hf) |>.symm
      obtain rfl : fn = Tryz.f6 := (Option.some.inj (Tryz.func6.symm.trans hfn)).symm
      exact ⟨by kernel_rfl, fun j t ht => by
        rw [Tryz.params6] at ht
        have hm : t ∈ [32, 9, 9, 5, 41] := by simpa using Array.mem_of_getElem? ht
        have hall : ([32, 9, 9, 5, 41].all fun u => !Tryz.prog.wantsStandIn u) = true := by kernel_rfl
        exact (show Tryz.prog.wantsStandIn t = false by simpa using List.all_eq_true.1 hall t hm)⟩)
    (by kernel_rfl)
end journalPicture
end Go.Proofs.YtdpbnacabinlgaaGreatDoor
namespace Go.Proofs.YtdpbnacabinlgaaGreatDoor
end Go.Proofs.YtdpbnacabinlgaaGreatDoor

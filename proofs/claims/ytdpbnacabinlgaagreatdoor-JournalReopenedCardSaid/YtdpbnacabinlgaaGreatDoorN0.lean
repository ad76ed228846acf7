/- JournalReopened holds: for every list of rows of records the call returns true, and the argument reads behind it as it did. Condition: the library's package-level variables that are listed are laid as its text lays them (the tie is given). -/
import Derived.Test.YtdpbnacabinlgaaGreatDoorMI
import Derived.Lib.MinMax
namespace Go.Proofs.YtdpbnacabinlgaaGreatDoor
open Go.RowKit Go.Lib Go.Maps Go.ChangeMaps Go.Sort Go.Shelf

section
variable {r0 : RDm} {l0 : Nat} {pre : List (List UInt8)} {w0 wr : World} {jb db fb gb A K U : Nat} {v : Value} {sc : Nat} {rs : List (List UInt8)}

/-- Open, of what was added: all of it, and what is there then. -/
theorem RowJ.opens (h : RowJ True r0 l0 pre w0 wr jb db fb gb A K U v sc rs) (hb : Base r0 l0) (hp : recsR r0 (behindL r0 (lastP r0).1) = pre) (hA : A ≤ 700000000000) :
    Calls Tryz.prog 15 #[.pointer (some ⟨db, 0, none⟩)] wr fun e w' => ∃ jb' ra rc r1 l1, e = .returned (.tuple #[.pointer (some ⟨jb', 0, none⟩), .string (strB (lastP r0).2), .bool (decide (0 < (lastP r0).1)), .slice ra rs.length rc, .int .i64 0]) ∧
      Base r1 l1 ∧ lastP r1 = lastP r0 ∧ recsR r1 (behindL r1 (lastP r1).1) = rs ∧ l1 ≤ l0 + K ∧ (∀ x ∈ rs, x.length ≤ 262144) ∧ rs.length ≤ 53000000 ∧ (∃ own', OwnT wr.heap.size w' own' (.slice ra rs.length rc) rs ∧ OwnT w0.heap.size w' own' v rs) ∧ Hid (RowJ True r1 l1 rs w0 w' jb' db fb gb (A + 201) 0 U v 0 rs) := by
  obtain ⟨own, j, ls, sy, h1, h2, h3, h4, h5, h6, h7, h8, h9⟩ := h
  obtain ⟨o1, o2, o3⟩ := h9 trivial
  have hv := h2.view hb o1.1
  rw [hp, ← h4] at hv
  have hl : lastP j.r = lastP r0 := congrArg Prod.fst hv
  have hr : (viewR j.r).2 = rs := congrArg Prod.snd hv
  have hm := h1.lw.recs_le
  have hn := h1.lw.recs_len
  have hbig := h1.big
  have htop := h2.top hb o1.1
  refine (h1.lw.opens hA hbig o1).mono ?_
  rw [hl, hr]
  rw [hr] at hm hn
  rintro e w' ⟨jb', own', ra, rc, rfl, k1, k2, k3, k4, k5⟩
  obtain ⟨_, p2, p3, p4, p5, p6, p7⟩ := openS_on o1 h2.rok
  have hv2 := view_open o1 h2.rok
  rw [hv] at hv2
  have hb2 := Base.opened o1 h2.rok
  have t2 : OwnT w0.heap.size w' (jo own' jb') v rs := h3.unjo.step k4
  refine ⟨jb', ra, rc, _, _, rfl, hb2, congrArg Prod.fst hv2, congrArg Prod.snd hv2, by omega, hm, hn, ⟨_, k5, t2⟩, own', _, [], 0, k1, Grows.start hb2 p6, t2, by simp, Nat.zero_le _, Nat.le_trans (open_count o1 h2.rok) h6, Nat.le_refl _, Nat.zero_le _, fun _ => ⟨p2, Nat.le_trans (open_used o1 h2.rok) o2, p7.trans o3⟩⟩
end

/-- Rows of texts that came in. -/
def SSRow (w : World) (a : Option Addr) (qs : List (Option Addr × Nat × List (List UInt8))) : Prop := ∀ j q, qs[j]? = some q → ∃ A, a = some A ∧ w.cell? (A.add j) = some (.slice q.1 q.2.2.length q.2.1) ∧ TRow w q.1 q.2.2 ∧ q.2.2.length ≤ maxLen

section
variable {H : Type} {enc : TypeId × Value → H} {w : World} {base : Nat} {spare : Nat → Bool} {held : Bool}
theorem open_rows {fuel : Nat} {a : Option Addr} {len cap : Nat} {x : DataW H × List MemPlace} (h : DataW.trod enc Tryz.prog w base spare held fuel 62 [.slice a len cap] = some x) :
    ∃ qs : List (Option Addr × Nat × List (List UInt8)), len = qs.length ∧ SSRow w a qs ∧ qs.length ≤ maxLen := by
  rcases Go.Deep.open_slice1 Tryz.underlying62 (by kernel_rfl) h with ⟨hcs, _⟩ | ⟨A, l, c, m, n, V, D, Pl, hcs, _, hl, hm, hmm, _, hx⟩
  · simp at hcs
    obtain ⟨rfl, rfl, rfl⟩ := hcs
    exact ⟨[], rfl, (fun j q hj => by simp at hj), Nat.zero_le _⟩
  · simp at hcs
    obtain ⟨rfl, rfl, rfl⟩ := hcs
    have hlm : len ≤ m := by rw [hmm]; split <;> omega
    have hall : ∀ i, i < len → ∃ q : Option Addr × Nat × List (List UInt8), w.cell? (A.add i) = some (.slice q.1 q.2.2.length q.2.1) ∧ TRow w q.1 q.2.2 ∧ q.2.2.length ≤ maxLen := fun i hi => by
      obtain ⟨e0, t0⟩ := hx i (by omega)
      rcases Go.Deep.open_slice Tryz.underlying32 t0 with ⟨h4, _⟩ | ⟨A2, l2, c2, m2, n2, D2, Pl2, h4, _⟩
      · simp at h4
        rw [h4] at t0 e0
        obtain ⟨rs, hr1, hr2, hr3⟩ := open_texts t0
        exact ⟨(none, 0, rs), by rw [e0, hr1], hr2, hr3⟩
      · simp at h4
        rw [h4] at t0 e0
        obtain ⟨rs, hr1, hr2, hr3⟩ := open_texts t0
        exact ⟨(some A2, c2, rs), by rw [e0, hr1], hr2, hr3⟩
    obtain ⟨q, hq⟩ := Go.Deep.choose_lt hall
    refine ⟨(List.range len).map q, by simp, fun j y hj => ?_, by simp; omega⟩
    obtain ⟨hjl, rfl⟩ := List.getElem?_eq_some_iff.1 hj
    simp at hjl ⊢
    exact hq j hjl
end

theorem SSRow.below {w w' : World} {a : Option Addr} {qs : List (Option Addr × Nat × List (List UInt8))} (h : SSRow w a qs) (hb : Below w.heap.size w w') : SSRow w' a qs := fun j q hj => by
  obtain ⟨A, h1, h2, h3, h4⟩ := h j q hj
  exact ⟨A, h1, cell_below hb h2, h3.below hb, h4⟩

end Go.Proofs.YtdpbnacabinlgaaGreatDoor
namespace Go.Proofs.YtdpbnacabinlgaaGreatDoor
open Go.RowKit Go.Lib Go.Maps Go.ChangeMaps Go.Sort Go.Shelf

set_option maxHeartbeats 32000000 in
set_option maxRecDepth 100000 in
theorem reopened_walk {w : World} (hv : Vars w (fun _ => none)) (a : Option Addr) (c : Nat) (qs : List (Option Addr × Nat × List (List UInt8))) (hx : SSRow w a qs) (hl : qs.length ≤ maxLen) :
    Calls Tryz.prog 8 #[.slice a qs.length c] w fun e w' => e = .returned (.bool true) ∧ Below w.heap.size w w' := by
  unfold maxLen at hl
  have HV := Lib.hid hv
  have HX := Lib.hid hx
  obtain ⟨l, hrl⟩ : ∃ l, qs.length = l := ⟨_, rfl⟩
  have Hl := Lib.hid hrl
  rw [hrl] at hl ⊢
  obtain ⟨i0, hi, hi0, hi1, hi2⟩ := info_parts infoS16
  clear hv hx hrl
  go_enter Tryz.func8, Tryz.ntmps8
  go_wp2_with fail
  refine (jhead_calls HV.out).mono ?_
  rintro e w1 ⟨rfl, hb1⟩
  have HB1 := Lib.hid hb1
  have HV1 := Lib.hid (HV.out.below hb1)
  clear hb1
  go_wp2_with fail
  refine (jopened_calls HV1.out).mono ?_
  rintro e w2 ⟨jb, db, fb, gb, own2, rfl, hj2⟩
  obtain ⟨p1, p2, p3, p4, p5, p6⟩ := newJ_facts 4194304
  have HI : Hid (RowJ True (newJ 4194304).r 0 [] w1 w2 jb db fb gb 201 0 0 (.slice none 0 0) 0 []) := ⟨own2, _, [], 0, hj2, newJ_grows 4194304, OwnT.nil _ _ _, rfl, Nat.zero_le _, by omega, Nat.zero_le _, Nat.zero_le _, fun _ => ⟨(newJ_base 4194304).on, by omega, p4⟩⟩
  have HBA : Hid (Base (newJ 4194304).r 0 ∧ lastP (newJ 4194304).r = (0, []) ∧ recsR (newJ 4194304).r (behindL (newJ 4194304).r (lastP (newJ 4194304).r).1) = []) := ⟨newJ_base 4194304, p5, p6⟩
  have HB2 := Lib.hid (HB1.out.trans ((step_low hj2.st).mono HB1.out.size))
  clear hj2 p1 p2 p3 p4 p5 p6
  by_cases h12 : 12 < l
  · have hd4 : decide ((12 : Int) < (l : Int)) = true := by simp; omega
    go_wp2_with fail
    go_ret
    exact ⟨rfl, HB2.out⟩
  have hd4 : decide ((12 : Int) < (l : Int)) = false := by simp; omega
  go_wp2_with fail
  go_loopw [5, 7, 8, 9] (fun pj v n i wr => ∃ (jb l0 A K U N q : Nat) (r0 : RDm) (pre rs : List (List UInt8)) (vv : Value), vv = v ∧ pj = .pointer (some ⟨jb, 0, none⟩) ∧ n = .int .i64 N ∧ i = .int .i64 q ∧ q ≤ l ∧ N ≤ 40000 ∧ A ≤ 201 + 2 * N + 201 * q ∧ U ≤ 5 * N ∧ l0 + K ≤ N ∧ rs.length ≤ N ∧ Hid (Base r0 l0 ∧ lastP r0 = (0, []) ∧ recsR r0 (behindL r0 (lastP r0).1) = pre) ∧ Hid (RowJ True r0 l0 pre w1 wr jb db fb gb A K U vv 0 rs)) (fun _ _ _ i _ => l - (intOf i).toNat)
  case atStart => exact ⟨jb, 0, 201, 0, 0, 0, 0, _, [], [], _, rfl, rfl, rfl, rfl, Nat.zero_le _, by omega, by omega, by omega, by omega, Nat.zero_le _, HBA, HI⟩
  case round =>
    clear HBA HI
    obtain ⟨jb, l0, A, K, U, N, q, r0, pre, rs, vv, rfl, rfl, rfl, rfl, hq, hN, hA, hU, hK, hrs, HBA, HI⟩ := hrel
    by_cases hlt : q < l
    · obtain ⟨⟨qa, qc, xs⟩, hs⟩ : ∃ s, qs[q]? = some s := ⟨_, List.getElem?_eq_getElem (by rw [Hl.out]; exact hlt)⟩
      have HCELL : Hid (∀ wz, Below w1.heap.size w1 wz → ∃ A, a = some A ∧ wz.cell? (A.add q) = some (.slice qa xs.length qc) ∧ TRow wz qa xs ∧ xs.length ≤ maxLen) := fun wz hz => (HX.out.below (HB1.out.trans (hz.mono HB1.out.size))) q _ hs
      obtain ⟨ad, rfl, _, _, hxl⟩ := HCELL.out wr HI.out.low
      unfold maxLen at hxl
      obtain ⟨xl, hxl2⟩ : ∃ xl, xs.length = xl := ⟨_, rfl⟩
      have HXL := Lib.hid hxl2
      rw [hxl2] at HCELL hxl
      clear hs hxl2
      go_wp2_with fail
      go_loopw [7, 8, 10] (fun v n i wz => ∃ (A K U N k : Nat) (rs : List (List UInt8)) (vv : Value), vv = v ∧ n = .int .i64 N ∧ i = .int .i64 k ∧ k ≤ xl ∧ N ≤ 40000 ∧ A ≤ 201 + 2 * N + 201 * q ∧ U ≤ 5 * N ∧ l0 + K ≤ N ∧ rs.length ≤ N ∧ Hid (RowJ True r0 l0 pre w1 wz jb db fb gb A K U vv 0 rs)) (fun _ _ i _ => xl - (intOf i).toNat)
      case atStart => exact ⟨A, K, U, N, 0, rs, _, rfl, rfl, rfl, Nat.zero_le _, hN, hA, hU, hK, hrs, HI⟩
      case round =>
        clear HI hN hA hU hK hrs
        obtain ⟨A, K, U, N, k, rs, vv, rfl, rfl, rfl, hk, hN, hA, hU, hK, hrs, HI⟩ := hrel
        obtain ⟨ad2, hade, hc1, hrow, _⟩ := HCELL.out wr HI.out.low
        injection hade with hade
        subst hade
        by_cases hlk : k < xl
        · obtain ⟨s, hs⟩ : ∃ s, xs[k]? = some s := ⟨_, List.getElem?_eq_getElem (by rw [HXL.out]; exact hlk)⟩
          obtain ⟨ae, rfl, hc2, hss⟩ := hrow k s hs
          unfold maxLen at hss
          have hsz : (strB s).size = s.length := strB_size s
          have hss1 : (strB s).size ≤ 9223372036854775807 := by omega
          have hT0 : (0 : Int) ≤ min ((strB s).size : Int) 40000 := by omega
          have hT1 : min ((strB s).size : Int) 40000 ≤ 40000 := by omega
          obtain ⟨N2, hN2⟩ : ∃ N2 : Nat, N2 = N + 1 + min (strB s).size 40000 := ⟨_, rfl⟩
          have hcast : ((N : Int) + 1 + min ((strB s).size : Int) 40000) = (N2 : Int) := by omega
          have hHC : Hid (∀ wz, Below w1.heap.size w1 wz → wz.cell? (ad.add q) = some (.slice (some ae) xl qc) ∧ wz.cell? (ae.add k) = some (.string (strB s))) := fun wz hz => by
            obtain ⟨ad3, e3, hd1, hd2, _⟩ := HCELL.out wz hz
            injection e3 with e3
            subst e3
            obtain ⟨ae2, e4, hd3, _⟩ := hd2 k s hs
            injection e4 with e4
            subst e4
            exact ⟨hd1, hd3⟩
          by_cases hbg : 40000 < N2
          · have hd : decide ((40000 : Int) < (N2 : Int)) = true := by simp; omega
            have HBW := Lib.hid (HB1.out.trans (HI.out.low.mono HB1.out.size))
            clear hN2 hs hsz hss hrow
            go_wp2_with fail
            go_ret
            exact ⟨rfl, HBW.out⟩
          · have hd : decide ((40000 : Int) < (N2 : Int)) = false := by simp; omega
            have hsl : N2 = N + 1 + s.length := by omega
            have HADD := Lib.hid (HI.out.add HBA.out.1 (x := s) (by omega) (by omega) (by unfold maxLen; omega))
            have HNB : Hid (N2 = N + 1 + s.length ∧ N2 ≤ 40000 ∧ s.length ≤ 40000) := ⟨hsl, by omega, by omega⟩
            have HLEN : Hid (rs.length ≤ 40000) := by show _ ≤ _; omega
            clear hN2 hs hsz hss hrow hbg hsl hT0 hT1
            go_wp2_with fail
            refine HADD.out.mono ?_
            rintro e w3 ⟨ec, rfl, hcase⟩
            clear HADD HI
            rcases hcase with ⟨rfl, _, HA3⟩ | ⟨hne, hcode, HJ3⟩
            · obtain ⟨hg1, hg2⟩ := hHC.out w3 HA3.out.low
              have HO3 : Hid ((w3.alloc (.cells #[.string (strB s)] 9)).ownsRow w1.heap.size 9 1 vv rs.length (recCells rs)) := by
                obtain ⟨_, _, _, _, _, _, t1, _⟩ := HA3.out
                exact t1.1.alloc _
              have HA4 := Lib.hid (HA3.out.below ((Below.refl _ _).alloc (Nat.le_refl _) (.cells #[.string (strB s)] 9)))
              have hbz : Hid (w1.heap.size ≤ (w3.alloc (.cells #[.string (strB s)] 9)).heap.size) := HA4.out.low.size
              clear HA3
              go_wp2_with (first
                | (at_builtin; refine wpList_append_own_at _ rfl (.tmp 75) (.tmp 83) 32 rfl w1.heap.size 9 i0 (.string .empty) 1 16 Tryz.underlying32 hi hi0 hi1 hi2 rfl (by decide) _ _ _ rfl HO3.out ⟨w3.heap.size, 0, none⟩ 1 1 (recCells [s]) rfl rfl (vals_new w3 _ _ _ _ rfl) (recCells_one _) (by have := HLEN.out; unfold maxLen; omega) (by have := HLEN.out; omega) hbz.out ?_; intro v4 w4 hown4 hgrow4 _ hat4; have HJ4 := Lib.hid (RowA.append HA4.out hown4 hgrow4 hat4); clear hown4 hgrow4 hat4))
              go_roundw
              case rel =>
                have h1 := HNB.out
                exact ⟨_, _, _, N2, k + 1, rs ++ [s], _, rfl, (by first | rfl | rw [hcast]), by go_num, by omega, by omega, by omega, by omega, by omega, by rw [List.length_append]; show _ + 1 ≤ _; omega, HJ4⟩
              case measure => simp [intOf]; omega
            · have h2 := hcode trivial (by have := HNB.out; omega)
              clear hcode hne
              rcases h2 with rfl | rfl
              all_goals
                go_wp2_with fail
                go_roundw
                case rel =>
                  have h1 := HNB.out
                  exact ⟨_, _, _, N2, k + 1, rs, _, rfl, (by first | rfl | rw [hcast]), by go_num, by omega, by omega, by omega, by omega, by omega, by omega, HJ3⟩
                case measure => simp [intOf]; omega
        · have HOP := Lib.hid (HI.out.opens HBA.out.1 HBA.out.2.2 (by omega))
          obtain ⟨va, vc, rfl⟩ := HI.out.form
          rw [HBA.out.2.1] at HOP
          clear HI hrow
          go_wp2_with fail
          refine HOP.out.mono ?_
          rintro e w5 ⟨jb5, ra, rc, r1, l1, rfl, hb5, hl5, hr5, hk5, hm5, hn5, ⟨own5, t5, u5⟩, HJ5⟩
          have hmm : ∀ x ∈ rs, x.length ≤ maxLen := fun x hx => by have := hm5 x hx; unfold maxLen; omega
          have HBA5 : Hid (Base r1 l1 ∧ lastP r1 = (0, []) ∧ recsR r1 (behindL r1 (lastP r1).1) = rs) := ⟨hb5, hl5, hr5⟩
          obtain ⟨rl, hrl2⟩ : ∃ rl, rs.length = rl := ⟨_, rfl⟩
          have HRL := Lib.hid hrl2
          have HS : Hid (Calls Tryz.prog 17 #[.slice ra rl rc, .slice va rl vc] w5 fun e w' => e = .returned (.bool true) ∧ ∃ n, w' = w5.drewN n) := by
            have hs := same_calls w5 ra va rc vc rs rs (t5.trow hmm) (u5.trow hmm) (by unfold maxLen; omega) (by unfold maxLen; omega)
            rw [hrl2] at hs
            exact hs.mono fun e w' h => ⟨by rw [h.1]; simp, h.2⟩
          rw [hrl2] at hrs HJ5 ⊢
          rw [show decide (0 < ((0, []) : Nat × List UInt8).1) = false from rfl]
          have HK5 : Hid (l1 ≤ l0 + K) := hk5
          clear hb5 hl5 hr5 hm5 hn5 t5 u5 hmm hrl2 HOP hk5
          go_wp2_with (go_at_call 17; refine HS.out.mono ?_; rintro e w6 ⟨rfl, nq, rfl⟩)
          go_roundw
          case rel =>
            have h1 := HK5.out
            exact ⟨jb5, l1, A + 201, 0, U, N, q + 1, r1, rs, rs, _, rfl, rfl, rfl, by go_num, by omega, by omega, by omega, by omega, by omega, by rw [HRL.out]; exact hrs, HBA5, Lib.hid (HJ5.out.below (below_drewN (Below.refl _ _) _))⟩
          case measure => simp [intOf]; omega
    · have HBW := Lib.hid (HB1.out.trans (HI.out.low.mono HB1.out.size))
      go_wp2_with fail
      go_ret
      exact ⟨rfl, HBW.out⟩

end Go.Proofs.YtdpbnacabinlgaaGreatDoor
namespace Go.Proofs.YtdpbnacabinlgaaGreatDoor
open Go.ChangeShapes Go.WideShapes Go.ChangeAt Go.RowKit Go.Lib Go.Deep Go.Joins
open Go.ChangeMaps (open_string shut_string)

namespace journalReopened
set_option maxRecDepth 100000 in
theorem lifted (os : Os) (started : os.Started) (H : Type) (enc : TypeId × Value → H) :
    ReturnsInHanded {} Tryz.checked os 8 .any (fun w args => (Rows.journalReopenedSpec.pre enc Tryz.prog Tryz.f8 [] false w args ∧ laidMetH Tryz.prog laidX w) ∧ sizedMet enc Tryz.prog Tryz.f8 (OpenSpec.ofChange Rows.journalReopenedSpec) false w args)
      (Rows.journalReopenedSpec.post enc Tryz.prog Tryz.f8 false true false false) := by
  refine returnsInHanded_of_change_and (C := Tryz.checked) (X := fun w _ => laidMetH Tryz.prog laidX w) (fun _ _ _ hh h => h.of_heap hh) xown_ started (by kernel_rfl) Tryz.func8
    (ChangeSpec.witness_shaped (enc := enc) (C := Tryz.checked) (os := os) (X := fun w _ => laidMetH Tryz.prog laidX w) false (World.doorLaid Tryz.prog 62 os) #[.slice none 0 0] 8 rfl (World.shaped_of_RefB (by kernel_rfl) (by kernel_rfl)) (by kernel_rfl) (by kernel_rfl) (by kernel_rfl) (xdoor_met os _)) ?_
  intro W base args ds gs before hval0 hW _ _ hL _
  have hT := vars_of_laid hL
  have hval : ∀ (j : Nat) t v, Tryz.f8.params[j]? = some t → args[j]? = some v → Value.okWide Tryz.prog W .any base t v := hval0
  have hW' := hW
  obtain ⟨p, q, hA0, hV, rfl, _, _⟩ := hW
  have hA : DataW.TrodAll enc Tryz.prog W 0 (fun _ => true) true Tryz.f8.params.toList args.toList ds p := hA0
  rw [Tryz.params8] at hA hval
  obtain ⟨v0, vs0, d0, ds0, p0, q0, hargs, rfl, rfl, h0, r0⟩ := trodAll_cons hA
  obtain ⟨rfl, rfl, rfl⟩ := trodAll_nil r0
  obtain rfl : args = #[v0] := by cases args; simp_all
  obtain ⟨rfl, rfl⟩ := trodVars_none hV
  have lt0 : ∀ x ∈ p0, x.block < W.heap.size := by obtain ⟨m, hm⟩ := h0; exact DataW.trod_lt m _ _ _ hm
  have k_0 := h0
  obtain ⟨a0, l0, c0, rfl⟩ := okWide_slice Tryz.underlying62 (hval 0 62 v0 rfl rfl)
  obtain ⟨m0, hm0⟩ := h0
  obtain ⟨rs0, rfl, hrs0, hl0⟩ := open_rows hm0
  clear hA0 hval0
  refine (reopened_walk hT a0 c0 rs0 hrs0 hl0).mono fun e W' ⟨he, bel⟩ => ?_
  subst he
  exact ⟨_, rfl, _, _, _, [], _, [], hW', trodAll_mk1 (shut_bool Tryz.underlying4 _), (trodAll_cons_mk (Below.trod xlaidOut (by kernel_rfl) (of_decide_eq_true (by kernel_rfl)) k_0 bel lt0) trodAll_mk0), rfl, bel.frame _, fun h => by cases h⟩

theorem row_holds : Rows.JournalReopenedSaid :=
  OpenClaim.holds_of_wide 8 Tryz.f8 rfl rfl rfl rfl rfl rfl rfl ⟨rfl, rfl, rfl, rfl, rfl⟩ rfl rfl rfl rfl rfl (by kernel_rfl) Tryz.func8 (by kernel_rfl)
    (of_decide_eq_true (by kernel_rfl)) (by unfold Func.isWrapper; first | (rw [if_pos (by decide +kernel)]; kernel_rfl) | (rw [if_neg (by decide +kernel)]; exact ⟨rfl, rfl⟩))
    (fun os started H enc _ => lifted os started H enc)

theorem holds : Rows.JournalReopenedCardSaid :=
  Claim7.holds_tied_plain_at .later [] [.data, .data, .data, .sentinel, .sentinel] true _ true row_holds (fun _ h => by cases h) (by kernel_rfl) (fun _ h => by cases h) journalReopened_row_tie rfl ⟨rfl, rfl⟩ (by kernel_rfl) rfl
    (fun f fn hf hfn => by
      obtain rfl : f = 8 := Option.some.inj ((show Tryz.prog.funcNamed "augury/augurylaw03.JournalReopened" = some 8 by kernel_rfl).symm.trans hf) |>.symm
      obtain rfl : fn = Tryz.f8 := (Option.some.inj (Tryz.func8.symm.trans hfn)).symm
      exact ⟨by kernel_rfl, fun j t ht => by
        rw [Tryz.params8] at ht
        have hm : t ∈ [62] := by simpa using Array.mem_of_getElem? ht
        have hall : ([62].all fun u => !Tryz.prog.wantsStandIn u) = true := by kernel_rfl
        exact (show Tryz.prog.wantsStandIn t = false by simpa using List.all_eq_true.1 hall t hm)⟩)
    (by kernel_rfl)
end journalReopened
end Go.Proofs.YtdpbnacabinlgaaGreatDoor

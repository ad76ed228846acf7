/- The statement FrameWrong, its walk. -/
import Derived.Test.YtmecpgnmeefpjaaFC
namespace Go.Proofs.Ytmecpgnmeefpjaa
open Go.RowKit Go.Lib

theorem owns_block {w : World} {B n : Nat} {v : Value} {F : List UInt8} (h : w.ownsRow B 5 1 v n (byteCells F)) (hn : 0 < n) : ∃ g cap, v = .slice (some ⟨g, 0, none⟩) n cap ∧ B ≤ g ∧ (∀ k, k < n → w.frozen? ⟨g, k, none⟩ = false) ∧ ∀ k x, F[k]? = some x → w.cell? ⟨g, k, none⟩ = some (.int .u8 x.toNat) := by
  have hc := fun g hg => h.cells (g := g) hg
  rcases h.2 with ⟨_, h1⟩ | ⟨g, cap, cur, rfl, h2, h3, _⟩
  · omega
  · refine ⟨g, cap, rfl, h2, fun k _ => by simp [World.frozen?, h3], fun k x hk => ?_⟩
    have h4 := hc g rfl k (.int .u8 x.toNat) (by simp [byteCells, hk])
    have hadd : (⟨g, 0, none⟩ : Addr).add k = ⟨g, k, none⟩ := by unfold Addr.add; split <;> simp_all
    rwa [hadd] at h4

set_option maxHeartbeats 8000000 in
set_option maxRecDepth 100000 in
theorem wrong_walk (w : World) (s : ByteArray) (at_ : Nat) (c : UInt8) (hs : s.size ≤ maxLen) (hat : at_ < 65536) :
    Calls Try.prog 7 #[.string s, .int .u16 at_, .int .u8 c.toNat] w (FFine w) := by
  have hp := put_calls s
  have Hms := Lib.hid hs
  unfold maxLen at hs
  by_cases hbig : 4096 < s.size
  · clear hp
    go_enter Try.func7, Try.ntmps7
    go_wp2_with fail
    refine (fhead_calls w).mono ?_
    rintro e w1 ⟨rfl, hb1⟩
    have HB1 := Lib.hid hb1
    clear hb1
    go_wp2_with fail
    go_ret
    exact ⟨rfl, HB1.out⟩
  have hsl : s.data.toList.length = s.size := by simp
  have hr4 : s.data.toList.length ≤ 4096 := by omega
  have Hr4 := Lib.hid hr4
  obtain ⟨q, hq⟩ : ∃ q, s.size = q := ⟨_, rfl⟩
  obtain ⟨nb, hnb⟩ : ∃ nb, nb = q + 5 := ⟨_, rfl⟩
  have hnb5 : 5 ≤ nb := by omega
  have hnb6 : nb ≤ 5000 := by omega
  have hnb0 : 0 < nb := by omega
  have hfl : (putB s.data.toList).length = nb := by rw [putB_ok hr4, frameB_length]; omega
  have hpb : putB s.data.toList = frameB s.data.toList := putB_ok hr4
  have Hfl := Lib.hid hfl
  have Hpb := Lib.hid hpb
  have Hsl := Lib.hid hsl
  have Hnb := Lib.hid hnb
  have Hq := Lib.hid hq
  have hq2 : s.size ≤ 4096 := by omega
  obtain ⟨K, hK⟩ : ∃ K, at_ % nb = K := ⟨_, rfl⟩
  have hKn : K < nb := by have := Nat.mod_lt at_ hnb0; omega
  have hKi : ((at_ : Nat) : Int) % (nb : Int) = (K : Int) := by rw [← hK]; norm_cast
  clear hsl hr4 hq hnb hfl hpb hK hbig
  go_enter Try.func7, Try.ntmps7
  go_wp2_with fail
  refine (fhead_calls w).mono ?_
  rintro e w1 ⟨rfl, hb1⟩
  have HB1 := Lib.hid hb1
  have hp1 := hp w1 Hms.out
  clear hb1 hp
  go_wp2_with fail
  refine hp1.mono ?_
  rintro e w2 ⟨v2, rfl, hown2, hb2⟩
  rw [Hfl.out, Hpb.out] at hown2
  have HB2 := Lib.hid (HB1.out.trans (hb2.mono HB1.out.size))
  obtain ⟨g, cap, rfl, hg1, hfz, hcl⟩ := owns_block hown2 hnb0
  have HO2 := Lib.hid hown2
  have HG := Lib.hid (Nat.le_trans HB1.out.size hg1)
  have hfr := hfz K hKn
  obtain ⟨y, hy⟩ : ∃ y, (frameB s.data.toList)[K]? = some y := ⟨_, List.getElem?_eq_getElem (by have := Hfl.out; rw [Hpb.out] at this; omega)⟩
  have hce := hcl K y hy
  have Hy := Lib.hid hy
  have hKi2 : (K : Int) < nb := by omega
  clear hp1 hown2 hb2 hg1 hfz hcl hy
  by_cases hyc : y = c
  · have ht : ((y.toNat : Int) == (c.toNat : Int)) = true := by rw [hyc]; simp
    clear hyc
    go_wp2_with fail
    go_ret
    exact ⟨rfl, HB2.out⟩
  have ht : ((y.toNat : Int) == (c.toNat : Int)) = false := by
    rw [beq_eq_false_iff_ne]
    intro e
    exact hyc (UInt8.toNat_inj.1 (by omega))
  have HYC := Lib.hid hyc
  have hc3 := cut_calls (w2.setCell ⟨g, K, none⟩ (.int .u8 c.toNat)) _ _ (BRow.of_owns (owns_store HO2.out hKn c)) (by rw [List.length_set, frameB_length, Hsl.out]; omega)
  have HB3 : Hid (Below w.heap.size w (w2.setCell ⟨g, K, none⟩ (.int .u8 c.toNat))) := HB2.out.setCell HG.out _
  clear hyc
  go_wp2_with fail
  refine hc3.mono ?_
  rintro e w4 ⟨v4, rfl, hown4, hb4⟩
  rw [hKi]
  have HB4 := Lib.hid (HB3.out.trans (hb4.mono HB3.out.size))
  obtain ⟨a4, c4, rfl, hl4⟩ : ∃ a cc, v4 = .slice a (cutB ((frameB s.data.toList).set K c)).length cc ∧ True := by
    rcases hown4.2 with ⟨h1, h2⟩ | ⟨g, cap, cur, h1, _⟩
    · exact ⟨_, 0, by rw [h1, h2], trivial⟩
    · exact ⟨_, _, h1, trivial⟩
  clear hc3 hown4 hb4 hl4 hfr hce HO2 hKi ht
  by_cases hk5 : 5 ≤ K
  · obtain ⟨j, rfl⟩ : ∃ j, K = j + 5 := ⟨K - 5, by omega⟩
    have hj : j < s.size := by rw [Hnb.out, ← Hq.out] at hKn; omega
    have hy1 : s.data.toList[j]? = some y := Hy.out
    have hyj : y = s[j] := by
      rw [List.getElem?_eq_getElem (by rw [Hsl.out]; exact hj)] at hy1
      injection hy1 with h1
      exact h1.symm
    have hcs : (s[j]).toNat < 256 := (s[j]).toNat_lt
    have hcc : c.toNat < 256 := c.toNat_lt
    have hj2 : (j : Int) ≤ 4096 := by omega
    have hj3 : (j : Int) < s.size := by omega
    have hk5' : (5 : Int) ≤ ((j + 5 : Nat) : Int) := by omega
    by_cases hm : ((c.toNat : Int) - (s[j].toNat : Int)).tmod 251 = 0
    · have ht2 : (((c.toNat : Int) - (s[j].toNat : Int)).tmod 251 == 0) = true := by rw [hm]; rfl
      obtain ⟨cn, hcn⟩ : ∃ cn, cutN ((frameB s.data.toList).set (j + 5) c) = cn := ⟨_, rfl⟩
      rw [hcn]
      clear hcn hm hyj hy1
      by_cases hc0 : cn = 0
      · subst hc0
        go_wp2_with fail
        go_ret
        exact ⟨rfl, HB4.out⟩
      · have ht3 : ((cn : Int) == 0) = false := by rw [beq_eq_false_iff_ne]; omega
        clear hc0
        go_wp2_with fail
        go_ret
        exact ⟨rfl, HB4.out⟩
    · have hcb : cutN ((frameB s.data.toList).set (j + 5) c) = 0 := by
        rw [cutN, cutB_none (wrong_rec Hr4.out hy1 (fun h0 => hm (by rw [← hyj]; exact Int.tmod_eq_zero_of_dvd (Int.dvd_of_emod_eq_zero h0))))]
        rfl
      rw [hcb]
      clear hcb hm hyj hy1
      go_wp2_with fail
      go_ret
      exact ⟨rfl, HB4.out⟩
  · have hd5 : decide ((5 : Int) ≤ (K : Int)) = false := by simp; omega
    have hyc := HYC.out
    have hyk : byteN (frameB s.data.toList) K = y.toNat := by
      unfold byteN
      rw [List.getD_eq_getElem?_getD, Hy.out]
      rfl
    have hne : c.toNat ≠ byteN (frameB s.data.toList) K := by
      rw [hyk]
      exact fun e => hyc (UInt8.toNat_inj.1 e.symm)
    by_cases hk12 : K = 1 ∨ K = 2
    · have hd3 : decide ((K : Int) < 3) = true := by simp; omega
      have hd0 : decide ((0 : Int) < (K : Int)) = true := by simp; omega
      have hd1 : 0 < K := by omega
      obtain ⟨cn, hcn⟩ : ∃ cn, cutN ((frameB s.data.toList).set K c) = cn := ⟨_, rfl⟩
      rw [hcn]
      by_cases hc0 : cn = 0
      · have hcb := cut_zero_iff (hcn.trans hc0)
        rw [hcb]
        subst hc0
        clear hcn hcb hyc hyk hne hk12 hk5
        go_wp2_with fail
        go_ret
        exact ⟨rfl, HB4.out⟩
      · have ht3 : ((cn : Int) == 0) = false := by rw [beq_eq_false_iff_ne]; omega
        clear hcn hc0 hyc hyk hne hk12 hk5
        go_wp2_with fail
        go_ret
        exact ⟨rfl, HB4.out⟩
    · have hcb : cutB ((frameB s.data.toList).set K c) = [] := by
        refine cutB_none ?_
        by_cases hk0 : K = 0
        · subst hk0
          exact wrong_mark (fun e => hne (by rw [e]; rfl))
        · exact wrong_sum Hr4.out (by omega) hne
      have hcn : cutN ((frameB s.data.toList).set K c) = 0 := by rw [cutN, hcb]; rfl
      rw [hcn, hcb]
      clear hcn hcb hyc hyk hne hk12 hk5
      go_wp2_with fail
      go_ret
      exact ⟨rfl, HB4.out⟩

end Go.Proofs.Ytmecpgnmeefpjaa

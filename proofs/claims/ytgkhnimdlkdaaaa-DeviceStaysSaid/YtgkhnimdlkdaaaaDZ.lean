/- The statement DeviceOther, its walk. -/
import Derived.Test.YtgkhnimdlkdaaaaDY
namespace Go.Proofs.Ytgkhnimdlkdaaaa
open Go.RowKit Go.Lib Go.Maps Go.ChangeMaps Go.Sort

theorem infoK : (Try.prog.info? 57).map (fun i => (i.zero, i.size, i.bytes)) = some (some (.agg #[.string .empty, .int .i64 0]), 2, 24) := by kernel_rfl

theorem toL_eq (a : ByteArray) : a.toList = a.data.toList := ByteArray.toList_eq a

theorem KArg.said {w : World} {own : Owner} {B : Nat} {v : Value} {s : ByteArray} {n : Nat} (h : w.ownsRow B 57 2 v 1 [.string s, .int .i64 n]) (ho : ∀ b, B ≤ b → own b = none) (hs : s.size ≤ maxLen) (hn : n ≤ 1000000) : ∃ a c, v = .slice a 1 c ∧ KArg w own v (saidK true s n) := by
  have hc := fun g hg => h.cells (g := g) hg
  rcases h.2 with ⟨_, h0⟩ | ⟨g, cap, cur, rfl, hg, _⟩
  · cases h0
  · refine ⟨_, cap, rfl, Or.inr ⟨⟨g, 0, none⟩, cap, rfl, fun _ => ho g hg, fun j s' m' hj => ?_⟩⟩
    match j, hj with
    | 0, hj =>
      simp [saidK] at hj
      obtain ⟨rfl, rfl⟩ := hj
      refine ⟨hc g rfl 0 _ rfl, hc g rfl 1 _ rfl, hs, ?_⟩
      have h1 : (decide ((-9223372036854775808 : Int) ≤ (n : Int)) && decide ((n : Int) ≤ 9223372036854775807)) = true := by simp; omega
      exact h1

theorem said_cells (w : World) (s : ByteArray) (n : Nat) : ∀ j u, ([.string s, .int .i64 n] : List Value)[j]? = some u → (w.alloc (.cells #[.string s, .int .i64 n] 57)).cell? ((⟨w.heap.size, 0, none⟩ : Addr).add j) = some u := by
  intro j u hu
  have hadd : (⟨w.heap.size, 0, none⟩ : Addr).add j = ⟨w.heap.size, j, none⟩ := by unfold Addr.add; split <;> simp_all
  rw [hadd]
  refine cell_of_blk (heap_alloc_new w _) ?_
  simpa using hu
theorem said_one (s : ByteArray) (n : Nat) : ∀ u ∈ ([.string s, .int .i64 n] : List Value), u.oneCell' = true := by
  intro u hu
  simp at hu
  rcases hu with rfl | rfl <;> rfl

/-- Reads go on. -/
def OtherR (w wr : World) (own : Owner) (db fb rb : Nat) (D : DataW Unit) (n : Nat) (m : DevM) : Prop := Dev True wr own db fb rb D (.map []) n m ∧ Step (fun _ => none) own w wr

set_option maxHeartbeats 8000000 in
set_option maxRecDepth 100000 in
theorem other_walk (la : Option Addr) (lc : Nat) (ls : List LogV) (name : ByteArray) (ba : Option Addr) (bc : Nat) (bs : List UInt8) (said : Bool) (w : World)
    (hls : LRow w la ls) (hl : ls.length ≤ maxLen) (hnm : name.size ≤ maxLen) (hbl : bs.length ≤ maxLen) (hb : BArg w (fun _ => none) (.slice ba bs.length bc) bs) :
    Calls Try.prog 8 #[.slice la ls.length lc, .string name, .slice ba bs.length bc, .bool said] w (Fine w) := by
  have Hls := Lib.hid hls
  have Hb := Lib.hid hb
  have Hnm : Hid (name.size ≤ maxLen) := hnm
  have hl' : Hid (ls.length ≤ maxLen) := hl
  have hof := fun w1 (h : LRow w1 la ls) => of_calls 4194304 la lc ls w1 (by omega) h hl'.out
  have hgl := fun w1 (h : LRow w1 la ls) => greatLogs_calls la lc ls w1 h hl'.out
  obtain ⟨l, hll⟩ : ∃ l, ls.length = l := ⟨_, rfl⟩
  obtain ⟨bl, hbl'⟩ : ∃ bl, bs.length = bl := ⟨_, rfl⟩
  rw [hll] at hl hof hgl ⊢
  rw [hbl'] at hbl Hb ⊢
  have Hof := Lib.hid hof
  have Hgl := Lib.hid hgl
  have Hl := Lib.hid hll
  have Hbl := Lib.hid hbl'
  unfold maxLen at hl hbl hnm
  clear hls hb hll hbl' hof hgl
  go_enter Try.func8, Try.ntmps8
  go_wp2_with fail
  refine (head_calls w).mono ?_
  rintro e w1 ⟨rfl, hb1⟩
  have Hb1 := Lib.hid hb1
  have Hls1 := Lib.hid (Hls.out.below hb1)
  clear hb1
  go_wp2_with fail
  refine (Hof.out w1 Hls1.out).mono ?_
  rintro e w2 (⟨rfl, hb2, _⟩ | ⟨db, fb, rb, own2, D2, n2, rfl, hok, h2, hn2, st2⟩)
  · have Hb2 := Lib.hid hb2
    clear hb2
    go_wp2_with fail
    go_ret
    exact Fine.below (Hb1.out.trans (Hb2.out.mono Hb1.out.size))
  have Hok := Lib.hid hok
  have H2 := Lib.hid h2
  have ST2 := Lib.hid ((below_step (fun _ => none) Hb1.out).trans st2)
  clear hok h2 st2
  go_wp2_with fail
  refine (Hgl.out w2 (Hls.out.below ST2.out.below)).mono ?_
  rintro e w3 ⟨g, rfl, hb3⟩
  have H3 := Lib.hid (H2.out.below hb3)
  have ST3 := Lib.hid (ST2.out.trans (below_step own2 hb3))
  clear hb3
  cases g with
  | true =>
    go_wp2_with fail
    go_ret
    exact Fine.below ST3.out.below
  | false =>
  by_cases hnb : 1000 < name.size
  · have d1 : decide ((1000 : Int) < (name.size : Int)) = true := by simp; omega
    go_wp2_with fail
    go_ret
    exact Fine.below ST3.out.below
  have d1 : decide ((1000 : Int) < (name.size : Int)) = false := by simp; omega
  by_cases hbb : 20000 < bl
  · have d2 : decide ((20000 : Int) < (bl : Int)) = true := by simp; omega
    go_wp2_with fail
    go_ret
    exact Fine.below ST3.out.below
  have d2 : decide ((20000 : Int) < (bl : Int)) = false := by simp; omega
  by_cases hlb : 60 < l
  · have d3 : decide ((60 : Int) < (l : Int)) = true := by simp; omega
    go_wp2_with fail
    go_ret
    exact Fine.below ST3.out.below
  have d3 : decide ((60 : Int) < (l : Int)) = false := by simp; omega
  have hrd := H3.out.read (s := name) Hnm.out
  obtain ⟨th, hth⟩ : ∃ th, (readM (ofM 4194304 ls) name.data.toList).2 = th := ⟨_, rfl⟩
  rw [hth] at hrd
  have Hth := Lib.hid hth
  have Hrd := Lib.hid hrd
  clear hrd hth
  go_wp2_with fail
  refine Hrd.out.mono ?_
  rintro e w4 ⟨v4, rfl, _, hb4⟩
  have H4 := Lib.hid (H3.out.below hb4)
  have ST4 := Lib.hid (ST3.out.trans (below_step own2 hb4))
  have hap := H4.out.append (by omega) (by show (0 : Int) ≤ _; omega) Hnm.out (Hb.out.step ST4.out)
  obtain ⟨sz, hsz⟩ : ∃ sz, Maps.size D2 = sz := ⟨_, rfl⟩
  obtain ⟨us, hus⟩ : ∃ us, usedD D2 (ofM 4194304 ls).files = us := ⟨_, rfl⟩
  rw [hsz, hus] at hap
  obtain ⟨ec, hec⟩ : ∃ ec, (apM 4194304 ls sz us name.data.toList bs).2 = ec := ⟨_, rfl⟩
  have Hec := Lib.hid hec
  have hap' : Hid (Calls Try.prog 16 #[.pointer (some ⟨db, 0, none⟩), .string name, .slice ba bl bc] w4 fun e w' => e = .returned (.int .i64 ec) ∧ ∃ own' D', Dev True w' own' db fb rb D' (.map []) (n2 + 1) (apM 4194304 ls sz us name.data.toList bs).1 ∧ Step own2 own' w4 w') := by
    rw [← hec]
    exact hap
  clear hb4 Hrd hap hsz hus hec
  go_wp2_with fail
  refine hap'.out.mono ?_
  rintro e w5 ⟨rfl, own5, D5, h5, st5⟩
  have HR5 : Hid (OtherR w w5 own5 db fb rb D5 (n2 + 1) (apM 4194304 ls sz us name.data.toList bs).1) := ⟨h5, ST4.out.trans st5⟩
  clear h5 st5 hap'
  go_wp2_with fail
  go_loopw [14] (fun i wr => ∃ k : Nat, k ≤ l ∧ i = .int .i64 k ∧ Hid (OtherR w wr own5 db fb rb D5 (n2 + 1) (apM 4194304 ls sz us name.data.toList bs).1)) (fun i _ => l - (intOf i).toNat)
  case atStart => exact ⟨0, Nat.zero_le _, rfl, HR5⟩
  case round =>
    obtain ⟨k, hk, rfl, HR⟩ := hrel
    by_cases hlt : k < l
    · obtain ⟨x, hx⟩ : ∃ x, ls[k]? = some x := ⟨_, List.getElem?_eq_getElem (by rw [Hl.out]; exact hlt)⟩
      obtain ⟨A, rfl, hat0⟩ := Hls.out k x hx
      have hat := hat0.below HR.out.2.below
      obtain ⟨hr2, hr1⟩ := ap_read (room := 4194304) (sz := sz) (used := us) (k := name.data.toList) (bs := bs) Hok.out hx
      have hrd := HR.out.1.read (s := x.name) hat.hname
      obtain ⟨xn, da, dc, ds⟩ := x
      have c0 := hat.c0
      dsimp only at c0 hrd
      unfold nmOf at hr2 hr1
      dsimp only at hr2 hr1
      rw [hr2] at hrd
      have Hr1 := Lib.hid hr1
      have Hrd := Lib.hid hrd
      have Hat0 := Lib.hid hat0
      have hk0 : (0 : Int) ≤ (k : Int) := by omega
      have hk1 : (k : Int) < (l : Int) := by omega
      clear hx hat0 hat hr2 hr1 hrd
      go_wp2_with fail
      refine Hrd.out.mono ?_
      rintro e w6 ⟨v6, rfl, hrow, hb6⟩
      have HR6 : Hid (OtherR w w6 own5 db fb rb D5 (n2 + 1) (apM 4194304 ls sz us name.data.toList bs).1) := ⟨HR.out.1.below hb6, HR.out.2.trans (below_step own5 hb6)⟩
      have hat6 := Hat0.out.below HR6.out.2.below
      have c0 := hat6.c0
      dsimp only at c0
      by_cases hne : xn.data.toList = name.data.toList
      · have ht : (xn.toList == name.toList) = true := by rw [toL_eq, toL_eq, hne]; exact beq_self_eq_true _
        clear hrow hb6 Hrd hat6 hne
        go_wp2_with fail
        go_quiet (fail)
        have HR7 : Hid (OtherR w (w6.drewN nq) own5 db fb rb D5 (n2 + 1) (apM 4194304 ls sz us name.data.toList bs).1) := ⟨HR6.out.1.below (below_drewN (Below.refl _ w6) nq), HR6.out.2.trans (below_step own5 (below_drewN (Below.refl _ w6) nq))⟩
        go_wp2_with fail
        go_roundw
        case rel => exact ⟨k + 1, by omega, by go_num, HR7⟩
        case measure => simp [intOf]; omega
      · have ht : (xn.toList == name.toList) = false := by rw [toL_eq, toL_eq, beq_eq_false_iff_ne]; exact hne
        have hrd1 := Hr1.out hne
        rw [hrd1] at hrow
        have hcv1 : ∀ nq, (convert 31 9 v6).run Try.prog (w6.drewN nq) = .ok (.string ⟨ds.toArray⟩) (w6.drewN nq) := fun nq => conv_row (ownsRow_of_block hrow (fun g hg => rfl))
        have hcv2 : ∀ nq, (convert 31 9 (.slice da ds.length dc)).run Try.prog (w6.drewN nq) = .ok (.string ⟨ds.toArray⟩) (w6.drewN nq) := fun nq => conv_barg (hat6.hb.step (below_step (fun _ => none) (below_drewN (Below.refl _ w6) nq)))
        have c1 := hat6.c1
        unfold fld at c1
        dsimp only at c1
        obtain ⟨x8, hx8⟩ : ∃ x8 : ByteArray, x8 = ⟨ds.toArray⟩ := ⟨_, rfl⟩
        rw [← hx8] at hcv1 hcv2
        obtain ⟨dl, hdl⟩ : ∃ dl, ds.length = dl := ⟨_, rfl⟩
        rw [hdl] at hcv2 c1
        clear hrow hb6 Hrd hat6 hne hrd1 hx8 hdl
        go_wp2_with fail
        go_quiet (fail)
        have HR7 : Hid (OtherR w (w6.drewN nq) own5 db fb rb D5 (n2 + 1) (apM 4194304 ls sz us name.data.toList bs).1) := ⟨HR6.out.1.below (below_drewN (Below.refl _ w6) nq), HR6.out.2.trans (below_step own5 (below_drewN (Below.refl _ w6) nq))⟩
        go_wp2_with fail
        go_roundw
        case rel => exact ⟨k + 1, by omega, by go_num, HR7⟩
        case measure => simp [intOf]; omega
    · by_cases he : ec = 0
      rotate_left
      · have t1 : (ec != 0) = true := by rw [bne_iff_ne]; exact he
        go_wp2_with fail
        go_ret
        exact Fine.below HR.out.2.below
      by_cases hh : th = 0
      · have t1 : (ec != 0) = false := by rw [bne_eq_false_iff_eq]; exact he
        have t2 : (th == 0) = true := by rw [beq_iff_eq]; exact hh
        clear he hh
        go_wp2_with fail
        go_ret
        exact Fine.below HR.out.2.below
      have t1 : (ec != 0) = false := by rw [bne_eq_false_iff_eq]; exact he
      have t2 : (th == 0) = false := by rw [beq_eq_false_iff_ne]; exact hh
      have He0 : Hid ((apM 4194304 ls sz us name.data.toList bs).2 = 0) := Hec.out.trans he
      have Hh0 : Hid ((readM (ofM 4194304 ls) name.data.toList).2 ≠ 0) := fun e => hh (Hth.out.symm.trans e)
      clear he hh
      cases said with
      | true =>
        obtain ⟨i0, hi, hz0, hz1, hz2⟩ := info_parts infoK
        have Hold : Hid (∀ b, wr.heap.size ≤ b → own5 b = none) := HR.out.1.old
        go_wp2_with (first
          | (at_builtin; refine wpList_append_own _ rfl (.tmp 101) (.tmp 106) 32 rfl wr.heap.size 57 i0 (.agg #[.string .empty, .int .i64 0]) 2 24 Try.underlying32 hi hz0 hz1 hz2 rfl (by decide) _ 0 _ rfl (World.ownsRow_nil _ _ _ _) ⟨wr.heap.size, 0, none⟩ 1 1 [.string name, .int .i64 bl] rfl rfl (said_cells wr name bl) (said_one name bl) (by unfold maxLen; omega) (by omega) (by simp) ?_; intro v8 w8 hown8 hgrow8 hnil8))
        have hb8 : Below wr.heap.size wr w8 := ((Below.refl _ wr).alloc (Nat.le_refl _) (.cells #[.string name, .int .i64 bl] 57)).grown hgrow8 (by simp) (fun q hq => by cases hq)
        have hown8' : w8.ownsRow wr.heap.size 57 2 v8 1 [.string name, .int .i64 bl] := by simpa using hown8
        obtain ⟨ak, ck, rfl, hkarg⟩ := KArg.said hown8' Hold.out Hnm.out (by omega)
        have hkl1 : (saidK true name bl).length = 1 := rfl
        have hb8' := HR.out.1.below hb8
        have ST8a := Lib.hid (HR.out.2.trans (below_step own5 hb8))
        have hkarg' : KArg w8 own5 (.slice ak 1 ck) (saidK true name bs.length) := by rw [Hbl.out]; exact hkarg
        have hcr := hb8'.crash trivial (by omega) hkarg' (by show (1 : Nat) ≤ _; omega)
        have Hcr := Lib.hid hcr
        clear hcr hb8 hown8 hown8' hgrow8 hnil8 hkarg hkarg' hkl1 hb8'
        go_wp2_with fail
        refine Hcr.out.mono ?_
        rintro e w9 ⟨rfl, own8, D8, h8, st8⟩
        have H8 := Lib.hid h8
        have ST8 := Lib.hid (ST8a.out.trans st8)
        have hrd := h8.read (s := name) Hnm.out
        rw [said_read true He0.out Hh0.out] at hrd
        have Hrd := Lib.hid hrd
        clear h8 st8 hrd Hcr
        go_wp2_with fail
        refine Hrd.out.mono ?_
        rintro e w10 ⟨v10, rfl, hrow10, hb10⟩
        have H9 := Lib.hid (H8.out.below hb10)
        have ST9 := Lib.hid (ST8.out.trans (below_step own8 hb10))
        have k1 : (convert 31 9 v10).run Try.prog w10 = .ok (.string ⟨bs.toArray⟩) w10 := conv_row hrow10
        have k2 := conv_barg (Hb.out.step ST9.out)
        obtain ⟨x8, hx8⟩ : ∃ x8 : ByteArray, x8 = ⟨bs.toArray⟩ := ⟨_, rfl⟩
        rw [← hx8] at k1 k2
        clear hb10 Hrd hrow10 hx8
        go_wp2_with fail
        refine (H9.out.names (by omega)).mono ?_
        rintro e w11 ⟨v11, ss, rfl, hperm, hrow, hb11⟩
        have hlen := H9.out.names_len hperm
        have hsz9 := said_size true Hok.out He0.out Hh0.out H9.out
        rw [Hl.out] at hsz9
        obtain ⟨a11, c11, rfl⟩ := row_slice hrow
        have ST10 := Lib.hid (ST9.out.trans (below_step own8 hb11))
        generalize ss.length = k10 at *
        have hge : l ≤ k10 := by omega
        clear hperm hrow hb11 hlen hsz9 k1 k2
        go_wp2_with fail
        go_ret
        exact Fine.below ST10.out.below
      | false =>
        have hcr := HR.out.1.crash trivial (by omega) (kv := .slice none 0 0) (ks := saidK false name bs.length) (Or.inl ⟨rfl, rfl⟩) (by show (0 : Nat) ≤ _; omega)
        have Hcr := Lib.hid hcr
        clear hcr
        go_wp2_with fail
        refine Hcr.out.mono ?_
        rintro e w8 ⟨rfl, own8, D8, h8, st8⟩
        have H8 := Lib.hid h8
        have ST8 := Lib.hid (HR.out.2.trans st8)
        have hrd := h8.read (s := name) Hnm.out
        rw [said_read false He0.out Hh0.out] at hrd
        have Hrd := Lib.hid hrd
        clear h8 st8 hrd Hcr
        go_wp2_with fail
        refine Hrd.out.mono ?_
        rintro e w9 ⟨v9, rfl, _, hb9⟩
        have H9 := Lib.hid (H8.out.below hb9)
        have ST9 := Lib.hid (ST8.out.trans (below_step own8 hb9))
        clear hb9 Hrd
        go_wp2_with fail
        refine (H9.out.names (by omega)).mono ?_
        rintro e w10 ⟨v10, ss, rfl, hperm, hrow, hb10⟩
        have hlen := H9.out.names_len hperm
        have hsz9 := said_size false Hok.out He0.out Hh0.out H9.out
        rw [Hl.out] at hsz9
        obtain ⟨a10, c10, rfl⟩ := row_slice hrow
        have ST10 := Lib.hid (ST9.out.trans (below_step own8 hb10))
        generalize ss.length = k10 at *
        have hge : l ≤ k10 := by omega
        clear hperm hrow hb10 hlen hsz9
        go_wp2_with fail
        go_ret
        exact Fine.below ST10.out.below

end Go.Proofs.Ytgkhnimdlkdaaaa

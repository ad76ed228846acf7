/- The statement EventBack, its walk. -/
import Derived.Test.YtppgecbjdkfohaaEIe
import Derived.Test.YtppgecbjdkfohaaF7
import Derived.Deep.RegionHeld
namespace Go.Proofs.Ytppgecbjdkfohaa
open Go.RowKit Go.Lib Go.Op

theorem eget_none {w : World} {v : Value} {bs : List UInt8} (hr : BRow w v bs) (h : getE bs = none) : Calls Try.prog 30 #[v] w fun e w' => e = .returned (.tuple #[.agg #[.int .i64 0, .int .i64 0, .int .i64 0, .string ⟨#[]⟩, .slice none 0 0], .bool false]) ∧ Below w.heap.size w w' := by
  have h1 := eget_calls w v bs hr
  rw [h] at h1
  exact h1.mono fun e w' ⟨h2, h3⟩ => ⟨h2, h3⟩

/-- What Get leaves of an event whose parts are known. -/
def BackGot (w : World) (t d s : Int) (n : ByteArray) (vs : List VIn) (e : Ending) (w' : World) : Prop := ∃ (a : Option Addr) (c : Nat), e = .returned (.tuple #[.agg #[.int .i64 t, .int .i64 d, .int .i64 s, .string n, .slice a vs.length c], .bool true]) ∧ VRow w' a vs ∧ Below w.heap.size w w'
theorem eget_back {w : World} {v : Value} {bs : List UInt8} (hr : BRow w v bs) {t d s : Int} {n : ByteArray} {vs : List VIn} (h : getE bs = some (pe t d s n vs)) : Calls Try.prog 30 #[v] w (BackGot w t d s n vs) := by
  have h1 := eget_calls w v bs hr
  rw [h] at h1
  refine h1.mono fun e w' ⟨n', a, c, vs', he, h2, _, h3, h4, h5⟩ => ?_
  obtain rfl : n' = n := by rw [← strB_of n', h2, ← strB_of n]; rfl
  obtain rfl : vs' = vs := pv_inj h3
  exact ⟨a, c, he, h4, h5⟩

theorem putE_len {p : PEv} (h : rightE p = true) : (putE p).length ≤ 800 := by
  obtain ⟨⟨_, t2⟩, ⟨_, s2⟩, ⟨_, d2⟩, hw, h8, _⟩ := rightE_iff.1 h
  have hw := (wordB_len hw).2
  rw [putE_right h]
  unfold bodyE
  have a1 := digsN_size p.ts.toNat (by omega)
  have a2 := digsN_size p.dep.toNat (by omega)
  have a3 := digsN_size p.seq.toNat (by omega)
  have a4 := digsN_size p.name.length (by omega)
  have a5 := digsN_size p.vals.length (by omega)
  have a6 := putVs_len p.vals
  simp only [List.length_append]
  omega

/-- An event as the program has it, of one in plain words. -/
theorem pe_of (p : PEv) (hl : rightE p = true) : ∃ (n : ByteArray) (vs : List VIn), pe p.ts p.dep p.seq n vs = p ∧ n.size ≤ 16 ∧ vs.length ≤ 8 := by
  obtain ⟨_, _, _, h4, h5, _⟩ := rightE_iff.1 hl
  refine ⟨strB p.name, p.vals.map fun v => (v.k, v.n, strB v.s), ?_, ?_, by simpa using h5⟩
  · refine pe_eq (strB_list _) ?_
    rw [List.map_map]
    conv => rhs; rw [← List.map_id p.vals]
    refine List.map_congr_left fun v _ => ?_
    simp only [Function.comp, pv, strB_list, id]
  · rw [strB_size]
    exact (wordB_len h4).2

/-- One event in its box. -/
structure OB (w : World) (A : EvIn) (W : World) : Prop where
  a : EC w.heap.size A W
  hb : Below w.heap.size w W
theorem OB.below {w : World} {A : EvIn} {W W' : World} (h : OB w A W) (hb : Below W.heap.size W W') : OB w A W' := ⟨h.a.below hb, h.hb.trans (hb.mono h.hb.size)⟩

set_option maxHeartbeats 8000000 in
set_option maxRecDepth 100000 in
theorem eback_fn (w : World) (t d s : Int) (n : ByteArray) (a : Option Addr) (c : Nat) (vs : List VIn) (hn : n.size ≤ maxLen) (hv : VRow w a vs) (hl : vs.length ≤ maxLen) (ab : Option Addr) (cb : Nat) (bs : List UInt8) (hb : BRow w (.slice ab bs.length cb) bs) (N : Nat) (_hN : N ≤ 65535) (C : UInt8) (hlb : ¬ 9000 < bs.length) (hr : rightE (pe t d s n vs) = false) (hg : getE bs = none) :
    Calls Try.prog 5 #[evV t d s n (.slice a vs.length c), .slice ab bs.length cb, .int .u16 N, .int .u8 C.toNat] w (EFine w) := by
  obtain ⟨a', c', e1, hcl, hcm⟩ := hb.len
  injection e1 with ea el ec
  subst ea
  subst ec
  clear el
  have hC := C.toNat_lt
  have HGr := Lib.hid (fun (W : World) (hb : Below w.heap.size w W) => greatE_calls t d s n a c vs W hn (hv.below hb) hl)
  have HPt := Lib.hid (fun (W : World) (hb : Below w.heap.size w W) => eput_calls t d s n a c vs W hn (hv.below hb) hl)
  have HV := Lib.hid hv
  have HLv := Lib.hid hl
  have hs0 : OB w ⟨t, d, s, n, .slice a vs.length c⟩ (w.alloc (.cells #[.int .i64 t, .int .i64 d, .int .i64 s, .string n, .slice a vs.length c] 25)) := ⟨EC.new _ ⟨t, d, s, n, .slice a vs.length c⟩ rfl, (Below.refl _ _).alloc (Nat.le_refl _) _⟩
  obtain ⟨lv, hlv⟩ : ∃ lv, vs.length = lv := ⟨_, rfl⟩
  have Hlv := Lib.hid hlv
  obtain ⟨lb, hlbe⟩ : ∃ lb, bs.length = lb := ⟨_, rfl⟩
  have Hlb := Lib.hid hlbe
  rw [hlv] at HGr HPt hs0 ⊢
  rw [hlbe] at hcl hlb hb ⊢
  have HBr := Lib.hid hb
  have HS0 := Lib.hid hs0
  unfold maxLen at hcm
  clear hv hl hn hlv hlbe hb hs0
  have HR := Lib.hid hr
  have HG := Lib.hid hg
  clear hr hg
  go_enter Try.func5, Try.ntmps5
  go_wp2_with fail
  refine (ehead_calls _).mono ?_
  rintro _ w1 ⟨rfl, hb1⟩
  have HH := Lib.hid (HS0.out.below hb1)
  obtain ⟨⟨p0, p1, p2, p3, p4⟩, _⟩ := HH.out
  clear hb1 HS0
  go_wp2_with fail
  refine (HGr.out _ HH.out.hb).mono ?_
  rintro _ w2 ⟨g, rfl, hb2⟩
  have HH := Lib.hid (HH.out.below hb2)
  obtain ⟨⟨p0, p1, p2, p3, p4⟩, _⟩ := HH.out
  clear hb2
  cases g with
  | true =>
    go_wp2
    go_ret
    exact ⟨rfl, HH.out.hb⟩
  | false =>
  go_wp2_with fail
  refine (HPt.out _ HH.out.hb).mono ?_
  rintro _ w3 ⟨v3, rfl, hown3, hb3⟩
  have HH := Lib.hid (HH.out.below hb3)
  obtain ⟨⟨p0, p1, p2, p3, p4⟩, _⟩ := HH.out
  have hrow3 := BRow.of_owns hown3
  clear hb3 hown3
  rw [putE_not HR.out] at hrow3
  obtain ⟨a3, c3, rfl, hc3, hcm3⟩ := hrow3.len
  rw [show ([] : List UInt8).length = 0 from rfl] at hc3 ⊢
  clear hrow3
  go_wp2_with fail
  have HBb := Lib.hid (HBr.out.below HH.out.hb)
  refine (eget_none HBb.out HG.out).mono ?_
  rintro _ w20 ⟨rfl, hb20⟩
  have HK := Lib.hid ((HH.out.hb.trans (hb20.mono HH.out.hb.size)).alloc (HH.out.hb.trans (hb20.mono HH.out.hb.size)).size (.cells #[.int .i64 0, .int .i64 0, .int .i64 0, .string ⟨#[]⟩, .slice none 0 0] 25))
  have HSz := Lib.hid (sameOne_calls 0 0 0 ⟨#[]⟩ none 0 none 0 [] (w20.alloc (.cells #[.int .i64 0, .int .i64 0, .int .i64 0, .string ⟨#[]⟩, .slice none 0 0] 25)) (fun j x hj => by simp at hj) (fun j x hj => by simp at hj) (by decide))
  clear hb20 HBb
  go_wp2_with (go_at_call 32; refine HSz.out.mono ?_; rintro e w21 ⟨rfl, hb21⟩)
  go_ret
  exact ⟨rfl, HK.out.trans (hb21.mono HK.out.size)⟩

set_option maxHeartbeats 8000000 in
set_option maxRecDepth 100000 in
theorem eback_fs (w : World) (t d s : Int) (n : ByteArray) (a : Option Addr) (c : Nat) (vs : List VIn) (hn : n.size ≤ maxLen) (hv : VRow w a vs) (hl : vs.length ≤ maxLen) (ab : Option Addr) (cb : Nat) (bs : List UInt8) (hb : BRow w (.slice ab bs.length cb) bs) (N : Nat) (_hN : N ≤ 65535) (C : UInt8) (hlb : ¬ 9000 < bs.length) (hr : rightE (pe t d s n vs) = false) (pz : PEv) (hg : getE bs = some pz) :
    Calls Try.prog 5 #[evV t d s n (.slice a vs.length c), .slice ab bs.length cb, .int .u16 N, .int .u8 C.toNat] w (EFine w) := by
  obtain ⟨a', c', e1, hcl, hcm⟩ := hb.len
  injection e1 with ea el ec
  subst ea
  subst ec
  clear el
  have hC := C.toNat_lt
  have HGr := Lib.hid (fun (W : World) (hb : Below w.heap.size w W) => greatE_calls t d s n a c vs W hn (hv.below hb) hl)
  have HPt := Lib.hid (fun (W : World) (hb : Below w.heap.size w W) => eput_calls t d s n a c vs W hn (hv.below hb) hl)
  have HV := Lib.hid hv
  have HLv := Lib.hid hl
  have hs0 : OB w ⟨t, d, s, n, .slice a vs.length c⟩ (w.alloc (.cells #[.int .i64 t, .int .i64 d, .int .i64 s, .string n, .slice a vs.length c] 25)) := ⟨EC.new _ ⟨t, d, s, n, .slice a vs.length c⟩ rfl, (Below.refl _ _).alloc (Nat.le_refl _) _⟩
  obtain ⟨lv, hlv⟩ : ∃ lv, vs.length = lv := ⟨_, rfl⟩
  have Hlv := Lib.hid hlv
  obtain ⟨lb, hlbe⟩ : ∃ lb, bs.length = lb := ⟨_, rfl⟩
  have Hlb := Lib.hid hlbe
  rw [hlv] at HGr HPt hs0 ⊢
  rw [hlbe] at hcl hlb hb ⊢
  have HBr := Lib.hid hb
  have HS0 := Lib.hid hs0
  unfold maxLen at hcm
  clear hv hl hn hlv hlbe hb hs0
  have HR := Lib.hid hr
  have HG := Lib.hid hg
  clear hr hg
  go_enter Try.func5, Try.ntmps5
  go_wp2_with fail
  refine (ehead_calls _).mono ?_
  rintro _ w1 ⟨rfl, hb1⟩
  have HH := Lib.hid (HS0.out.below hb1)
  obtain ⟨⟨p0, p1, p2, p3, p4⟩, _⟩ := HH.out
  clear hb1 HS0
  go_wp2_with fail
  refine (HGr.out _ HH.out.hb).mono ?_
  rintro _ w2 ⟨g, rfl, hb2⟩
  have HH := Lib.hid (HH.out.below hb2)
  obtain ⟨⟨p0, p1, p2, p3, p4⟩, _⟩ := HH.out
  clear hb2
  cases g with
  | true =>
    go_wp2
    go_ret
    exact ⟨rfl, HH.out.hb⟩
  | false =>
  go_wp2_with fail
  refine (HPt.out _ HH.out.hb).mono ?_
  rintro _ w3 ⟨v3, rfl, hown3, hb3⟩
  have HH := Lib.hid (HH.out.below hb3)
  obtain ⟨⟨p0, p1, p2, p3, p4⟩, _⟩ := HH.out
  have hrow3 := BRow.of_owns hown3
  clear hb3 hown3
  rw [putE_not HR.out] at hrow3
  obtain ⟨a3, c3, rfl, hc3, hcm3⟩ := hrow3.len
  rw [show ([] : List UInt8).length = 0 from rfl] at hc3 ⊢
  clear hrow3
  go_wp2_with fail
  have HBb := Lib.hid (HBr.out.below HH.out.hb)
  obtain ⟨hr2, hp2, he2⟩ := getE_some HG.out
  clear he2
  obtain ⟨n2, vs2, hpe2, hn2, hv2⟩ := pe_of _ hr2
  have hne2 := putE_ne hr2
  rw [hp2] at hne2
  have hlb0 : 0 < lb := by have := List.length_pos_iff.2 hne2; rw [Hlb.out] at this; exact this
  have HP2 := Lib.hid hp2
  have HPE := Lib.hid hpe2
  refine (eget_back HBb.out (HG.out.trans (congrArg some HPE.out.symm))).mono ?_
  rintro _ w20 ⟨a5, c5, rfl, hr20, hb20⟩
  have HB20 : Hid (Below w.heap.size w w20) := HH.out.hb.trans (hb20.mono HH.out.hb.size)
  obtain ⟨l5, hl5⟩ : ∃ l5, vs2.length = l5 := ⟨_, rfl⟩
  have Hl5 := Lib.hid hl5
  have HV5 := Lib.hid hr20
  rw [hl5] at hv2 ⊢
  clear hb20 HBb hr2 hp2 hpe2 hne2 hl5 hr20 HH
  go_upto_region 14 with fail
  obtain ⟨W, hW⟩ : ∃ W, W = w20.alloc (.cells #[.int .i64 pz.ts, .int .i64 pz.dep, .int .i64 pz.seq, .string n2, .slice a5 l5 c5] 25) := ⟨_, rfl⟩
  have hBW : Below w.heap.size w W := by rw [hW]; exact HB20.out.alloc HB20.out.size _
  have hEC : EC w20.heap.size ⟨pz.ts, pz.dep, pz.seq, n2, .slice a5 l5 c5⟩ W := by rw [hW]; exact EC.new _ ⟨pz.ts, pz.dep, pz.seq, n2, .slice a5 l5 c5⟩ rfl
  have hVW : VRow W a5 vs2 := by rw [hW]; exact HV5.out.below ((Below.refl _ _).alloc (Nat.le_refl _) _)
  rw [← hW]
  clear hW HB20 HV5
  generalize w20.heap.size = Y at *
  obtain ⟨c0, c1, c2, c3', c4'⟩ : EC Y ⟨pz.ts, pz.dep, pz.seq, n2, .slice a5 l5 c5⟩ W.drew := hEC
  dsimp only at c0 c1 c2 c3' c4'
  have hbm : BRow W.drew (.slice ab lb cb) bs := HBr.out.below (vbelow_drew hBW)
  have hcv := conv_brow hbm
  have Hbm := Lib.hid hbm
  have Hbb : Hid (Below w.heap.size w W.drew) := vbelow_drew hBW
  have HCP0 := eput_calls pz.ts pz.dep pz.seq n2 a5 c5 vs2 W.drew (by unfold maxLen; omega) hVW (by rw [Hl5.out]; unfold maxLen; omega)
  rw [HPE.out, HP2.out, Hl5.out] at HCP0
  have HCP : Hid (Calls Try.prog 26 #[.agg #[.int .i64 pz.ts, .int .i64 pz.dep, .int .i64 pz.seq, .string n2, .slice a5 l5 c5]] W.drew fun e W' => ∃ va, e = .returned va ∧ (convert 40 9 va).run Try.prog W' = .ok (.string (strB bs)) W' ∧ W'.cell? ⟨Y, 0, none⟩ = some (.int .i64 pz.ts) ∧ W'.cell? ⟨Y, 1, none⟩ = some (.int .i64 pz.dep) ∧ W'.cell? ⟨Y, 2, none⟩ = some (.int .i64 pz.seq) ∧ W'.cell? ⟨Y, 3, none⟩ = some (.string n2) ∧ W'.cell? ⟨Y, 4, none⟩ = some (.slice a5 l5 c5) ∧ (convert 40 9 (.slice ab lb cb)).run Try.prog W' = .ok (.string (strB bs)) W' ∧ Hid (Below w.heap.size w W')) :=
    HCP0.mono fun e W' ⟨va, he, ho, hb⟩ => ⟨va, he, conv_brow (BRow.of_owns ho), ekeep hb c0, ekeep hb c1, ekeep hb c2, ekeep hb c3', ekeep hb c4', conv_brow (hbm.below hb), Hbb.out.trans (hb.mono Hbb.out.size)⟩
  generalize strB bs = xs at *
  clear HCP0 hbm hVW hBW
  go_region_held (fun W => W.cell? ⟨Y, 0, none⟩ = some (.int .i64 pz.ts) ∧ W.cell? ⟨Y, 1, none⟩ = some (.int .i64 pz.dep) ∧ W.cell? ⟨Y, 2, none⟩ = some (.int .i64 pz.seq) ∧ W.cell? ⟨Y, 3, none⟩ = some (.string n2) ∧ W.cell? ⟨Y, 4, none⟩ = some (.slice a5 l5 c5) ∧ (convert 40 9 (.slice ab lb cb)).run Try.prog W = .ok (.string xs) W ∧ Hid (Below w.heap.size w W))
    ((refine ⟨?_, ?_, ?_, ?_, ?_, ?_, ?_⟩ <;> assumption))
    (first | (go_at_call 26; refine HCP.out.mono ?_; rintro e w9 ⟨va, rfl, hva, g0, g1, g2, g3, g4, g5, g6⟩))
  all_goals
    go_wp2
    go_ret
    exact ⟨rfl, g6.out⟩

set_option maxHeartbeats 8000000 in
set_option maxRecDepth 100000 in
theorem eback_tn (w : World) (t d s : Int) (n : ByteArray) (a : Option Addr) (c : Nat) (vs : List VIn) (hn : n.size ≤ maxLen) (hv : VRow w a vs) (hl : vs.length ≤ maxLen) (ab : Option Addr) (cb : Nat) (bs : List UInt8) (hb : BRow w (.slice ab bs.length cb) bs) (N : Nat) (_hN : N ≤ 65535) (C : UInt8) (hlb : ¬ 9000 < bs.length) (hr : rightE (pe t d s n vs) = true) (hg : getE bs = none) :
    Calls Try.prog 5 #[evV t d s n (.slice a vs.length c), .slice ab bs.length cb, .int .u16 N, .int .u8 C.toNat] w (EFine w) := by
  obtain ⟨a', c', e1, hcl, hcm⟩ := hb.len
  injection e1 with ea el ec
  subst ea
  subst ec
  clear el
  have hC := C.toNat_lt
  have HGr := Lib.hid (fun (W : World) (hb : Below w.heap.size w W) => greatE_calls t d s n a c vs W hn (hv.below hb) hl)
  have HPt := Lib.hid (fun (W : World) (hb : Below w.heap.size w W) => eput_calls t d s n a c vs W hn (hv.below hb) hl)
  have HV := Lib.hid hv
  have HLv := Lib.hid hl
  have hs0 : OB w ⟨t, d, s, n, .slice a vs.length c⟩ (w.alloc (.cells #[.int .i64 t, .int .i64 d, .int .i64 s, .string n, .slice a vs.length c] 25)) := ⟨EC.new _ ⟨t, d, s, n, .slice a vs.length c⟩ rfl, (Below.refl _ _).alloc (Nat.le_refl _) _⟩
  obtain ⟨lv, hlv⟩ : ∃ lv, vs.length = lv := ⟨_, rfl⟩
  have Hlv := Lib.hid hlv
  obtain ⟨lb, hlbe⟩ : ∃ lb, bs.length = lb := ⟨_, rfl⟩
  have Hlb := Lib.hid hlbe
  rw [hlv] at HGr HPt hs0 ⊢
  rw [hlbe] at hcl hlb hb ⊢
  have HBr := Lib.hid hb
  have HS0 := Lib.hid hs0
  unfold maxLen at hcm
  clear hv hl hn hlv hlbe hb hs0
  have HR := Lib.hid hr
  have HG := Lib.hid hg
  have hge := getE_put hr
  have hne := putE_ne hr
  have hcut := fun m (h : m < (putE (pe t d s n vs)).length) => getE_cut hr h
  have hmore := getE_more hr C
  obtain ⟨y, hy⟩ : ∃ y, putE (pe t d s n vs) = y := ⟨_, rfl⟩
  rw [hy] at HPt hge hne hcut hmore
  obtain ⟨L, hL⟩ : ∃ L, y.length = L := ⟨_, rfl⟩
  have hL0 : 0 < L := by
    have := List.length_pos_iff.2 hne
    omega
  rw [hL] at hcut
  have hL8 : L ≤ 800 := by rw [← hL, ← hy]; exact putE_len hr
  have hmod : N % L < L := Nat.mod_lt _ hL0
  have hct := hcut (N % L) hmod
  obtain ⟨q, hq⟩ : ∃ q, N % L = q := ⟨_, rfl⟩
  rw [hq] at hmod hct
  have hqi : ((N : Int) % (L : Int)) = (q : Int) := by omega
  have HGE := Lib.hid hge
  have HCT := Lib.hid hct
  have HMO := Lib.hid hmore
  have HL := Lib.hid hL
  have HC := Lib.hid hC
  clear hr hg hge hne hcut hmore hy hL hct hq hC
  go_enter Try.func5, Try.ntmps5
  go_wp2_with fail
  refine (ehead_calls _).mono ?_
  rintro _ w1 ⟨rfl, hb1⟩
  have HH := Lib.hid (HS0.out.below hb1)
  obtain ⟨⟨p0, p1, p2, p3, p4⟩, _⟩ := HH.out
  clear hb1 HS0
  go_wp2_with fail
  refine (HGr.out _ HH.out.hb).mono ?_
  rintro _ w2 ⟨g, rfl, hb2⟩
  have HH := Lib.hid (HH.out.below hb2)
  obtain ⟨⟨p0, p1, p2, p3, p4⟩, _⟩ := HH.out
  clear hb2
  cases g with
  | true =>
    go_wp2
    go_ret
    exact ⟨rfl, HH.out.hb⟩
  | false =>
  go_wp2_with fail
  refine (HPt.out _ HH.out.hb).mono ?_
  rintro _ w3 ⟨v3, rfl, hown3, hb3⟩
  have HH := Lib.hid (HH.out.below hb3)
  obtain ⟨⟨p0, p1, p2, p3, p4⟩, _⟩ := HH.out
  have hrow3 := BRow.of_owns hown3
  clear hb3 hown3
  obtain ⟨a3, c3, rfl, hc3, hcm3⟩ := hrow3.len
  rw [HL.out] at hrow3 hc3 ⊢
  have H3 := Lib.hid hrow3
  unfold maxLen at hcm3
  have hG3 := eget_back hrow3 HGE.out
  clear hrow3
  go_wp2_with fail
  refine hG3.mono ?_
  rintro _ w4 ⟨a4, c4, rfl, hr4, hb4⟩
  rw [Hlv.out]
  have HH := Lib.hid ((HH.out.below hb4).below ((Below.refl _ w4).alloc (Nat.le_refl _) (.cells #[.int .i64 t, .int .i64 d, .int .i64 s, .string n, .slice a4 lv c4] 25)))
  have HF := Lib.hid (EC.new w4 ⟨t, d, s, n, .slice a4 lv c4⟩ rfl)
  have HV4 := Lib.hid (hr4.below ((Below.refl _ w4).alloc (Nat.le_refl _) (.cells #[.int .i64 t, .int .i64 d, .int .i64 s, .string n, .slice a4 lv c4] 25)))
  have H3 := Lib.hid ((H3.out.below hb4).below ((Below.refl _ w4).alloc (Nat.le_refl _) (.cells #[.int .i64 t, .int .i64 d, .int .i64 s, .string n, .slice a4 lv c4] 25)))
  have hrq := H3.out.first (m := q) (by rw [HL.out]; omega)
  have hG5 := eget_none hrq HCT.out
  clear hG3 hr4 hb4 hrq p0 p1 p2 p3 p4
  go_wp2_with fail
  refine hG5.mono ?_
  rintro _ w6 ⟨rfl, hb6⟩
  have hz : Below _ _ (w6.alloc (.cells #[.int .i64 0, .int .i64 0, .int .i64 0, .string ⟨#[]⟩, .slice none 0 0] 25)) := hb6.alloc hb6.size _
  have HH := Lib.hid (HH.out.below hz)
  have HF := Lib.hid (HF.out.below hz)
  have HV4 := Lib.hid (HV4.out.below hz)
  have H3 := Lib.hid (H3.out.below hz)
  obtain ⟨W7, hW7⟩ : ∃ W, W = w6.alloc (.cells #[.int .i64 0, .int .i64 0, .int .i64 0, .string ⟨#[]⟩, .slice none 0 0] 25) := ⟨_, rfl⟩
  rw [← hW7] at HH HF HV4 H3
  clear hG5 hb6 hz
  go_upto_region 8 with fail
  rw [← hW7]
  clear hW7
  generalize w4.heap.size = F at *
  have HOE := Lib.hid (ownsRow_empty W7 5 (B := W7.heap.size) (Nat.le_refl _))
  have HB8 := Lib.hid ((Below.refl W7.heap.size W7).alloc (Nat.le_refl _) (.cells #[] 5))
  have hcs : (#[Value.int .u8 C.toNat] : Array Value).toList = byteCells [C] := rfl
  go_wp2_with (first
    | (at_builtin; refine wpList_append_brow rfl (.tmp 50) (.tmp 51) rfl (H3.out.below HB8.out) HOE.out (by rw [HL.out]; omega) HB8.out.size rfl rfl ?_; intro v8 w8 hown8 hgrow8; have HB9 := Lib.hid (HB8.out.grown hgrow8 HB8.out.size (fun q hq => (HOE.out.lt q hq).1)); rw [Nat.zero_add, List.nil_append] at hown8; have HO9 := Lib.hid (hown8.alloc (.cells #[.int .u8 C.toNat] 5)); have HB10 := Lib.hid (HB9.out.alloc HB9.out.size (.cells #[.int .u8 C.toNat] 5)); have HRC := Lib.hid (brow_new w8 [C] #[.int .u8 C.toNat] 5 (0, 0) rfl 1 (Nat.le_refl 1) (by unfold maxLen; decide)); clear hown8 hgrow8)
    | (at_builtin; refine wpList_append_brow rfl (.tmp 52) (.tmp 54) rfl HRC.out HO9.out (by rw [HL.out]; simp; omega) HB10.out.size rfl rfl ?_; intro v9 w9 hown9 hgrow9; have HB11 := Lib.hid (HB10.out.grown hgrow9 HB10.out.size (fun q hq => (HO9.out.lt q hq).1)); have HO11 := Lib.hid (BRow.of_owns hown9); clear hown9 hgrow9))
  refine (eget_none HO11.out HMO.out).mono ?_
  rintro _ w12 ⟨rfl, hb12⟩
  have hz : Below W7.heap.size W7 (w12.alloc (.cells #[.int .i64 0, .int .i64 0, .int .i64 0, .string ⟨#[]⟩, .slice none 0 0] 25)) := (HB11.out.trans (hb12.mono HB11.out.size)).alloc (HB11.out.trans (hb12.mono HB11.out.size)).size _
  have HH := Lib.hid (HH.out.below hz)
  have HF := Lib.hid (HF.out.below hz)
  have HV4 := Lib.hid (HV4.out.below hz)
  obtain ⟨⟨p0, p1, p2, p3, p4⟩, _⟩ := HH.out
  obtain ⟨f0, f1, f2, f3, f4⟩ := HF.out
  have HSm := sameOne_calls t d s n a c a4 c4 vs _ (HV.out.below HH.out.hb) HV4.out HLv.out
  rw [Hlv.out] at HSm
  have HSm := Lib.hid HSm
  clear hb12 hz HB8 HB9 HB10 HB11 HO9 HO11 HRC HOE H3
  go_wp2_with (go_at_call 32; refine HSm.out.mono ?_; rintro e w13 ⟨rfl, hb13⟩)
  have HH := Lib.hid (HH.out.below hb13)
  clear hb13 HSm p0 p1 p2 p3 p4 f0 f1 f2 f3 f4 HF HV4
  go_wp2_with fail
  have HBb := Lib.hid (HBr.out.below HH.out.hb)
  refine (eget_none HBb.out HG.out).mono ?_
  rintro _ w20 ⟨rfl, hb20⟩
  have HK := Lib.hid ((HH.out.hb.trans (hb20.mono HH.out.hb.size)).alloc (HH.out.hb.trans (hb20.mono HH.out.hb.size)).size (.cells #[.int .i64 0, .int .i64 0, .int .i64 0, .string ⟨#[]⟩, .slice none 0 0] 25))
  have HSz := Lib.hid (sameOne_calls 0 0 0 ⟨#[]⟩ none 0 none 0 [] (w20.alloc (.cells #[.int .i64 0, .int .i64 0, .int .i64 0, .string ⟨#[]⟩, .slice none 0 0] 25)) (fun j x hj => by simp at hj) (fun j x hj => by simp at hj) (by decide))
  clear hb20 HBb
  go_wp2_with (go_at_call 32; refine HSz.out.mono ?_; rintro e w21 ⟨rfl, hb21⟩)
  go_ret
  exact ⟨rfl, HK.out.trans (hb21.mono HK.out.size)⟩

set_option maxHeartbeats 8000000 in
set_option maxRecDepth 100000 in
theorem eback_ts (w : World) (t d s : Int) (n : ByteArray) (a : Option Addr) (c : Nat) (vs : List VIn) (hn : n.size ≤ maxLen) (hv : VRow w a vs) (hl : vs.length ≤ maxLen) (ab : Option Addr) (cb : Nat) (bs : List UInt8) (hb : BRow w (.slice ab bs.length cb) bs) (N : Nat) (_hN : N ≤ 65535) (C : UInt8) (hlb : ¬ 9000 < bs.length) (hr : rightE (pe t d s n vs) = true) (pz : PEv) (hg : getE bs = some pz) :
    Calls Try.prog 5 #[evV t d s n (.slice a vs.length c), .slice ab bs.length cb, .int .u16 N, .int .u8 C.toNat] w (EFine w) := by
  obtain ⟨a', c', e1, hcl, hcm⟩ := hb.len
  injection e1 with ea el ec
  subst ea
  subst ec
  clear el
  have hC := C.toNat_lt
  have HGr := Lib.hid (fun (W : World) (hb : Below w.heap.size w W) => greatE_calls t d s n a c vs W hn (hv.below hb) hl)
  have HPt := Lib.hid (fun (W : World) (hb : Below w.heap.size w W) => eput_calls t d s n a c vs W hn (hv.below hb) hl)
  have HV := Lib.hid hv
  have HLv := Lib.hid hl
  have hs0 : OB w ⟨t, d, s, n, .slice a vs.length c⟩ (w.alloc (.cells #[.int .i64 t, .int .i64 d, .int .i64 s, .string n, .slice a vs.length c] 25)) := ⟨EC.new _ ⟨t, d, s, n, .slice a vs.length c⟩ rfl, (Below.refl _ _).alloc (Nat.le_refl _) _⟩
  obtain ⟨lv, hlv⟩ : ∃ lv, vs.length = lv := ⟨_, rfl⟩
  have Hlv := Lib.hid hlv
  obtain ⟨lb, hlbe⟩ : ∃ lb, bs.length = lb := ⟨_, rfl⟩
  have Hlb := Lib.hid hlbe
  rw [hlv] at HGr HPt hs0 ⊢
  rw [hlbe] at hcl hlb hb ⊢
  have HBr := Lib.hid hb
  have HS0 := Lib.hid hs0
  unfold maxLen at hcm
  clear hv hl hn hlv hlbe hb hs0
  have HR := Lib.hid hr
  have HG := Lib.hid hg
  have hge := getE_put hr
  have hne := putE_ne hr
  have hcut := fun m (h : m < (putE (pe t d s n vs)).length) => getE_cut hr h
  have hmore := getE_more hr C
  obtain ⟨y, hy⟩ : ∃ y, putE (pe t d s n vs) = y := ⟨_, rfl⟩
  rw [hy] at HPt hge hne hcut hmore
  obtain ⟨L, hL⟩ : ∃ L, y.length = L := ⟨_, rfl⟩
  have hL0 : 0 < L := by
    have := List.length_pos_iff.2 hne
    omega
  rw [hL] at hcut
  have hL8 : L ≤ 800 := by rw [← hL, ← hy]; exact putE_len hr
  have hmod : N % L < L := Nat.mod_lt _ hL0
  have hct := hcut (N % L) hmod
  obtain ⟨q, hq⟩ : ∃ q, N % L = q := ⟨_, rfl⟩
  rw [hq] at hmod hct
  have hqi : ((N : Int) % (L : Int)) = (q : Int) := by omega
  have HGE := Lib.hid hge
  have HCT := Lib.hid hct
  have HMO := Lib.hid hmore
  have HL := Lib.hid hL
  have HC := Lib.hid hC
  clear hr hg hge hne hcut hmore hy hL hct hq hC
  go_enter Try.func5, Try.ntmps5
  go_wp2_with fail
  refine (ehead_calls _).mono ?_
  rintro _ w1 ⟨rfl, hb1⟩
  have HH := Lib.hid (HS0.out.below hb1)
  obtain ⟨⟨p0, p1, p2, p3, p4⟩, _⟩ := HH.out
  clear hb1 HS0
  go_wp2_with fail
  refine (HGr.out _ HH.out.hb).mono ?_
  rintro _ w2 ⟨g, rfl, hb2⟩
  have HH := Lib.hid (HH.out.below hb2)
  obtain ⟨⟨p0, p1, p2, p3, p4⟩, _⟩ := HH.out
  clear hb2
  cases g with
  | true =>
    go_wp2
    go_ret
    exact ⟨rfl, HH.out.hb⟩
  | false =>
  go_wp2_with fail
  refine (HPt.out _ HH.out.hb).mono ?_
  rintro _ w3 ⟨v3, rfl, hown3, hb3⟩
  have HH := Lib.hid (HH.out.below hb3)
  obtain ⟨⟨p0, p1, p2, p3, p4⟩, _⟩ := HH.out
  have hrow3 := BRow.of_owns hown3
  clear hb3 hown3
  obtain ⟨a3, c3, rfl, hc3, hcm3⟩ := hrow3.len
  rw [HL.out] at hrow3 hc3 ⊢
  have H3 := Lib.hid hrow3
  unfold maxLen at hcm3
  have hG3 := eget_back hrow3 HGE.out
  clear hrow3
  go_wp2_with fail
  refine hG3.mono ?_
  rintro _ w4 ⟨a4, c4, rfl, hr4, hb4⟩
  rw [Hlv.out]
  have HH := Lib.hid ((HH.out.below hb4).below ((Below.refl _ w4).alloc (Nat.le_refl _) (.cells #[.int .i64 t, .int .i64 d, .int .i64 s, .string n, .slice a4 lv c4] 25)))
  have HF := Lib.hid (EC.new w4 ⟨t, d, s, n, .slice a4 lv c4⟩ rfl)
  have HV4 := Lib.hid (hr4.below ((Below.refl _ w4).alloc (Nat.le_refl _) (.cells #[.int .i64 t, .int .i64 d, .int .i64 s, .string n, .slice a4 lv c4] 25)))
  have H3 := Lib.hid ((H3.out.below hb4).below ((Below.refl _ w4).alloc (Nat.le_refl _) (.cells #[.int .i64 t, .int .i64 d, .int .i64 s, .string n, .slice a4 lv c4] 25)))
  have hrq := H3.out.first (m := q) (by rw [HL.out]; omega)
  have hG5 := eget_none hrq HCT.out
  clear hG3 hr4 hb4 hrq p0 p1 p2 p3 p4
  go_wp2_with fail
  refine hG5.mono ?_
  rintro _ w6 ⟨rfl, hb6⟩
  have hz : Below _ _ (w6.alloc (.cells #[.int .i64 0, .int .i64 0, .int .i64 0, .string ⟨#[]⟩, .slice none 0 0] 25)) := hb6.alloc hb6.size _
  have HH := Lib.hid (HH.out.below hz)
  have HF := Lib.hid (HF.out.below hz)
  have HV4 := Lib.hid (HV4.out.below hz)
  have H3 := Lib.hid (H3.out.below hz)
  obtain ⟨W7, hW7⟩ : ∃ W, W = w6.alloc (.cells #[.int .i64 0, .int .i64 0, .int .i64 0, .string ⟨#[]⟩, .slice none 0 0] 25) := ⟨_, rfl⟩
  rw [← hW7] at HH HF HV4 H3
  clear hG5 hb6 hz
  go_upto_region 8 with fail
  rw [← hW7]
  clear hW7
  generalize w4.heap.size = F at *
  have HOE := Lib.hid (ownsRow_empty W7 5 (B := W7.heap.size) (Nat.le_refl _))
  have HB8 := Lib.hid ((Below.refl W7.heap.size W7).alloc (Nat.le_refl _) (.cells #[] 5))
  have hcs : (#[Value.int .u8 C.toNat] : Array Value).toList = byteCells [C] := rfl
  go_wp2_with (first
    | (at_builtin; refine wpList_append_brow rfl (.tmp 50) (.tmp 51) rfl (H3.out.below HB8.out) HOE.out (by rw [HL.out]; omega) HB8.out.size rfl rfl ?_; intro v8 w8 hown8 hgrow8; have HB9 := Lib.hid (HB8.out.grown hgrow8 HB8.out.size (fun q hq => (HOE.out.lt q hq).1)); rw [Nat.zero_add, List.nil_append] at hown8; have HO9 := Lib.hid (hown8.alloc (.cells #[.int .u8 C.toNat] 5)); have HB10 := Lib.hid (HB9.out.alloc HB9.out.size (.cells #[.int .u8 C.toNat] 5)); have HRC := Lib.hid (brow_new w8 [C] #[.int .u8 C.toNat] 5 (0, 0) rfl 1 (Nat.le_refl 1) (by unfold maxLen; decide)); clear hown8 hgrow8)
    | (at_builtin; refine wpList_append_brow rfl (.tmp 52) (.tmp 54) rfl HRC.out HO9.out (by rw [HL.out]; simp; omega) HB10.out.size rfl rfl ?_; intro v9 w9 hown9 hgrow9; have HB11 := Lib.hid (HB10.out.grown hgrow9 HB10.out.size (fun q hq => (HO9.out.lt q hq).1)); have HO11 := Lib.hid (BRow.of_owns hown9); clear hown9 hgrow9))
  refine (eget_none HO11.out HMO.out).mono ?_
  rintro _ w12 ⟨rfl, hb12⟩
  have hz : Below W7.heap.size W7 (w12.alloc (.cells #[.int .i64 0, .int .i64 0, .int .i64 0, .string ⟨#[]⟩, .slice none 0 0] 25)) := (HB11.out.trans (hb12.mono HB11.out.size)).alloc (HB11.out.trans (hb12.mono HB11.out.size)).size _
  have HH := Lib.hid (HH.out.below hz)
  have HF := Lib.hid (HF.out.below hz)
  have HV4 := Lib.hid (HV4.out.below hz)
  obtain ⟨⟨p0, p1, p2, p3, p4⟩, _⟩ := HH.out
  obtain ⟨f0, f1, f2, f3, f4⟩ := HF.out
  have HSm := sameOne_calls t d s n a c a4 c4 vs _ (HV.out.below HH.out.hb) HV4.out HLv.out
  rw [Hlv.out] at HSm
  have HSm := Lib.hid HSm
  clear hb12 hz HB8 HB9 HB10 HB11 HO9 HO11 HRC HOE H3
  go_wp2_with (go_at_call 32; refine HSm.out.mono ?_; rintro e w13 ⟨rfl, hb13⟩)
  have HH := Lib.hid (HH.out.below hb13)
  clear hb13 HSm p0 p1 p2 p3 p4 f0 f1 f2 f3 f4 HF HV4
  go_wp2_with fail
  have HBb := Lib.hid (HBr.out.below HH.out.hb)
  obtain ⟨hr2, hp2, he2⟩ := getE_some HG.out
  clear he2
  obtain ⟨n2, vs2, hpe2, hn2, hv2⟩ := pe_of _ hr2
  have hne2 := putE_ne hr2
  rw [hp2] at hne2
  have hlb0 : 0 < lb := by have := List.length_pos_iff.2 hne2; rw [Hlb.out] at this; exact this
  have HP2 := Lib.hid hp2
  have HPE := Lib.hid hpe2
  refine (eget_back HBb.out (HG.out.trans (congrArg some HPE.out.symm))).mono ?_
  rintro _ w20 ⟨a5, c5, rfl, hr20, hb20⟩
  have HB20 : Hid (Below w.heap.size w w20) := HH.out.hb.trans (hb20.mono HH.out.hb.size)
  obtain ⟨l5, hl5⟩ : ∃ l5, vs2.length = l5 := ⟨_, rfl⟩
  have Hl5 := Lib.hid hl5
  have HV5 := Lib.hid hr20
  rw [hl5] at hv2 ⊢
  clear hb20 HBb hr2 hp2 hpe2 hne2 hl5 hr20 HH
  go_upto_region 14 with fail
  obtain ⟨W, hW⟩ : ∃ W, W = w20.alloc (.cells #[.int .i64 pz.ts, .int .i64 pz.dep, .int .i64 pz.seq, .string n2, .slice a5 l5 c5] 25) := ⟨_, rfl⟩
  have hBW : Below w.heap.size w W := by rw [hW]; exact HB20.out.alloc HB20.out.size _
  have hEC : EC w20.heap.size ⟨pz.ts, pz.dep, pz.seq, n2, .slice a5 l5 c5⟩ W := by rw [hW]; exact EC.new _ ⟨pz.ts, pz.dep, pz.seq, n2, .slice a5 l5 c5⟩ rfl
  have hVW : VRow W a5 vs2 := by rw [hW]; exact HV5.out.below ((Below.refl _ _).alloc (Nat.le_refl _) _)
  rw [← hW]
  clear hW HB20 HV5
  generalize w20.heap.size = Y at *
  obtain ⟨c0, c1, c2, c3', c4'⟩ : EC Y ⟨pz.ts, pz.dep, pz.seq, n2, .slice a5 l5 c5⟩ W.drew := hEC
  dsimp only at c0 c1 c2 c3' c4'
  have hbm : BRow W.drew (.slice ab lb cb) bs := HBr.out.below (vbelow_drew hBW)
  have hcv := conv_brow hbm
  have Hbm := Lib.hid hbm
  have Hbb : Hid (Below w.heap.size w W.drew) := vbelow_drew hBW
  have HCP0 := eput_calls pz.ts pz.dep pz.seq n2 a5 c5 vs2 W.drew (by unfold maxLen; omega) hVW (by rw [Hl5.out]; unfold maxLen; omega)
  rw [HPE.out, HP2.out, Hl5.out] at HCP0
  have HCP : Hid (Calls Try.prog 26 #[.agg #[.int .i64 pz.ts, .int .i64 pz.dep, .int .i64 pz.seq, .string n2, .slice a5 l5 c5]] W.drew fun e W' => ∃ va, e = .returned va ∧ (convert 40 9 va).run Try.prog W' = .ok (.string (strB bs)) W' ∧ W'.cell? ⟨Y, 0, none⟩ = some (.int .i64 pz.ts) ∧ W'.cell? ⟨Y, 1, none⟩ = some (.int .i64 pz.dep) ∧ W'.cell? ⟨Y, 2, none⟩ = some (.int .i64 pz.seq) ∧ W'.cell? ⟨Y, 3, none⟩ = some (.string n2) ∧ W'.cell? ⟨Y, 4, none⟩ = some (.slice a5 l5 c5) ∧ (convert 40 9 (.slice ab lb cb)).run Try.prog W' = .ok (.string (strB bs)) W' ∧ Hid (Below w.heap.size w W')) :=
    HCP0.mono fun e W' ⟨va, he, ho, hb⟩ => ⟨va, he, conv_brow (BRow.of_owns ho), ekeep hb c0, ekeep hb c1, ekeep hb c2, ekeep hb c3', ekeep hb c4', conv_brow (hbm.below hb), Hbb.out.trans (hb.mono Hbb.out.size)⟩
  generalize strB bs = xs at *
  clear HCP0 hbm hVW hBW
  go_region_held (fun W => W.cell? ⟨Y, 0, none⟩ = some (.int .i64 pz.ts) ∧ W.cell? ⟨Y, 1, none⟩ = some (.int .i64 pz.dep) ∧ W.cell? ⟨Y, 2, none⟩ = some (.int .i64 pz.seq) ∧ W.cell? ⟨Y, 3, none⟩ = some (.string n2) ∧ W.cell? ⟨Y, 4, none⟩ = some (.slice a5 l5 c5) ∧ (convert 40 9 (.slice ab lb cb)).run Try.prog W = .ok (.string xs) W ∧ Hid (Below w.heap.size w W))
    ((refine ⟨?_, ?_, ?_, ?_, ?_, ?_, ?_⟩ <;> assumption))
    (first | (go_at_call 26; refine HCP.out.mono ?_; rintro e w9 ⟨va, rfl, hva, g0, g1, g2, g3, g4, g5, g6⟩))
  all_goals
    go_wp2
    go_ret
    exact ⟨rfl, g6.out⟩

set_option maxHeartbeats 8000000 in
set_option maxRecDepth 100000 in
theorem eback_big (w : World) (t d s : Int) (n : ByteArray) (a : Option Addr) (c : Nat) (vs : List VIn) (hn : n.size ≤ maxLen) (hv : VRow w a vs) (hl : vs.length ≤ maxLen) (ab : Option Addr) (cb : Nat) (bs : List UInt8) (hb : BRow w (.slice ab bs.length cb) bs) (N : Nat) (_hN : N ≤ 65535) (C : UInt8) (hlb : 9000 < bs.length)  :
    Calls Try.prog 5 #[evV t d s n (.slice a vs.length c), .slice ab bs.length cb, .int .u16 N, .int .u8 C.toNat] w (EFine w) := by
  obtain ⟨a', c', e1, hcl, hcm⟩ := hb.len
  injection e1 with ea el ec
  subst ea
  subst ec
  clear el
  have hC := C.toNat_lt
  have HGr := Lib.hid (fun (W : World) (hb : Below w.heap.size w W) => greatE_calls t d s n a c vs W hn (hv.below hb) hl)
  have HPt := Lib.hid (fun (W : World) (hb : Below w.heap.size w W) => eput_calls t d s n a c vs W hn (hv.below hb) hl)
  have HV := Lib.hid hv
  have HLv := Lib.hid hl
  have hs0 : OB w ⟨t, d, s, n, .slice a vs.length c⟩ (w.alloc (.cells #[.int .i64 t, .int .i64 d, .int .i64 s, .string n, .slice a vs.length c] 25)) := ⟨EC.new _ ⟨t, d, s, n, .slice a vs.length c⟩ rfl, (Below.refl _ _).alloc (Nat.le_refl _) _⟩
  obtain ⟨lv, hlv⟩ : ∃ lv, vs.length = lv := ⟨_, rfl⟩
  have Hlv := Lib.hid hlv
  obtain ⟨lb, hlbe⟩ : ∃ lb, bs.length = lb := ⟨_, rfl⟩
  have Hlb := Lib.hid hlbe
  rw [hlv] at HGr HPt hs0 ⊢
  rw [hlbe] at hcl hlb hb ⊢
  have HBr := Lib.hid hb
  have HS0 := Lib.hid hs0
  unfold maxLen at hcm
  clear hv hl hn hlv hlbe hb hs0
  go_enter Try.func5, Try.ntmps5
  go_wp2_with fail
  refine (ehead_calls _).mono ?_
  rintro _ w1 ⟨rfl, hb1⟩
  have HH := Lib.hid (HS0.out.below hb1)
  obtain ⟨⟨p0, p1, p2, p3, p4⟩, _⟩ := HH.out
  clear hb1 HS0
  go_wp2_with fail
  refine (HGr.out _ HH.out.hb).mono ?_
  rintro _ w2 ⟨g, rfl, hb2⟩
  have HH := Lib.hid (HH.out.below hb2)
  obtain ⟨⟨p0, p1, p2, p3, p4⟩, _⟩ := HH.out
  clear hb2
  cases g with
  | true =>
    go_wp2
    go_ret
    exact ⟨rfl, HH.out.hb⟩
  | false =>
  go_wp2
  go_ret
  exact ⟨rfl, HH.out.hb⟩

theorem eback_walk (w : World) (t d s : Int) (n : ByteArray) (a : Option Addr) (c : Nat) (vs : List VIn) (hn : n.size ≤ maxLen) (hv : VRow w a vs) (hl : vs.length ≤ maxLen) (ab : Option Addr) (cb : Nat) (bs : List UInt8) (hb : BRow w (.slice ab bs.length cb) bs) (N : Nat) (_hN : N ≤ 65535) (C : UInt8) :
    Calls Try.prog 5 #[evV t d s n (.slice a vs.length c), .slice ab bs.length cb, .int .u16 N, .int .u8 C.toNat] w (EFine w) := by
  by_cases hlb : 9000 < bs.length
  · exact eback_big w t d s n a c vs hn hv hl ab cb bs hb N _hN C hlb
  cases hr : rightE (pe t d s n vs) with
  | false =>
    cases hg : getE bs with
    | none => exact eback_fn w t d s n a c vs hn hv hl ab cb bs hb N _hN C hlb hr hg
    | some pz => exact eback_fs w t d s n a c vs hn hv hl ab cb bs hb N _hN C hlb hr pz hg
  | true =>
    cases hg : getE bs with
    | none => exact eback_tn w t d s n a c vs hn hv hl ab cb bs hb N _hN C hlb hr hg
    | some pz => exact eback_ts w t d s n a c vs hn hv hl ab cb bs hb N _hN C hlb hr pz hg

end Go.Proofs.Ytppgecbjdkfohaa

/- The statement EventFits: its walk. -/
import Derived.Test.YtppgecbjdkfohaaEQe
namespace Go.Proofs.Ytppgecbjdkfohaa
open Go.RowKit Go.Lib Go.Op

theorem fits_facts {S : SIn} {t d s : Int} {n : ByteArray} {vs : List VIn} (h : fitsA [S] t d s n vs = 0) : vs.length = S.fs.length ∧ vs.length ≤ 8 ∧ ∀ (j : Nat) (x : VIn) (y : FIn), vs[j]? = some x → S.fs[j]? = some y → y.2 = x.1 := by
  obtain ⟨h1, _, h3⟩ := fitsA_ok.1 h
  have h8 := (rightE_iff.1 h1).2.2.2.2.1
  have h9 := kindsB_iff.1 h3
  refine ⟨by simpa using congrArg List.length h9, by simpa [pe] using h8, fun j x y hx hy => ?_⟩
  have h10 := congrArg (·[j]?) h9
  simp [hx, hy] at h10
  exact h10.symm

theorem VSl.row {w : World} {a : Option Addr} {l c : Nat} {vs : List VIn} (h : VSl w (.slice a l c) vs) : VRow w a vs := by
  obtain ⟨a', c', e, _, _, _, h4⟩ := h
  injection e with e1
  rw [e1]; exact h4

theorem VSl.sizes {w : World} {v : Value} {vs : List VIn} (h : VSl w v vs) : ∀ x ∈ vs, x.2.2.size ≤ maxLen := by
  obtain ⟨a, c, _, _, _, _, h4⟩ := h
  intro x hx
  obtain ⟨j, hj, rfl⟩ := List.mem_iff_getElem.1 hx
  obtain ⟨_, _, _, _, _, h5⟩ := h4 j _ (List.getElem?_eq_getElem hj)
  exact h5
theorem VOwn.set {w : World} {B : Nat} {v : Value} {vs : List VIn} (h : VOwn w B v vs) {b i : Nat} (x : Value) (hb : b < B) : VOwn (w.setCell ⟨b, i, none⟩ x) B v vs := eowns_set h x hb

theorem VOwn.slice {w : World} {B : Nat} {v : Value} {vs : List VIn} (h : VOwn w B v vs) : ∃ a l c, v = .slice a l c := by
  obtain ⟨a, c, e⟩ := vowns_slice h
  exact ⟨a, _, c, e⟩

section
variable (W : World) (o : Obj) (k n : Int) (s : ByteArray)
/-- An empty row of the call's own, at once, behind another object, ahead of one. -/
theorem own_a : Hid (VOwn (W.alloc (.cells #[] 52)).drew W.heap.size (.slice (some ⟨W.heap.size, 0, none⟩) 0 0) []) := VOwn.drew (VOwn.empty W (Nat.le_refl _))
theorem own_b : Hid (VOwn ((W.alloc o).alloc (.cells #[] 52)).drew W.heap.size (.slice (some ⟨W.heap.size + 1, 0, none⟩) 0 0) []) := by
  have h := VOwn.empty (W.alloc o) (base := W.heap.size) (by simp)
  have e : (W.alloc o).heap.size = W.heap.size + 1 := by simp
  rw [e] at h
  exact VOwn.drew h
theorem own_c : Hid (VOwn ((W.alloc (.cells #[] 52)).alloc o).drew W.heap.size (.slice (some ⟨W.heap.size, 0, none⟩) 0 0) []) := VOwn.drew ((VOwn.empty W (Nat.le_refl _)).alloc o)
theorem VSl.drew {w : World} {v : Value} {vs : List VIn} (h : VSl w v vs) : VSl w.drew v vs := h.below (vbelow_drew (Below.refl _ _))
theorem VSl.alloc {w : World} {v : Value} {vs : List VIn} (h : VSl w v vs) (o : Obj) : VSl (w.alloc o) v vs := h.below ((Below.refl _ _).alloc (Nat.le_refl _) o)
theorem one_b (hs : s.size ≤ maxLen) : Hid (VSl ((W.alloc (.cells #[.int .i64 k, .int .i64 n, .string s] 52)).alloc (.cells #[] 52)).drew (.slice (some ⟨W.heap.size, 0, none⟩) 1 1) [(k, n, s)]) := ((VSl.one W k n s hs).alloc _).drew
theorem one_c (hs : s.size ≤ maxLen) : Hid (VSl ((W.alloc (.cells #[] 52)).alloc (.cells #[.int .i64 k, .int .i64 n, .string s] 52)).drew (.slice (some ⟨W.heap.size + 1, 0, none⟩) 1 1) [(k, n, s)]) := by
  have h := VSl.one (W.alloc (.cells #[] 52)) k n s hs
  have e : (W.alloc (.cells #[] 52)).heap.size = W.heap.size + 1 := by simp
  rw [e] at h
  exact h.drew
end
theorem ne_own {b b' l c : Nat} (h : b ≠ b') : some b ≠ Value.ownBlock (.slice (some ⟨b', 0, none⟩) l c) := fun e => by
  injection e with e
  exact h e

set_option maxHeartbeats 8000000 in
set_option maxRecDepth 100000 in
theorem fits_walk (w : World) (nm : ByteArray) (fa : Option Addr) (fc : Nat) (fs : List FIn) (hS : FRow w fa fs) (hSl : fs.length ≤ maxLen) (hSn : nm.size ≤ maxLen) (t d s : Int) (n : ByteArray) (hn : n.size ≤ maxLen) (a : Option Addr) (c : Nat) (vs : List VIn) (hv : VSl w (.slice a vs.length c) vs) (hvl : vs.length ≤ maxLen) (N : Nat) (_hN : N ≤ 255) (xk xn : Int) (xs : ByteArray) (hx : xs.size ≤ maxLen) :
    Calls Try.prog 7 #[.agg #[.string nm, .slice fa fs.length fc], evV t d s n (.slice a vs.length c), .int .u8 N, .agg #[.int .i64 xk, .int .i64 xn, .string xs]] w (EFine w) := by
  have HGS := great_one (w := w) (L := L0 w nm (.slice fa fs.length fc) t d s n (.slice a vs.length c) xk xn xs) ⟨nm, fa, fc, fs⟩ hS hSl hSn
  have HFt := fun L => fit_one (w := w) (L := L) ⟨nm, fa, fc, fs⟩ hS hSl hSn t d s n hn
  have HGE : Hid (∀ W, Hid (CL w (L0 w nm (.slice fa fs.length fc) t d s n (.slice a vs.length c) xk xn xs) W) → Calls Try.prog 16 #[evV t d s n (.slice a vs.length c)] W (GreatQ (CL w (L0 w nm (.slice fa fs.length fc) t d s n (.slice a vs.length c) xk xn xs)))) := fun W hW =>
    (greatE_calls t d s n a c vs W hn (hv.row.below hW.out.hb) hvl).mono fun e w' ⟨g, h1, h2⟩ => ⟨g, h1, hW.out.below h2⟩
  have HS0 := L0.start (w := w) (nm := nm) (f := .slice fa fs.length fc) (t := t) (d := d) (s := s) (n := n) (v := .slice a vs.length c) (k := xk) (m := xn) (z := xs)
  have HXS := Lib.hid hx
  have HSl := Lib.hid hSl
  have HSn := Lib.hid hSn
  have Hn := Lib.hid hn
  have HV := Lib.hid hv
  have HF := Lib.hid hS
  obtain ⟨l, hll⟩ : ∃ l, vs.length = l := ⟨_, rfl⟩
  have Hl := Lib.hid hll
  obtain ⟨m, hmm⟩ : ∃ m, fs.length = m := ⟨_, rfl⟩
  have Hm := Lib.hid hmm
  obtain ⟨z, hz⟩ : ∃ z, fitsA [⟨nm, fa, fc, fs⟩] t d s n vs = z := ⟨_, rfl⟩
  have HZ := Lib.hid hz
  rw [hll] at HGE HGS HS0 HV ⊢
  dsimp only at HGS HFt
  rw [hmm] at HGS HGE HS0 HFt ⊢
  have hfl : (⟨nm, fa, fc, fs⟩ : SIn).fs.length = m := hmm
  have HCZ := Lib.hid (fun (W : World) (hW : Hid (CL w (L0 w nm (.slice fa m fc) t d s n (.slice a l c) xk xn xs) W)) => (HFt _).out W (.slice a l c) vs z hz (HV.out.below hW.out.hb) hW)
  clear hS hSl hSn hn hv hvl hll hmm hx hfl
  go_enter Try.func7, Try.ntmps7
  go_wp2_with fail
  refine (ehead_calls _).mono ?_
  rintro _ w1 ⟨rfl, hb1⟩
  have HH := Lib.hid (HS0.out.below hb1)
  obtain ⟨⟨p0, p1⟩, ⟨q0, q1, q2, q3, q4⟩, ⟨r0, r1, r2⟩⟩ := L0.conj0 HH
  clear hb1 HS0
  go_wp2_with fail
  refine (HGS.out _ HH).mono ?_
  clear HH
  rintro _ w2 ⟨g, rfl, HH⟩
  clear p0 p1 q0 q1 q2 q3 q4 r0 r1 r2
  obtain ⟨⟨p0, p1⟩, ⟨q0, q1, q2, q3, q4⟩, ⟨r0, r1, r2⟩⟩ := L0.conj0 HH
  cases g with
  | true =>
    go_wp2
    go_ret
    exact ⟨rfl, HH.out.hb⟩
  | false =>
  go_wp2_with fail
  refine (HGE.out _ HH).mono ?_
  clear HH
  rintro _ w3 ⟨g, rfl, HH⟩
  clear p0 p1 q0 q1 q2 q3 q4 r0 r1 r2
  obtain ⟨⟨p0, p1⟩, ⟨q0, q1, q2, q3, q4⟩, ⟨r0, r1, r2⟩⟩ := L0.conj0 HH
  cases g with
  | true =>
    go_wp2
    go_ret
    exact ⟨rfl, HH.out.hb⟩
  | false =>
  go_wp2_with fail
  refine (rright_calls xk xn xs _ HXS.out).mono ?_
  rintro _ w4 ⟨rfl, rfl⟩
  have HH := CL.alloc (.cells #[.int .i64 xk, .int .i64 xn, .string xs] 52) HH
  generalize w3.alloc (.cells #[.int .i64 xk, .int .i64 xn, .string xs] 52) = w5 at *
  clear p0 p1 q0 q1 q2 q3 q4 r0 r1 r2
  obtain ⟨⟨p0, p1⟩, ⟨q0, q1, q2, q3, q4⟩, ⟨r0, r1, r2⟩⟩ := L0.conj0 HH
  cases hr : rightV xk xn xs with
  | false =>
    go_wp2
    go_ret
    exact ⟨rfl, HH.out.hb⟩
  | true =>
  obtain ⟨f1, ⟨g0, g1, g2, g3, g4⟩, f3⟩ := L0.conj0 (CL.alloc (.cells #[.string nm, .slice fa m fc] 31) HH)
  go_wp2_with fail
  clear f1 g0 g1 g2 g3 g4 f3
  refine (HCZ.out _ HH).mono ?_
  clear HH
  rintro _ w6 ⟨rfl, HHq⟩
  have HH : Hid (CL w (L0 w nm (.slice fa m fc) t d s n (.slice a l c) xk xn xs) w6) := HHq.out.1
  clear HHq
  clear p0 p1 q0 q1 q2 q3 q4 r0 r1 r2
  obtain ⟨⟨p0, p1⟩, ⟨q0, q1, q2, q3, q4⟩, ⟨r0, r1, r2⟩⟩ := L0.conj0 HH
  by_cases h0 : z = 0
  · subst h0
    clear HCZ HGS HGE hz
    obtain ⟨hlm, hl8, hkd⟩ := fits_facts HZ.out
    dsimp only at hlm hkd
    rw [Hl.out] at hl8
    rw [Hl.out, Hm.out] at hlm
    subst hlm
    have HKD := Lib.hid hkd
    clear hkd
    have HLa : Hid (([] : List VIn).length + vs.length ≤ 1000) := by show _ ≤ _; rw [Hl.out]; simp; omega
    have HLb : Hid (([] ++ vs : List VIn).length + [(xk, xn, xs)].length ≤ 1000) := by show _ ≤ _; rw [List.nil_append, Hl.out]; simp; omega
    go_upto_region 5 with fail
    have HM := CM.start (t := t) (d := d) (s := s) (n := n) (v := .slice a l c) HH
    obtain ⟨M, hM⟩ : ∃ M, w6.heap.size = M := ⟨_, rfl⟩
    obtain ⟨W6, hW6⟩ : ∃ W, w6.alloc (.cells #[.int .i64 t, .int .i64 d, .int .i64 s, .string n, .slice a l c] 25) = W := ⟨_, rfl⟩
    have hB : W6.heap.size = M + 1 := by rw [← hW6, ← hM]; simp
    rw [hM, hW6, ← hB] at HM
    rw [hM, hW6]
    have hMB : M < W6.heap.size := by omega
    clear hM hW6 hB
    go_cut [10] (fun s10 wx => s10 = .pointer (some ⟨M, 0, none⟩) ∧ ∃ y, Hid (VOwn wx W6.heap.size y (vs ++ [(xk, xn, xs)])) ∧ Hid (CL w ((L0 w nm (.slice fa l fc) t d s n (.slice a l c) xk xn xs ++ eF M t d s n) ++ [(M, 4, y)]) wx))
    case first =>
      have HVs : Hid (∀ W, Hid (CM w (L0 w nm (.slice fa l fc) t d s n (.slice a l c) xk xn xs ++ eF M t d s n) M W6.heap.size W) → VSl W (.slice a l c) vs) := fun W hW => HV.out.below hW.out.cl.hb
      have HOA := own_a W6
      have HOB := own_b W6 (.cells #[.int .i64 xk, .int .i64 xn, .string xs] 52)
      have HOC := own_c W6 (.cells #[.int .i64 xk, .int .i64 xn, .string xs] 52)
      have HSB := one_b W6 xk xn xs HXS.out
      have HSC := one_c W6 xk xn xs HXS.out
      have neB : some W6.heap.size ≠ Value.ownBlock (.slice (some ⟨W6.heap.size + 1, 0, none⟩) 0 0) := ne_own (by omega)
      have neC : some (W6.heap.size + 1) ≠ Value.ownBlock (.slice (some ⟨W6.heap.size, 0, none⟩) 0 0) := ne_own (by omega)
      have HM1 := CM.drew HM
      have HM2 := CM.conj HM1
      obtain ⟨m0, m1, m2, m3, _⟩ := HM2
      clear p0 p1 q0 q1 q2 q3 q4 r0 r1 r2 HH
      go_region_held3 (fun W => W.cell? ⟨w.heap.size + 1, 4, none⟩ = some (.slice a l c) ∧ W.cell? ⟨w.heap.size + 1 + 1, 0, none⟩ = some (.int .i64 xk) ∧ W.cell? ⟨w.heap.size + 1 + 1, 1, none⟩ = some (.int .i64 xn) ∧ W.cell? ⟨w.heap.size + 1 + 1, 2, none⟩ = some (.string xs) ∧ Hid (CM w (L0 w nm (.slice fa l fc) t d s n (.slice a l c) xk xn xs ++ eF M t d s n) M W6.heap.size W))
        (((try go_split_ands); (with_reducible refine CM.conj ?_); first | with_reducible assumption | (with_reducible refine CM.adrew _ ?_; with_reducible assumption) | (with_reducible refine CM.alloc _ ?_; with_reducible assumption) | (with_reducible refine CM.set ?_ _; with_reducible assumption)))
        (first
          | (go_split_ands; refine step_append_cm (w := w) (L := L0 w nm (.slice fa l fc) t d s n (.slice a l c) xk xn xs ++ eF M t d s n) (M := M) (B := W6.heap.size) rfl (.tmp 37) (.tmp 39) rfl ?_ (HVs.out _ ?_) HOA.out HLa.out ?_ ?_ ?_; (with_reducible assumption); (with_reducible assumption); (simp [Act.eval]); (simp [Act.eval]); intro v8 w8 HO8 hg8 HC8; clear hg8)
          | (go_split_ands; refine step_append_cm (w := w) (L := L0 w nm (.slice fa l fc) t d s n (.slice a l c) xk xn xs ++ eF M t d s n) (M := M) (B := W6.heap.size) rfl (.tmp 37) (.tmp 39) rfl ?_ (HVs.out _ ?_) HOB.out HLa.out ?_ ?_ ?_; (with_reducible assumption); (with_reducible assumption); (simp [Act.eval]); (simp [Act.eval]); intro v8 w8 HO8 hg8 HC8; have HS8 := Lib.hid (VSl.grown hg8.out HSB.out neB); clear hg8)
          | (go_split_ands; refine step_append_cm (w := w) (L := L0 w nm (.slice fa l fc) t d s n (.slice a l c) xk xn xs ++ eF M t d s n) (M := M) (B := W6.heap.size) rfl (.tmp 37) (.tmp 39) rfl ?_ (HVs.out _ ?_) HOC.out HLa.out ?_ ?_ ?_; (with_reducible assumption); (with_reducible assumption); (simp [Act.eval]); (simp [Act.eval]); intro v8 w8 HO8 hg8 HC8; have HS8 := Lib.hid (VSl.grown hg8.out HSC.out neC); clear hg8)
          | (go_split_ands; refine step_append_cm (w := w) (L := L0 w nm (.slice fa l fc) t d s n (.slice a l c) xk xn xs ++ eF M t d s n) (M := M) (B := W6.heap.size) rfl (.tmp 40) (.tmp 42) rfl ?_ (VSl.one _ _ _ _ HXS.out) (HO8.out.alloc _) HLb.out ?_ ?_ ?_; (with_reducible assumption); (simp [Act.eval]); (simp [Act.eval]); intro v9 w9 HO9 hg9 HC9; clear hg9; obtain ⟨a9, l9, c9, rfl⟩ := VOwn.slice HO9.out; obtain ⟨u9, e9⟩ := HC9.out.ex; have f9 := HC9.out.fz)
          | (go_split_ands; refine step_append_cm (w := w) (L := L0 w nm (.slice fa l fc) t d s n (.slice a l c) xk xn xs ++ eF M t d s n) (M := M) (B := W6.heap.size) rfl (.tmp 40) (.tmp 42) rfl ?_ HS8.out HO8.out HLb.out ?_ ?_ ?_; (with_reducible assumption); (simp [Act.eval]); (simp [Act.eval]); intro v9 w9 HO9 hg9 HC9; clear hg9; obtain ⟨a9, l9, c9, rfl⟩ := VOwn.slice HO9.out; obtain ⟨u9, e9⟩ := HC9.out.ex; have f9 := HC9.out.fz))
      all_goals
        have HF1 := Lib.hid (VOwn.set HO9.out (b := M) (i := 4) (.slice a9 l9 c9) hMB)
        have HF2 := CM.put HC9 (.slice a9 l9 c9)
        go_wp2_with fail
        go_meet
        exact ⟨rfl, _, HF1, HF2⟩
    case rest =>
    obtain ⟨rfl, y, HOy, HCy⟩ := hcut
    have HSz := Lib.hid HV.out.sizes
    have HVy : Hid (VSl wc y (vs ++ [(xk, xn, xs)])) := HOy.out.sl fun q hq => by
      rcases List.mem_append.1 hq with h | h
      · exact HSz.out q h
      · rw [List.mem_singleton.1 h]; exact HXS.out
    obtain ⟨z1, hz1⟩ : ∃ z1, fitsA [⟨nm, fa, fc, fs⟩] t d s n (vs ++ [(xk, xn, xs)]) = z1 := ⟨_, rfl⟩
    have hd1 : (z1 == 0) = false := by rw [beq_eq_false_iff_ne, ← hz1]; exact fits_more HZ.out _
    have HC1 := Lib.hid ((HFt _).out wc y _ z1 hz1 HVy.out HCy)
    have HC0 : Hid (CL w (L0 w nm (.slice fa l fc) t d s n (.slice a l c) xk xn xs) wc) := CL.left (CL.left HCy)
    clear p0 p1 q0 q1 q2 q3 q4 r0 r1 r2 hz1 HH HVy
    obtain ⟨⟨p0, p1⟩, ⟨q0, q1, q2, q3, q4⟩, ⟨r0, r1, r2⟩⟩ := L0.conj0 HC0
    have e0 : ∀ o, (wc.alloc o).cell? ⟨M, 0, none⟩ = some (.int .i64 t) := fun o => (CL.alloc o HCy).out.cs _ _ _ (by simp [eF])
    have e1 : ∀ o, (wc.alloc o).cell? ⟨M, 1, none⟩ = some (.int .i64 d) := fun o => (CL.alloc o HCy).out.cs _ _ _ (by simp [eF])
    have e2 : ∀ o, (wc.alloc o).cell? ⟨M, 2, none⟩ = some (.int .i64 s) := fun o => (CL.alloc o HCy).out.cs _ _ _ (by simp [eF])
    have e3 : ∀ o, (wc.alloc o).cell? ⟨M, 3, none⟩ = some (.string n) := fun o => (CL.alloc o HCy).out.cs _ _ _ (by simp [eF])
    have e4 : ∀ o, (wc.alloc o).cell? ⟨M, 4, none⟩ = some y := fun o => (CL.alloc o HCy).out.cs _ _ _ (by simp [eF])
    go_wp2_with fail
    clear e0 e1 e2 e3 e4
    refine HC1.out.mono ?_
    rintro _ w7 ⟨rfl, HHq⟩
    have HH : Hid (CL w (L0 w nm (.slice fa l fc) t d s n (.slice a l c) xk xn xs) w7) := CL.left (CL.left (show Hid (CL w _ w7) from HHq.out.1))
    clear HHq HC1 HC0 HOy HCy p0 p1 q0 q1 q2 q3 q4 r0 r1 r2 hMB
    have Hd1 := Lib.hid hd1
    go_wp2_with fail
    clear hd1 Hd1
    go_loopw [11] (fun i wr => ∃ k : Nat, i = .int .i64 k ∧ k ≤ l ∧ Hid (CL w (L0 w nm (.slice fa l fc) t d s n (.slice a l c) xk xn xs) wr)) (fun i _ => l - (intOf i).toNat)
    case atStart => exact ⟨0, rfl, Nat.zero_le _, HH⟩
    case round =>
    obtain ⟨k, rfl, hk, HR⟩ := hrel
    obtain ⟨⟨p0, p1⟩, ⟨q0, q1, q2, q3, q4⟩, ⟨r0, r1, r2⟩⟩ := L0.conj0 HR
    by_cases hlt : k < l
    · obtain ⟨x, hx⟩ : ∃ x, vs[k]? = some x := ⟨_, List.getElem?_eq_getElem (by rw [Hl.out]; exact hlt)⟩
      obtain ⟨f, hf⟩ : ∃ f, fs[k]? = some f := ⟨_, List.getElem?_eq_getElem (by rw [Hm.out]; exact hlt)⟩
      have hkd := HKD.out k x f hx hf
      obtain ⟨A, rfl, c0, _⟩ := (HV.out.below HR.out.hb).row k x hx
      obtain ⟨A', rfl, _, d1, _⟩ := (HF.out.below HR.out.hb) k f hf
      obtain ⟨k1, n1, s1⟩ := x
      obtain ⟨fn, fk⟩ := f
      dsimp only at c0 d1 hkd
      subst hkd
      unfold efld at d1
      have hk0 : (0 : Int) ≤ (k : Int) := by omega
      have hk1 : (k : Int) < (l : Int) := by omega
      clear hx hf HKD HZ HFt HSz HXS HLa HLb HH
      go_upto_region 11 with fail
      go_quiet (fail)
      go_wp2
      go_roundw
      case rel => exact ⟨k + 1, by go_num, by omega, CL.drewN HR _⟩
      case measure => simp [intOf]; omega
    · obtain rfl : k = l := by omega
      clear hk hlt HH
      by_cases hl0 : k = 0
      · have hd0 : ((k : Int) == 0) = true := by rw [beq_iff_eq]; omega
        go_wp2
        go_ret
        exact ⟨rfl, HR.out.hb⟩
      · have hd0 : ((k : Int) == 0) = false := by rw [beq_eq_false_iff_ne]; omega
        have hkn : (k : Int) ≠ 0 := by omega
        obtain ⟨q, hq⟩ : ∃ q, N % k = q := ⟨_, rfl⟩
        have hqk : q < k := by rw [← hq]; exact Nat.mod_lt _ (by omega)
        have hqi : ((N : Int) % (k : Int)) = (q : Int) := by omega
        clear hq
        have hgap : True := trivial
        go_upto_region 17 with fail
        rw [hqi]
        have hk8 : k ≤ 8 := hl8
        have HV1 := HV.out.upto (m := q) (by rw [Hl.out]; omega)
        have HV2 := HV.out.drop (k := q + 1) (by rw [Hl.out]; omega)
        obtain ⟨v1, hv1, hV1⟩ := HV1
        obtain ⟨v2, hv2, hV2⟩ := HV2
        have hv2' : ∀ W : World, (Instr.slice 23 (.slice a k c) (some (.int .i64 ((q : Int) + 1))) none none).run Try.prog W = .ok v2 W := hv2
        have hwr : IntKind.i64.wrap ((q : Int) + 1) = (q : Int) + 1 := IntWalk.i64_in _ (by omega)
        have HW1 := Lib.hid hV1
        have HW2 := Lib.hid hV2
        have Hv1 := Lib.hid hv1
        have Hv2 := Lib.hid hv2'
        have hlt1 : (vs.take q).length = q := by rw [List.length_take, Hl.out]; omega
        have hlt2 : (vs.drop (q + 1)).length ≤ 8 := by rw [List.length_drop, Hl.out]; omega
        have HLc : Hid (([] : List VIn).length + (vs.take q).length ≤ 1000) := by show _ ≤ _; rw [hlt1]; simp; omega
        have HLd : Hid (([] ++ vs.take q : List VIn).length + (vs.drop (q + 1)).length ≤ 1000) := by show _ ≤ _; rw [List.nil_append, hlt1]; exact Nat.le_trans (Nat.add_le_add_left hlt2 q) (by omega)
        have HLe : Hid (([] ++ vs.take q : List VIn).length + [(xk, xn, xs)].length ≤ 1000) := by show _ ≤ _; rw [List.nil_append, hlt1]; simp; omega
        have HLf : Hid (([] ++ vs.take q ++ [(xk, xn, xs)] : List VIn).length + (vs.drop (q + 1)).length ≤ 1000) := by show _ ≤ _; rw [List.nil_append, List.length_append, hlt1]; exact Nat.le_trans (Nat.add_le_add_left hlt2 _) (by simp; omega)
        have hq0 : (0 : Int) ≤ (q : Int) := by omega
        have hq1 : (q : Int) < (k : Int) := by omega
        clear hv1 hv2 hv2' hV1 hV2 hlt1 hlt2
        have HM := CM.start (t := t) (d := d) (s := s) (n := n) (v := .slice a k c) HR
        obtain ⟨M2, hM⟩ : ∃ M, wr.heap.size = M := ⟨_, rfl⟩
        obtain ⟨W6, hW6⟩ : ∃ W, wr.alloc (.cells #[.int .i64 t, .int .i64 d, .int .i64 s, .string n, .slice a k c] 25) = W := ⟨_, rfl⟩
        have hB : W6.heap.size = M2 + 1 := by rw [← hW6, ← hM]; simp
        rw [hM, hW6, ← hB] at HM
        rw [hM, hW6]
        have hMB : M2 < W6.heap.size := by omega
        clear hM hW6 hB p0 p1 q0 q1 q2 q3 q4 r0 r1 r2 HR HLa HLb
        go_cut [13] (fun s13 wx => s13 = .pointer (some ⟨M2, 0, none⟩) ∧ ∃ y, Hid (VOwn wx W6.heap.size y (vs.take q ++ vs.drop (q + 1))) ∧ Hid (CL w ((L0 w nm (.slice fa k fc) t d s n (.slice a k c) xk xn xs ++ eF M2 t d s n) ++ [(M2, 4, y)]) wx))
        case first =>
          have HX1 : Hid (∀ W, Hid (CM w (L0 w nm (.slice fa k fc) t d s n (.slice a k c) xk xn xs ++ eF M2 t d s n) M2 W6.heap.size W) → VSl W v1 (vs.take q)) := fun W hW => HW1.out.below hW.out.cl.hb
          have HX2 : Hid (∀ W, Hid (CM w (L0 w nm (.slice fa k fc) t d s n (.slice a k c) xk xn xs ++ eF M2 t d s n) M2 W6.heap.size W) → VSl W v2 (vs.drop (q + 1))) := fun W hW => HW2.out.below hW.out.cl.hb
          have HOA := own_a W6
          have HM1 := CM.drew HM
          have HM2 := CM.conj HM1
          obtain ⟨m0, m1, m2, m3, _⟩ := HM2
          have hv1 := Hv1.out
          have hv2 := Hv2.out
          clear HZ HFt HKD HSz HXS HLe HLf HM
          go_region_held3 (fun W => W.cell? ⟨w.heap.size + 1, 4, none⟩ = some (.slice a k c) ∧ W.cell? ⟨w.heap.size + 1 + 1, 0, none⟩ = some (.int .i64 xk) ∧ W.cell? ⟨w.heap.size + 1 + 1, 1, none⟩ = some (.int .i64 xn) ∧ W.cell? ⟨w.heap.size + 1 + 1, 2, none⟩ = some (.string xs) ∧ Hid (CM w (L0 w nm (.slice fa k fc) t d s n (.slice a k c) xk xn xs ++ eF M2 t d s n) M2 W6.heap.size W))
            (((try go_split_ands); (with_reducible refine CM.conj ?_); first | with_reducible assumption | (with_reducible refine CM.adrew _ ?_; with_reducible assumption) | (with_reducible refine CM.alloc _ ?_; with_reducible assumption) | (with_reducible refine CM.set ?_ _; with_reducible assumption)))
            (first
              | (go_split_ands; refine step_append_cm (w := w) (L := L0 w nm (.slice fa k fc) t d s n (.slice a k c) xk xn xs ++ eF M2 t d s n) (M := M2) (B := W6.heap.size) rfl (.tmp 91) (.tmp 95) rfl ?_ (HX1.out _ ?_) HOA.out HLc.out ?_ ?_ ?_; (with_reducible assumption); (with_reducible assumption); (simp [Act.eval]); (simp [Act.eval]); intro v8 w8 HO8 hg8 HC8; clear hg8)
              | (go_split_ands; refine step_append_cm (w := w) (L := L0 w nm (.slice fa k fc) t d s n (.slice a k c) xk xn xs ++ eF M2 t d s n) (M := M2) (B := W6.heap.size) rfl (.tmp 96) (.tmp 101) rfl ?_ (HX2.out _ ?_) HO8.out HLd.out ?_ ?_ ?_; (with_reducible assumption); (with_reducible assumption); (simp [Act.eval]); (simp [Act.eval]); intro v9 w9 HO9 hg9 HC9; clear hg9; obtain ⟨a9, l9, c9, rfl⟩ := VOwn.slice HO9.out; obtain ⟨u9, e9⟩ := HC9.out.ex; have f9 := HC9.out.fz))
          all_goals
            have HF1 := Lib.hid (VOwn.set HO9.out (b := M2) (i := 4) (.slice a9 l9 c9) hMB)
            have HF2 := CM.put HC9 (.slice a9 l9 c9)
            go_wp2_with fail
            go_meet
            exact ⟨rfl, _, HF1, HF2⟩
        case rest =>
        obtain ⟨rfl, y2, HOy, HCy⟩ := hcut
        have HVy : Hid (VSl wc y2 (vs.take q ++ vs.drop (q + 1))) := HOy.out.sl fun x hx => by
          rcases List.mem_append.1 hx with h | h
          · exact HSz.out x (List.mem_of_mem_take h)
          · exact HSz.out x (List.mem_of_mem_drop h)
        have HBc : Hid (Below w.heap.size w wc) := HCy.out.hb
        have HCc : Hid (CL wc (L0 w nm (.slice fa k fc) t d s n (.slice a k c) xk xn xs ++ (eF M2 t d s n ++ [(M2, 4, y2)])) wc) := ⟨fun b i v hm => HCy.out.cs b i v (by rw [List.append_assoc]; exact hm), Below.refl _ _⟩
        clear HOy HCy hMB HM HLc HLd W6
        generalize wc = W2 at *
        obtain ⟨⟨p0, p1⟩, ⟨q0, q1', q2, q3, q4⟩, ⟨r0, r1, r2⟩⟩ := L0.conj HCc
        go_upto_region 19 with fail
        have HM := CM.start (t := t) (d := d) (s := s) (n := n) (v := .slice a k c) HCc
        obtain ⟨M3, hM⟩ : ∃ M, W2.heap.size = M := ⟨_, rfl⟩
        obtain ⟨W6, hW6⟩ : ∃ W, W2.alloc (.cells #[.int .i64 t, .int .i64 d, .int .i64 s, .string n, .slice a k c] 25) = W := ⟨_, rfl⟩
        have hB : W6.heap.size = M3 + 1 := by rw [← hW6, ← hM]; simp
        rw [hM, hW6, ← hB, List.append_assoc] at HM
        rw [hM, hW6]
        have hMB : M3 < W6.heap.size := by omega
        clear hM hW6 hB p0 p1 q0 q1' q2 q3 q4 r0 r1 r2 HCc
        go_cut [14] (fun s14 wx => s14 = .pointer (some ⟨M3, 0, none⟩) ∧ ∃ y, Hid (VOwn wx W6.heap.size y (vs.take q ++ [(xk, xn, xs)] ++ vs.drop (q + 1))) ∧ Hid (CL W2 ((L0 w nm (.slice fa k fc) t d s n (.slice a k c) xk xn xs ++ ((eF M2 t d s n ++ [(M2, 4, y2)]) ++ eF M3 t d s n)) ++ [(M3, 4, y)]) wx))
        case first =>
          have HX1 : Hid (∀ W, Hid (CM W2 (L0 w nm (.slice fa k fc) t d s n (.slice a k c) xk xn xs ++ ((eF M2 t d s n ++ [(M2, 4, y2)]) ++ eF M3 t d s n)) M3 W6.heap.size W) → VSl W v1 (vs.take q)) := fun W hW => (HW1.out.below HBc.out).below hW.out.cl.hb
          have HX2 : Hid (∀ W, Hid (CM W2 (L0 w nm (.slice fa k fc) t d s n (.slice a k c) xk xn xs ++ ((eF M2 t d s n ++ [(M2, 4, y2)]) ++ eF M3 t d s n)) M3 W6.heap.size W) → VSl W v2 (vs.drop (q + 1))) := fun W hW => (HW2.out.below HBc.out).below hW.out.cl.hb
          have HOA := own_a W6
          have HOB := own_b W6 (.cells #[.int .i64 xk, .int .i64 xn, .string xs] 52)
          have HOC := own_c W6 (.cells #[.int .i64 xk, .int .i64 xn, .string xs] 52)
          have HSB := one_b W6 xk xn xs HXS.out
          have HSC := one_c W6 xk xn xs HXS.out
          have neB : some W6.heap.size ≠ Value.ownBlock (.slice (some ⟨W6.heap.size + 1, 0, none⟩) 0 0) := ne_own (by omega)
          have neC : some (W6.heap.size + 1) ≠ Value.ownBlock (.slice (some ⟨W6.heap.size, 0, none⟩) 0 0) := ne_own (by omega)
          have HLc : Hid (([] : List VIn).length + (vs.take q).length ≤ 1000) := by show _ ≤ _; rw [List.length_take]; simp; omega
          have HM1 := CM.drew HM
          have HM2 := CM.conj HM1
          obtain ⟨m0, m1, m2, m3, _⟩ := HM2
          have hv1 := Hv1.out
          have hv2 := Hv2.out
          clear HZ HFt HKD HSz HM HVy HBc
          go_region_held3 (fun W => W.cell? ⟨w.heap.size + 1, 4, none⟩ = some (.slice a k c) ∧ W.cell? ⟨w.heap.size + 1 + 1, 0, none⟩ = some (.int .i64 xk) ∧ W.cell? ⟨w.heap.size + 1 + 1, 1, none⟩ = some (.int .i64 xn) ∧ W.cell? ⟨w.heap.size + 1 + 1, 2, none⟩ = some (.string xs) ∧ Hid (CM W2 (L0 w nm (.slice fa k fc) t d s n (.slice a k c) xk xn xs ++ ((eF M2 t d s n ++ [(M2, 4, y2)]) ++ eF M3 t d s n)) M3 W6.heap.size W))
            (((try go_split_ands); (with_reducible refine CM.conj ?_); first | with_reducible assumption | (with_reducible refine CM.adrew _ ?_; with_reducible assumption) | (with_reducible refine CM.alloc _ ?_; with_reducible assumption) | (with_reducible refine CM.set ?_ _; with_reducible assumption)))
            (first
              | (go_split_ands; refine step_append_cm (w := W2) (L := L0 w nm (.slice fa k fc) t d s n (.slice a k c) xk xn xs ++ ((eF M2 t d s n ++ [(M2, 4, y2)]) ++ eF M3 t d s n)) (M := M3) (B := W6.heap.size) rfl (.tmp 105) (.tmp 109) rfl ?_ (HX1.out _ ?_) HOA.out HLc.out ?_ ?_ ?_; (with_reducible assumption); (with_reducible assumption); (simp [Act.eval]); (simp [Act.eval]); intro v8 w8 HO8 hg8 HC8; clear hg8)
              | (go_split_ands; refine step_append_cm (w := W2) (L := L0 w nm (.slice fa k fc) t d s n (.slice a k c) xk xn xs ++ ((eF M2 t d s n ++ [(M2, 4, y2)]) ++ eF M3 t d s n)) (M := M3) (B := W6.heap.size) rfl (.tmp 105) (.tmp 109) rfl ?_ (HX1.out _ ?_) HOB.out HLc.out ?_ ?_ ?_; (with_reducible assumption); (with_reducible assumption); (simp [Act.eval]); (simp [Act.eval]); intro v8 w8 HO8 hg8 HC8; have HS8 := Lib.hid (VSl.grown hg8.out HSB.out neB); clear hg8)
              | (go_split_ands; refine step_append_cm (w := W2) (L := L0 w nm (.slice fa k fc) t d s n (.slice a k c) xk xn xs ++ ((eF M2 t d s n ++ [(M2, 4, y2)]) ++ eF M3 t d s n)) (M := M3) (B := W6.heap.size) rfl (.tmp 105) (.tmp 109) rfl ?_ (HX1.out _ ?_) HOC.out HLc.out ?_ ?_ ?_; (with_reducible assumption); (with_reducible assumption); (simp [Act.eval]); (simp [Act.eval]); intro v8 w8 HO8 hg8 HC8; have HS8 := Lib.hid (VSl.grown hg8.out HSC.out neC); clear hg8)
              | (go_split_ands; refine step_append_cm (w := W2) (L := L0 w nm (.slice fa k fc) t d s n (.slice a k c) xk xn xs ++ ((eF M2 t d s n ++ [(M2, 4, y2)]) ++ eF M3 t d s n)) (M := M3) (B := W6.heap.size) rfl (.tmp 110) (.tmp 112) rfl ?_ (VSl.one _ _ _ _ HXS.out) (HO8.out.alloc _) HLe.out ?_ ?_ ?_; (with_reducible assumption); (simp [Act.eval]); (simp [Act.eval]); intro v9 w9 HO9 hg9 HC9; clear hg9)
              | (go_split_ands; refine step_append_cm (w := W2) (L := L0 w nm (.slice fa k fc) t d s n (.slice a k c) xk xn xs ++ ((eF M2 t d s n ++ [(M2, 4, y2)]) ++ eF M3 t d s n)) (M := M3) (B := W6.heap.size) rfl (.tmp 110) (.tmp 112) rfl ?_ HS8.out HO8.out HLe.out ?_ ?_ ?_; (with_reducible assumption); (simp [Act.eval]); (simp [Act.eval]); intro v9 w9 HO9 hg9 HC9; clear hg9)
              | (go_split_ands; refine step_append_cm (w := W2) (L := L0 w nm (.slice fa k fc) t d s n (.slice a k c) xk xn xs ++ ((eF M2 t d s n ++ [(M2, 4, y2)]) ++ eF M3 t d s n)) (M := M3) (B := W6.heap.size) rfl (.tmp 113) (.tmp 118) rfl ?_ (HX2.out _ ?_) HO9.out HLf.out ?_ ?_ ?_; (with_reducible assumption); (with_reducible assumption); (simp [Act.eval]); (simp [Act.eval]); intro v10 w10 HO10 hg10 HC10; clear hg10; obtain ⟨a9, l9, c9, rfl⟩ := VOwn.slice HO10.out; obtain ⟨u9, e9⟩ := HC10.out.ex; have f9 := HC10.out.fz))
          all_goals
            have HF1 := Lib.hid (VOwn.set HO10.out (b := M3) (i := 4) (.slice a9 l9 c9) hMB)
            have HF2 := CM.put HC10 (.slice a9 l9 c9)
            go_wp2_with fail
            go_meet
            exact ⟨rfl, _, HF1, HF2⟩
        case rest =>
        obtain ⟨rfl, y3, HOy, HCy⟩ := hcut
        have HVz : Hid (VSl wc y3 (vs.take q ++ (xk, xn, xs) :: vs.drop (q + 1))) := by
          have h9 : VSl wc y3 (vs.take q ++ [(xk, xn, xs)] ++ vs.drop (q + 1)) := HOy.out.sl fun x hx => by
            rcases List.mem_append.1 hx with h | h
            · rcases List.mem_append.1 h with h | h
              · exact HSz.out x (List.mem_of_mem_take h)
              · rw [List.mem_singleton.1 h]; exact HXS.out
            · exact HSz.out x (List.mem_of_mem_drop h)
          rwa [List.append_assoc, List.singleton_append] at h9
        have HVy : Hid (VSl wc y2 (vs.take q ++ vs.drop (q + 1))) := HVy.out.below HCy.out.hb
        have HBc : Hid (Below w.heap.size w wc) := HBc.out.trans (HCy.out.hb.mono HBc.out.size)
        obtain ⟨f, hf⟩ : ∃ f, fs[q]? = some f := ⟨_, List.getElem?_eq_getElem (by rw [Hm.out]; exact hqk)⟩
        obtain ⟨A', rfl, _, d1, _⟩ := (HF.out.below HBc.out) q f hf
        have hzo := fits_other HZ.out (k := q) (by rw [Hl.out]; exact hqk) (x := (xk, xn, xs)) hr hf
        have hzl := fits_less HZ.out (k := q) (by rw [Hl.out]; exact hqk)
        obtain ⟨fn, fk⟩ := f
        dsimp only at d1 hzo
        unfold efld at d1
        have HCd : Hid (CL wc (L0 w nm (.slice (some A') k fc) t d s n (.slice a k c) xk xn xs ++ (((eF M2 t d s n ++ [(M2, 4, y2)]) ++ eF M3 t d s n) ++ ([(M3, 4, y3)] ++ [((A'.add (q * 2)).block, (A'.add (q * 2)).off + 1, .int .i64 fk)]))) wc) := ⟨fun b i v hm => by
          rw [← List.append_assoc, ← List.append_assoc] at hm
          rcases List.mem_append.1 hm with h | h
          · exact HCy.out.cs b i v h
          · simp only [List.mem_cons, Prod.mk.injEq, List.not_mem_nil, or_false] at h
            obtain ⟨rfl, rfl, rfl⟩ := h
            exact d1, Below.refl _ _⟩
        obtain ⟨z3, hz3⟩ : ∃ z3, fitsA [⟨nm, some A', fc, fs⟩] t d s n (vs.take q ++ (xk, xn, xs) :: vs.drop (q + 1)) = z3 := ⟨_, rfl⟩
        rw [hz3] at hzo
        have HFt2 := fit_one (w := wc) (L := L0 w nm (.slice (some A') k fc) t d s n (.slice a k c) xk xn xs ++ (((eF M2 t d s n ++ [(M2, 4, y2)]) ++ eF M3 t d s n) ++ ([(M3, 4, y3)] ++ [((A'.add (q * 2)).block, (A'.add (q * 2)).off + 1, .int .i64 fk)]))) ⟨nm, some A', fc, fs⟩ (HF.out.below HBc.out) HSl.out HSn.out t d s n Hn.out
        dsimp only at HFt2
        rw [Hm.out] at HFt2
        have HFl : Hid (∀ W : World, Hid (CL wc (L0 w nm (.slice (some A') k fc) t d s n (.slice a k c) xk xn xs ++ (((eF M2 t d s n ++ [(M2, 4, y2)]) ++ eF M3 t d s n) ++ ([(M3, 4, y3)] ++ [((A'.add (q * 2)).block, (A'.add (q * 2)).off + 1, .int .i64 fk)]))) W) → Calls Try.prog 24 #[.slice (some ⟨W.heap.size, 0, none⟩) 1 1, evV t d s n y2] (W.alloc (.cells #[.string nm, .slice (some A') k fc] 31)) (FitQ 42 (CL wc (L0 w nm (.slice (some A') k fc) t d s n (.slice a k c) xk xn xs ++ (((eF M2 t d s n ++ [(M2, 4, y2)]) ++ eF M3 t d s n) ++ ([(M3, 4, y3)] ++ [((A'.add (q * 2)).block, (A'.add (q * 2)).off + 1, .int .i64 fk)])))))) := fun W hW =>
          (HFt2.out W y2 _ 42 hzl (HVy.out.below hW.out.hb) hW).mono fun e w' ⟨e1, h2⟩ => ⟨e1, h2.out.1⟩
        have HFo : Hid (∀ W : World, Hid (CL wc (L0 w nm (.slice (some A') k fc) t d s n (.slice a k c) xk xn xs ++ (((eF M2 t d s n ++ [(M2, 4, y2)]) ++ eF M3 t d s n) ++ ([(M3, 4, y3)] ++ [((A'.add (q * 2)).block, (A'.add (q * 2)).off + 1, .int .i64 fk)]))) W) → Calls Try.prog 24 #[.slice (some ⟨W.heap.size, 0, none⟩) 1 1, evV t d s n y3] (W.alloc (.cells #[.string nm, .slice (some A') k fc] 31)) (FitQ z3 (CL wc (L0 w nm (.slice (some A') k fc) t d s n (.slice a k c) xk xn xs ++ (((eF M2 t d s n ++ [(M2, 4, y2)]) ++ eF M3 t d s n) ++ ([(M3, 4, y3)] ++ [((A'.add (q * 2)).block, (A'.add (q * 2)).off + 1, .int .i64 fk)])))))) := fun W hW =>
          (HFt2.out W y3 _ z3 hz3 (HVz.out.below hW.out.hb) hW).mono fun e w' ⟨e1, h2⟩ => ⟨e1, h2.out.1⟩
        have HFd : Hid (∀ W : World, Hid (CL wc (L0 w nm (.slice (some A') k fc) t d s n (.slice a k c) xk xn xs ++ (((eF M2 t d s n ++ [(M2, 4, y2)]) ++ eF M3 t d s n) ++ ([(M3, 4, y3)] ++ [((A'.add (q * 2)).block, (A'.add (q * 2)).off + 1, .int .i64 fk)]))) W.drew) → Calls Try.prog 24 #[.slice (some ⟨W.heap.size, 0, none⟩) 1 1, evV t d s n y2] (W.alloc (.cells #[.string nm, .slice (some A') k fc] 31)).drew (FitQ 42 (CL wc (L0 w nm (.slice (some A') k fc) t d s n (.slice a k c) xk xn xs ++ (((eF M2 t d s n ++ [(M2, 4, y2)]) ++ eF M3 t d s n) ++ ([(M3, 4, y3)] ++ [((A'.add (q * 2)).block, (A'.add (q * 2)).off + 1, .int .i64 fk)])))))) := fun W hW => HFl.out W.drew hW
        have HCe := CL.drew HCd
        obtain ⟨g0, g1, g2, g3, g4, g5, g6, g7, g8, g9, g10, g11, g12, g13, _⟩ := F20.conj HCe
        have hcase : ((z3 == 0) = true ∧ (xk == fk) = true) ∨ ((z3 == 0) = false ∧ (xk == fk) = false) := by
          by_cases e : xk = fk
          · exact .inl ⟨by rw [beq_iff_eq]; exact hzo.2 e, by rw [beq_iff_eq]; exact e⟩
          · exact .inr ⟨by rw [beq_eq_false_iff_ne]; exact fun h => e (hzo.1 h), by rw [beq_eq_false_iff_ne]; exact e⟩
        clear hzo hzl hz3 HFt2 HFt HZ HV HF HCy HCd HOy HVy HVz hf hr d1 HLe HLf Hv1 Hv2 HW1 HW2 HKD HSz HXS Hl Hm hMB HM W6 HSl HSn Hn
        go_upto_region 20 with fail
        rcases hcase with ⟨b1, b2⟩ | ⟨b1, b2⟩
        all_goals
          go_region_held3 (fun W => W.cell? ⟨w.heap.size, 0, none⟩ = some (.string nm) ∧ W.cell? ⟨w.heap.size, 1, none⟩ = some (.slice (some A') k fc) ∧ W.cell? ⟨w.heap.size + 1 + 1, 0, none⟩ = some (.int .i64 xk) ∧ W.cell? ⟨M2, 0, none⟩ = some (.int .i64 t) ∧ W.cell? ⟨M2, 1, none⟩ = some (.int .i64 d) ∧ W.cell? ⟨M2, 2, none⟩ = some (.int .i64 s) ∧ W.cell? ⟨M2, 3, none⟩ = some (.string n) ∧ W.cell? ⟨M2, 4, none⟩ = some y2 ∧ W.cell? ⟨M3, 0, none⟩ = some (.int .i64 t) ∧ W.cell? ⟨M3, 1, none⟩ = some (.int .i64 d) ∧ W.cell? ⟨M3, 2, none⟩ = some (.int .i64 s) ∧ W.cell? ⟨M3, 3, none⟩ = some (.string n) ∧ W.cell? ⟨M3, 4, none⟩ = some y3 ∧ W.cell? ⟨(A'.add (q * 2)).block, (A'.add (q * 2)).off + 1, none⟩ = some (.int .i64 fk) ∧ Hid (CL wc (L0 w nm (.slice (some A') k fc) t d s n (.slice a k c) xk xn xs ++ (((eF M2 t d s n ++ [(M2, 4, y2)]) ++ eF M3 t d s n) ++ ([(M3, 4, y3)] ++ [((A'.add (q * 2)).block, (A'.add (q * 2)).off + 1, .int .i64 fk)]))) W))
            (((try go_split_ands); (with_reducible refine F20.conj ?_); first | with_reducible assumption | (with_reducible refine CL.adrew _ ?_; with_reducible assumption) | (with_reducible refine CL.alloc _ ?_; with_reducible assumption)))
            (first
              | (go_at_call 24; (with_reducible refine (HFd.out _ ?_).mono ?_); (go_split_ands; with_reducible assumption); rintro e w4 ⟨rfl, HC4⟩)
              | (go_at_call 24; (with_reducible refine (HFl.out _ ?_).mono ?_); (go_split_ands; with_reducible assumption); rintro e w4 ⟨rfl, HC4⟩)
              | (go_at_call 24; (with_reducible refine (HFo.out _ ?_).mono ?_); (go_split_ands; with_reducible assumption); rintro e w5 ⟨rfl, HC5⟩))
          go_wp2
          go_ret
          exact ⟨rfl, HBc.out.trans (HC5.out.hb.mono HBc.out.size)⟩
  · have hd : (z != 0) = true := by rw [bne_iff_ne]; exact h0
    go_wp2
    go_ret
    exact ⟨rfl, HH.out.hb⟩

end Go.Proofs.Ytppgecbjdkfohaa

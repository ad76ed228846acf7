/- Events: EqualFunc of values and fields; Fits. -/
import Derived.Test.YtppgecbjdkfohaaE5e
import Derived.Deep.RegionHeld
namespace Go.Proofs.Ytppgecbjdkfohaa
open Go.RowKit Go.Lib Go.Op

set_option maxRecDepth 100000 in
theorem fits1_calls (k n : Int) (s nm : ByteArray) (kd : Int) (w : World) :
    Calls Try.prog 53 #[.agg #[.int .i64 k, .int .i64 n, .string s], .agg #[.string nm, .int .i64 kd]] w fun e w' => e = .returned (.bool (k == kd)) ∧ Below w.heap.size w w' := by
  go_enter Try.func53, Try.ntmps53
  go_wp2
  go_ret
  exact ⟨rfl, by repeat' (first | exact Below.refl _ _ | refine Below.alloc ?_ (by simp <;> omega) _)⟩

/-- Are they as many, each of its field's kind? -/
def kindsB (vs : List VIn) (fs : List FIn) : Bool := decide (vs.map (·.1) = fs.map (·.2))

/-- So far they are. -/
def KindsTo (vs : List VIn) (fs : List FIn) (k : Nat) : Prop := ∀ j x y, j < k → vs[j]? = some x → fs[j]? = some y → x.1 = y.2
theorem KindsTo.step {vs : List VIn} {fs : List FIn} {k : Nat} (h : KindsTo vs fs k) {x : VIn} {y : FIn} (hx : vs[k]? = some x) (hy : fs[k]? = some y) (he : x.1 = y.2) : KindsTo vs fs (k + 1) := fun j x' y' hj hx' hy' => by
  by_cases e : j = k
  · subst e
    rw [hx] at hx'
    rw [hy] at hy'
    injection hx' with hx'
    injection hy' with hy'
    rw [← hx', ← hy']; exact he
  · exact h j x' y' (by omega) hx' hy'
theorem KindsTo.all {vs : List VIn} {fs : List FIn} (h : KindsTo vs fs vs.length) (hl : vs.length = fs.length) : kindsB vs fs = true := by
  refine decide_eq_true (List.ext_getElem (by simpa using hl) fun j h1 h2 => ?_)
  simp only [List.length_map] at h1 h2
  simp only [List.getElem_map]
  exact h j _ _ h1 (List.getElem?_eq_getElem h1) (List.getElem?_eq_getElem h2)
theorem kindsB_len {vs : List VIn} {fs : List FIn} (h : vs.length ≠ fs.length) : kindsB vs fs = false := by
  refine decide_eq_false fun e => h ?_
  have := congrArg List.length e
  simpa using this
theorem kindsB_at {vs : List VIn} {fs : List FIn} {k : Nat} {x : VIn} {y : FIn} (hx : vs[k]? = some x) (hy : fs[k]? = some y) (he : x.1 ≠ y.2) : kindsB vs fs = false := by
  refine decide_eq_false fun e => he ?_
  have := congrArg (·[k]?) e
  simp only [List.getElem?_map, hx, hy, Option.map_some, Option.some.injEq] at this
  exact this

set_option maxHeartbeats 2000000 in
set_option maxRecDepth 100000 in
theorem equalF_calls (va : Option Addr) (vc : Nat) (vs : List VIn) (fa : Option Addr) (fc : Nat) (fs : List FIn) (w : World) (hv : VRow w va vs) (hvl : vs.length ≤ maxLen) (hf : FRow w fa fs) (hfl : fs.length ≤ maxLen) :
    Calls Try.prog 54 #[.slice va vs.length vc, .slice fa fs.length fc, .func (.func 53) #[] #[]] w fun e w' => e = .returned (.bool (kindsB vs fs)) ∧ Below w.heap.size w w' := by
  have HV := Lib.hid hv
  have HF := Lib.hid hf
  obtain ⟨l, hll⟩ : ∃ l, vs.length = l := ⟨_, rfl⟩
  obtain ⟨m, hmm⟩ : ∃ m, fs.length = m := ⟨_, rfl⟩
  have Hl := Lib.hid hll
  have Hm := Lib.hid hmm
  rw [hll] at hvl ⊢
  rw [hmm] at hfl ⊢
  unfold maxLen at hvl hfl
  clear hv hf hll hmm
  by_cases hlm : l = m
  · subst hlm
    clear hfl
    go_enter Try.func54, Try.ntmps54
    go_wp2
    go_loopw [7, 8, 9, 17] (fun x y z i wr => ∃ k : Nat, i = .int .i64 k ∧ k ≤ l ∧ Hid (KindsTo vs fs k) ∧ Hid (Below w.heap.size w wr)) (fun _ _ _ i _ => l - (intOf i).toNat)
    case atStart => exact ⟨0, rfl, Nat.zero_le _, fun j x y hj => by omega, Below.refl _ _⟩
    case round =>
      obtain ⟨k, rfl, hk, HR, HB⟩ := hrel
      by_cases hlt : k < l
      · obtain ⟨x, hx⟩ : ∃ x, vs[k]? = some x := ⟨_, List.getElem?_eq_getElem (by rw [Hl.out]; exact hlt)⟩
        obtain ⟨y, hy⟩ : ∃ y, fs[k]? = some y := ⟨_, List.getElem?_eq_getElem (by rw [Hm.out]; exact hlt)⟩
        obtain ⟨A, rfl, c0, c1, c2, _⟩ := (HV.out.below HB.out) k x hx
        have HFb := Lib.hid ((HF.out.below HB.out).below ((Below.refl _ wr).alloc (Nat.le_refl _) (.cells #[.int .i64 x.1, .int .i64 x.2.1, .string x.2.2] 52)))
        obtain ⟨B, rfl, d0, d1, _⟩ := HFb.out k y hy
        unfold efld at c1 c2 d1
        have hst := fun h => Lib.hid (HR.out.step hx hy h)
        have hno := fun h => Lib.hid (kindsB_at hx hy h)
        obtain ⟨k1, n1, s1⟩ := x
        obtain ⟨nm, kd⟩ := y
        dsimp only at c0 c1 c2 d0 d1 hst hno HFb
        have hbb : Hid (Below w.heap.size w ((wr.alloc (.cells #[.int .i64 k1, .int .i64 n1, .string s1] 52)).alloc (.cells #[.string nm, .int .i64 kd] 55))) := (HB.out.alloc HB.out.size _).alloc (by have := HB.out.size; simp; omega) _
        have HCall := Lib.hid (fits1_calls k1 n1 s1 nm kd ((wr.alloc (.cells #[.int .i64 k1, .int .i64 n1, .string s1] 52)).alloc (.cells #[.string nm, .int .i64 kd] 55)))
        clear hx hy HFb
        by_cases he : k1 = kd
        · have Hst := hst he
          have h1 : (k1 == kd) = true := by simpa using he
          rw [h1] at HCall
          clear hst hno he h1
          go_wp2_with (go_at_call 53; refine HCall.out.mono ?_; rintro e w1 ⟨rfl, hb1⟩)
          have HB1 : Hid (Below w.heap.size w w1) := hbb.out.trans (hb1.mono hbb.out.size)
          go_roundw
          case rel => exact ⟨k + 1, by go_num, by omega, Hst, HB1⟩
          case measure => simp [intOf]; omega
        · have Hno := hno he
          have h1 : (k1 == kd) = false := by simpa using he
          rw [h1] at HCall
          clear hst hno he h1
          go_wp2_with (go_at_call 53; refine HCall.out.mono ?_; rintro e w1 ⟨rfl, hb1⟩)
          have HB1 : Hid (Below w.heap.size w w1) := hbb.out.trans (hb1.mono hbb.out.size)
          go_ret
          exact ⟨by rw [Hno.out]; rfl, HB1.out⟩
      · obtain rfl : k = l := by omega
        have hall := Lib.hid (KindsTo.all (vs := vs) (fs := fs) (by rw [Hl.out]; exact HR.out) (by rw [Hl.out, Hm.out]))
        go_wp2
        go_ret
        exact ⟨by rw [hall.out]; rfl, HB.out⟩
  · have hno := Lib.hid (kindsB_len (vs := vs) (fs := fs) (by rw [Hl.out, Hm.out]; exact hlm))
    have hd : ((l : Int) != (m : Int)) = true := by rw [bne_iff_ne]; omega
    go_enter Try.func54, Try.ntmps54
    go_wp2
    go_ret
    exact ⟨by rw [hno.out]; rfl, Below.refl _ _⟩

/-- What Fits answers. -/
def fitsI (xs : List SIn) (nm : ByteArray) (vs : List VIn) : Int := match xs.findIdx? fun x => nameIs nm x.name with
  | none => 12
  | some k => if kindsB vs ((xs[k]?.map (·.fs)).getD []) then 0 else 42
theorem fitsI_none {xs : List SIn} {nm : ByteArray} {vs : List VIn} (h : xs.findIdx? (fun x => nameIs nm x.name) = none) : fitsI xs nm vs = 12 := by unfold fitsI; rw [h]
theorem fitsI_some {xs : List SIn} {nm : ByteArray} {vs : List VIn} {k : Nat} {x : SIn} (h : xs.findIdx? (fun x => nameIs nm x.name) = some k) (hx : xs[k]? = some x) : fitsI xs nm vs = if kindsB vs x.fs then 0 else 42 := by unfold fitsI; rw [h]; simp [hx]

set_option maxHeartbeats 4000000 in
set_option maxRecDepth 100000 in
theorem fits_calls (sa : Option Addr) (sc : Nat) (xs : List SIn) (t d s : Int) (n : ByteArray) (a : Option Addr) (c : Nat) (vs : List VIn) (w : World) (hs : SRow w sa xs) (hsl : xs.length ≤ maxLen) (hn : n.size ≤ maxLen) (hv : VRow w a vs) (hl : vs.length ≤ maxLen) :
    Calls Try.prog 24 #[.slice sa xs.length sc, evV t d s n (.slice a vs.length c)] w fun e w' => e = .returned (.int .i64 (if rightE (pe t d s n vs) then fitsI xs n vs else 1)) ∧ Below w.heap.size w w' := by
  have hb0 : Below w.heap.size w (w.alloc (.cells #[.int .i64 t, .int .i64 d, .int .i64 s, .string n, .slice a vs.length c] 25)) := (Below.refl _ _).alloc (Nat.le_refl _) _
  have HR := Lib.hid (eright_calls t d s n a c vs (w.alloc (.cells #[.int .i64 t, .int .i64 d, .int .i64 s, .string n, .slice a vs.length c] 25)) hn (hv.below hb0) hl)
  have HP := Lib.hid (fun W (hb : Below w.heap.size w W) => place_calls sa sc xs n W (hs.below hb) hsl)
  have HE := Lib.hid (fun W (hb : Below w.heap.size w W) (x : SIn) (hx : FRow W x.fa x.fs) (hxl : x.fs.length ≤ maxLen) => equalF_calls a c vs x.fa x.fc x.fs W (hv.below hb) hl hx hxl)
  have HS := Lib.hid hs
  obtain ⟨l, hll⟩ : ∃ l, vs.length = l := ⟨_, rfl⟩
  obtain ⟨m, hmm⟩ : ∃ m, xs.length = m := ⟨_, rfl⟩
  have Hm := Lib.hid hmm
  rw [hll] at HR HE hl hb0 ⊢
  rw [hmm] at HP hsl ⊢
  have HB0 := Lib.hid hb0
  unfold maxLen at hl hsl
  clear hv hs hll hmm hb0
  cases hr : rightE (pe t d s n vs) with
  | false =>
    rw [hr] at HR
    go_enter Try.func24, Try.ntmps24
    go_wp2_with (go_at_call 52; refine HR.out.mono ?_; rintro e w1 ⟨rfl, hb1⟩)
    go_ret
    exact ⟨rfl, HB0.out.trans (hb1.mono HB0.out.size)⟩
  | true =>
  rw [hr] at HR
  cases hf : xs.findIdx? (fun x => nameIs n x.name) with
  | none =>
    rw [idxI_none hf] at HP
    have HN := Lib.hid (fitsI_none (vs := vs) hf)
    clear hf
    go_enter Try.func24, Try.ntmps24
    go_wp2_with (first
      | (go_at_call 52; refine HR.out.mono ?_; rintro e w1 ⟨rfl, hb1⟩; have x3 : w1.cell? ⟨w.heap.size, 3, none⟩ = some (.string n) := ekeep hb1 (by simp); have HB1 : Hid (Below w.heap.size w w1) := HB0.out.trans (hb1.mono HB0.out.size); clear hb1)
      | (go_at_call 48; refine (HP.out _ HB1.out).mono ?_; rintro e w2 ⟨rfl, hb2⟩))
    go_ret
    exact ⟨by rw [HN.out]; rfl, HB1.out.trans (hb2.mono HB1.out.size)⟩
  | some k =>
    obtain ⟨x, hx, hk, _⟩ := find_at hf
    rw [idxI_some hf] at HP
    have HN := Lib.hid (fitsI_some (vs := vs) hf hx)
    have Hx := Lib.hid hx
    rw [Hm.out] at hk
    clear hf hx
    go_enter Try.func24, Try.ntmps24
    go_upto_region 7 with (first
      | (go_at_call 52; refine HR.out.mono ?_; rintro e w1 ⟨rfl, hb1⟩; have x3 : w1.cell? ⟨w.heap.size, 3, none⟩ = some (.string n) := ekeep hb1 (by simp); have x4 : w1.cell? ⟨w.heap.size, 4, none⟩ = some (.slice a l c) := ekeep hb1 (by simp); have HB1 : Hid (Below w.heap.size w w1) := HB0.out.trans (hb1.mono HB0.out.size); clear hb1)
      | (go_at_call 48; refine (HP.out _ HB1.out).mono ?_; rintro e w2 ⟨rfl, hb2⟩))
    have HB2 : Hid (Below w.heap.size w w2) := HB1.out.trans (hb2.mono HB1.out.size)
    have y4 : w2.drew.cell? ⟨w.heap.size, 4, none⟩ = some (.slice a l c) := ekeep hb2 x4
    obtain ⟨A, rfl, c0, c1, hfr, hfl, _⟩ := (HS.out.below HB2.out) k x Hx.out
    have HCall := Lib.hid (HE.out w2.drew (vbelow_drew HB2.out) x hfr hfl)
    obtain ⟨nm, fa, fc, fs⟩ := x
    dsimp only at c0 c1 hfr hfl HCall HN
    unfold efld at c1
    have c1' : w2.drew.cell? ⟨(A.add (k * 2)).block, (A.add (k * 2)).off + 1, none⟩ = some (.slice fa fs.length fc) := c1
    have hk0 : (0 : Int) ≤ (k : Int) := by omega
    have hk1 : (k : Int) < (m : Int) := by omega
    have HB2d : Hid (Below w.heap.size w w2.drew) := vbelow_drew HB2.out
    clear c0 c1 hfr hb2 x3 x4
    cases hkb : kindsB vs fs with
    | true =>
      rw [hkb] at HCall HN
      go_region_held3 (fun W => W.cell? ⟨w.heap.size, 4, none⟩ = some (.slice a l c) ∧ W.cell? ⟨(A.add (k * 2)).block, (A.add (k * 2)).off + 1, none⟩ = some (.slice fa fs.length fc))
        ((refine ⟨?_, ?_⟩ <;> with_reducible assumption))
        (first | (go_at_call 54; refine HCall.out.mono ?_; rintro e w4 ⟨rfl, hb4⟩; have z0 := ekeep hb4 y4; have z1 := ekeep hb4 c1'))
      all_goals
        go_wp2
        go_ret
        exact ⟨by rw [HN.out]; rfl, HB2d.out.trans (hb4.mono HB2d.out.size)⟩
    | false =>
      rw [hkb] at HCall HN
      go_region_held3 (fun W => W.cell? ⟨w.heap.size, 4, none⟩ = some (.slice a l c) ∧ W.cell? ⟨(A.add (k * 2)).block, (A.add (k * 2)).off + 1, none⟩ = some (.slice fa fs.length fc))
        ((refine ⟨?_, ?_⟩ <;> with_reducible assumption))
        (first | (go_at_call 54; refine HCall.out.mono ?_; rintro e w4 ⟨rfl, hb4⟩; have z0 := ekeep hb4 y4; have z1 := ekeep hb4 c1'))
      all_goals
        go_wp2
        go_ret
        exact ⟨by rw [HN.out]; rfl, HB2d.out.trans (hb4.mono HB2d.out.size)⟩

end Go.Proofs.Ytppgecbjdkfohaa

/- The document's Field and Schema. -/
import Derived.Test.YtppgecbjdkfohaaE7e
import Derived.Test.YtppgecbjdkfohaaEUe
namespace Go.Proofs.Ytppgecbjdkfohaa
open Go.RowKit Go.Lib Go.Op

set_option maxHeartbeats 2000000 in
set_option maxRecDepth 100000 in
theorem rfield_calls (nm : ByteArray) (a : Option Addr) (c : Nat) (xs : List FIn) (name : ByteArray) (w : World) (hv : FRow w a xs) (hl : xs.length ≤ maxLen) :
    Calls Try.prog 20 #[.agg #[.string nm, .slice a xs.length c], .string name] w fun e w' => e = .returned (.tuple #[.int .i64 (fieldI xs name).1, .int .i64 (fieldI xs name).2]) ∧ Below w.heap.size w w' := by
  have hb0 : Below w.heap.size w (w.alloc (.cells #[.string nm, .slice a xs.length c] 31)) := (Below.refl _ _).alloc (Nat.le_refl _) _
  have HV := Lib.hid (hv.below hb0)
  obtain ⟨l, hll⟩ : ∃ l, xs.length = l := ⟨_, rfl⟩
  have Hl := Lib.hid hll
  rw [hll] at hl hb0 HV ⊢
  have HB := Lib.hid hb0
  have x1 : (w.alloc (.cells #[.string nm, .slice a l c] 31)).cell? ⟨w.heap.size, 1, none⟩ = some (.slice a l c) := by simp
  unfold maxLen at hl
  clear hv hll hb0
  go_enter Try.func20, Try.ntmps20
  go_wp2_with fail
  generalize w.alloc (.cells #[.string nm, .slice a l c] 31) = w0 at *
  go_loop [6] (fun i => ∃ k : Nat, i = .int .i64 k ∧ k ≤ l ∧ Hid (NoneTo xs (fun x => nameIs name x.1) k)) (fun i => l - (intOf i).toNat)
  case atStart => exact ⟨0, rfl, Nat.zero_le _, fun j x hj => by omega⟩
  case round =>
    obtain ⟨k, rfl, hk, HR⟩ := hrel
    by_cases hlt : k < l
    · obtain ⟨x, hx⟩ : ∃ x, xs[k]? = some x := ⟨_, List.getElem?_eq_getElem (by rw [Hl.out]; exact hlt)⟩
      obtain ⟨A, rfl, c0, c1, _⟩ := HV.out k x hx
      unfold efld at c1
      have hk0 : (0 : Int) ≤ (k : Int) := by omega
      have hk1 : (k : Int) < (l : Int) := by omega
      cases hr : nameIs name x.1 with
      | false =>
        have hst := Lib.hid (HR.out.step hx hr)
        have hr' : (x.1.toList == name.toList) = false := hr
        obtain ⟨xn, xk⟩ := x
        dsimp only at c0 c1 hr'
        clear hx hr
        go_wp2
        go_round
        case rel => exact ⟨k + 1, by go_num, by omega, hst⟩
        case measure => simp [intOf]; omega
      | true =>
        have hno := Lib.hid (fieldI_some (idx_hit (q := fun x : FIn => nameIs name x.1) hx hr HR.out) hx)
        have hr' : (x.1.toList == name.toList) = true := hr
        obtain ⟨xn, xk⟩ := x
        dsimp only at c0 c1 hr' hno
        clear hx hr
        go_upto_region 5 with fail
        go_quiet (fail)
        go_wp2
        refine bodyPost_ret (v := .tuple #[.int .i64 k, .int .i64 xk]) (by simp [results, Try.results20, go_sem]) rfl ⟨by rw [hno.out], vbelow_drewN HB.out _⟩
    · obtain rfl : k = l := by omega
      have hall := Lib.hid (fieldI_none (idx_miss (q := fun x : FIn => nameIs name x.1) (xs := xs) (by rw [Hl.out]; exact HR.out)))
      go_wp2
      refine bodyPost_ret (v := .tuple #[.int .i64 (-1), .int .i64 0]) (by simp [results, Try.results20, go_sem]) rfl ⟨by rw [hall.out], HB.out⟩

theorem nameIs_self (s : ByteArray) : nameIs s s = true := by unfold nameIs; simp
theorem nameIs_comm (s t : ByteArray) : nameIs s t = nameIs t s := by unfold nameIs; exact Bool.beq_comm

/-- A field's place is the first of its name just if none ahead has it. -/
theorem fieldI_first {fs : List FIn} {i : Nat} {f : FIn} (hf : fs[i]? = some f) : (fieldI fs f.1).1 = (i : Int) ↔ NoneTo fs (fun x => nameIs f.1 x.1) i := by
  constructor
  · intro h j y hj hy
    cases hk : fs.findIdx? (fun x => nameIs f.1 x.1) with
    | none => rw [fieldI_none hk] at h; dsimp only at h; omega
    | some k =>
      obtain ⟨x, hx, hkl, _⟩ := find_at hk
      rw [fieldI_some hk hx] at h
      dsimp only at h
      have hki : k = i := by omega
      subst hki
      rw [List.findIdx?_eq_some_iff_getElem] at hk
      obtain ⟨_, _, hlt⟩ := hk
      obtain ⟨hjl, rfl⟩ := List.getElem?_eq_some_iff.1 hy
      simpa using hlt j hj
  · intro h
    rw [fieldI_some (idx_hit hf (nameIs_self _) h) hf]

theorem schemaB_not {nm : ByteArray} {fs : List FIn} (h : (List.range fs.length).all (fieldOk fs) = false) : schemaB nm fs = false := by unfold schemaB; rw [h, Bool.and_false, Bool.and_false]
theorem schemaB_all {nm : ByteArray} {fs : List FIn} (h : (List.range fs.length).all (fieldOk fs) = true) : schemaB nm fs = (wordB nm.data.toList && decide (fs.length ≤ 8)) := by unfold schemaB; rw [h, Bool.and_true]

set_option maxHeartbeats 4000000 in
set_option maxRecDepth 100000 in
theorem rschema_calls (nm : ByteArray) (a : Option Addr) (c : Nat) (fs : List FIn) (w : World) (hn : nm.size ≤ maxLen) (hf : FRow w a fs) (hl : fs.length ≤ maxLen) :
    Calls Try.prog 22 #[.agg #[.string nm, .slice a fs.length c]] w fun e w' => e = .returned (.bool (schemaB nm fs)) ∧ Below w.heap.size w w' := by
  have hb0 : Below w.heap.size w (w.alloc (.cells #[.string nm, .slice a fs.length c] 31)) := (Below.refl _ _).alloc (Nat.le_refl _) _
  have HF := Lib.hid (hf.below hb0)
  have HW := Lib.hid (fun W => rword_calls nm W hn)
  obtain ⟨res, hres⟩ : ∃ res, schemaB nm fs = res := ⟨_, rfl⟩
  have Hno := Lib.hid (fun h => (schemaB_not (nm := nm) (fs := fs) h).symm.trans hres)
  have Hyes := Lib.hid (fun h => (schemaB_all (nm := nm) (fs := fs) h).symm.trans hres)
  rw [hres]
  obtain ⟨l, hll⟩ : ∃ l, fs.length = l := ⟨_, rfl⟩
  have Hl := Lib.hid hll
  rw [hll] at hl hb0 HF ⊢
  have HB0 := Lib.hid hb0
  have x0 : (w.alloc (.cells #[.string nm, .slice a l c] 31)).cell? ⟨w.heap.size, 0, none⟩ = some (.string nm) := by simp
  have x1 : (w.alloc (.cells #[.string nm, .slice a l c] 31)).cell? ⟨w.heap.size, 1, none⟩ = some (.slice a l c) := by simp
  have HX0 := Lib.hid x0
  have HX1 := Lib.hid x1
  unfold maxLen at hl
  clear hf hll hb0 hres x0 x1
  go_enter Try.func22, Try.ntmps22
  go_wp2_with fail
  generalize w.alloc (.cells #[.string nm, .slice a l c] 31) = w0 at *
  go_loopw [3, 4, 5] (fun i f j wr => ∃ k : Nat, i = .int .i64 k ∧ k ≤ l ∧ Hid (OkTo fs k) ∧ Hid (Below w0.heap.size w0 wr)) (fun i _ _ _ => l - (intOf i).toNat)
  case atStart => exact ⟨0, rfl, Nat.zero_le _, fun j hj => by omega, Below.refl _ _⟩
  case round =>
    obtain ⟨k, rfl, hk, HR, HB⟩ := hrel
    have HBw : Hid (Below w.heap.size w wr) := HB0.out.trans (HB.out.mono HB0.out.size)
    have x0 := ekeep HB.out HX0.out
    have x1 := ekeep HB.out HX1.out
    by_cases hlt : k < l
    · obtain ⟨x, hx⟩ : ∃ x, fs[k]? = some x := ⟨_, List.getElem?_eq_getElem (by rw [Hl.out]; exact hlt)⟩
      obtain ⟨A, rfl, c0, c1, hxs⟩ := (HF.out.below HB.out) k x hx
      unfold efld at c1
      have hok := fieldOk_at hx
      have hfail := fun h => Lib.hid (Hno.out (notOk (fs := fs) (k := k) (by rw [Hl.out]; exact hlt) h))
      have hstep := fun h => Lib.hid (HR.out.step (k := k) h)
      have HWx := Lib.hid (fun W => rword_calls x.1 W hxs)
      have hfst := fieldI_first hx
      rw [hok] at hfail hstep
      obtain ⟨fn, fk⟩ := x
      dsimp only at c0 c1 HWx hfail hstep hfst
      have Hx := Lib.hid hx
      clear hx hok
      have y1 := ekeepAl (.cells #[.string fn, .int .i64 fk] 55) x1
      cases hw : wordB fn.data.toList with
      | false =>
        have hno := (hfail (by rw [hw]; rfl)).out
        subst hno
        rw [hw] at HWx
        clear hfail hstep hfst
        go_wp2_with (go_at_call 29; (with_reducible refine (HWx.out _).mono ?_); rintro e w2 ⟨rfl, rfl⟩)
        go_ret
        exact ⟨rfl, HBw.out.alloc HBw.out.size _⟩
      | true =>
      rw [hw] at HWx
      by_cases hk1 : fk < 1
      · have hno := (hfail (by rw [hw, decide_eq_false (show ¬ (1 ≤ fk ∧ fk ≤ 3) by omega)]; rfl)).out
        subst hno
        clear hfail hstep hfst
        go_wp2_with (go_at_call 29; (with_reducible refine (HWx.out _).mono ?_); rintro e w2 ⟨rfl, rfl⟩)
        go_ret
        exact ⟨rfl, HBw.out.alloc HBw.out.size _⟩
      by_cases hk3 : 3 < fk
      · have hno := (hfail (by rw [hw, decide_eq_false (show ¬ (1 ≤ fk ∧ fk ≤ 3) by omega)]; rfl)).out
        subst hno
        clear hfail hstep hfst
        go_wp2_with (go_at_call 29; (with_reducible refine (HWx.out _).mono ?_); rintro e w2 ⟨rfl, rfl⟩)
        go_ret
        exact ⟨rfl, HBw.out.alloc HBw.out.size _⟩
      have hst := fun (h : NoneTo fs (fun x => nameIs fn x.1) k) => hstep (by rw [hw, decide_eq_true (show 1 ≤ fk ∧ fk ≤ 3 by omega), decide_eq_true (hfst.2 h)]; rfl)
      have hnf := fun (h : ¬ NoneTo fs (fun x => nameIs fn x.1) k) => hfail (by rw [hw, decide_eq_true (show 1 ≤ fk ∧ fk ≤ 3 by omega), decide_eq_false (fun h2 => h (hfst.1 h2))]; rfl)
      have HST := Lib.hid hst
      have HNF := Lib.hid hnf
      clear hfail hstep hfst hst hnf
      go_wp2_with (go_at_call 29; (with_reducible refine (HWx.out _).mono ?_); rintro e w2 ⟨rfl, rfl⟩)
      have hbA : Below wr.heap.size wr (wr.alloc (.cells #[.string fn, .int .i64 fk] 55)) := (Below.refl _ _).alloc (Nat.le_refl _) _
      have f0 : (wr.alloc (.cells #[.string fn, .int .i64 fk] 55)).cell? ⟨wr.heap.size, 0, none⟩ = some (.string fn) := by simp
      have HB1 := Lib.hid (HB.out.trans (hbA.mono HB.out.size))
      have HF0 := Lib.hid f0
      have HY1 := Lib.hid y1
      clear y1 f0 hbA x0 x1 c0 c1
      generalize wr.alloc (.cells #[.string fn, .int .i64 fk] 55) = w1 at *
      generalize wr.heap.size = FB at *
      go_loopw [5] (fun j wr => ∃ k2 : Nat, j = .int .i64 k2 ∧ k2 ≤ k ∧ Hid (NoneTo fs (fun x => nameIs fn x.1) k2) ∧ Hid (Below w1.heap.size w1 wr)) (fun j _ => k - (intOf j).toNat)
      case atStart => exact ⟨0, rfl, Nat.zero_le _, fun j x hj => by omega, Below.refl _ _⟩
      case round =>
        obtain ⟨k2, rfl, hk2, HN, HB2⟩ := hrel
        have HB3 := Lib.hid (HB1.out.trans (HB2.out.mono HB1.out.size))
        by_cases hlt2 : k2 < k
        · obtain ⟨y, hy⟩ : ∃ y, fs[k2]? = some y := ⟨_, List.getElem?_eq_getElem (by rw [Hl.out]; omega)⟩
          obtain ⟨A', e1, d0, d1, _⟩ := (HF.out.below HB3.out) k2 y hy
          injection e1 with e1
          subst e1
          have z1 := ekeep HB2.out HY1.out
          have z0 := ekeep HB2.out HF0.out
          have hk20 : (0 : Int) ≤ (k2 : Int) := by omega
          have hk21 : (k2 : Int) < (l : Int) := by omega
          cases hr : nameIs fn y.1 with
          | true =>
            have hno := (HNF.out (fun h => by have h9 : nameIs fn y.1 = false := h k2 y hlt2 hy; rw [hr] at h9; cases h9)).out
            subst hno
            have hr' : (y.1.toList == fn.toList) = true := hr
            obtain ⟨yn, yk⟩ := y
            dsimp only at d0 d1 hr'
            clear hy hr
            go_upto_region 10 with fail
            go_quiet (fail)
            go_wp2
            go_ret
            exact ⟨rfl, vbelow_drewN (HB0.out.trans (HB3.out.mono HB0.out.size)) _⟩
          | false =>
            have hst := Lib.hid (HN.out.step hy hr)
            have hr' : (y.1.toList == fn.toList) = false := hr
            obtain ⟨yn, yk⟩ := y
            dsimp only at d0 d1 hr'
            clear hy hr
            go_upto_region 10 with fail
            go_quiet (fail)
            go_wp2
            go_roundw
            case rel => exact ⟨k2 + 1, by go_num, by omega, hst, vbelow_drewN HB2.out _⟩
            case measure => simp [intOf]; omega
        · obtain rfl : k2 = k := by omega
          have hst := HST.out HN.out
          go_wp2
          go_roundw
          case rel => exact ⟨k2 + 1, by go_num, by omega, hst, HB3⟩
          case measure => simp [intOf]; omega
    · obtain rfl : k = l := by omega
      have hall := Hyes.out (OkTo.all (fs := fs) (by rw [Hl.out]; exact HR.out))
      rw [Hl.out] at hall
      have Hall := Lib.hid hall
      clear hall
      cases hw : wordB nm.data.toList with
      | false =>
        rw [hw] at HW Hall
        go_wp2_with (go_at_call 29; (with_reducible refine (HW.out _).mono ?_); rintro e w2 ⟨rfl, rfl⟩)
        go_ret
        exact ⟨by rw [← Hall.out]; rfl, HBw.out⟩
      | true =>
        rw [hw] at HW Hall
        by_cases h8 : k ≤ 8
        · have hd : decide ((k : Int) ≤ 8) = true := by simp; omega
          have e8 : decide (k ≤ 8) = true := decide_eq_true h8
          go_wp2_with (go_at_call 29; (with_reducible refine (HW.out _).mono ?_); rintro e w2 ⟨rfl, rfl⟩)
          go_ret
          exact ⟨by rw [← Hall.out, e8]; rfl, HBw.out⟩
        · have hd : decide ((k : Int) ≤ 8) = false := by simp; omega
          have e8 : decide (k ≤ 8) = false := decide_eq_false h8
          go_wp2_with (go_at_call 29; (with_reducible refine (HW.out _).mono ?_); rintro e w2 ⟨rfl, rfl⟩)
          go_ret
          exact ⟨by rw [← Hall.out, e8]; rfl, HBw.out⟩

end Go.Proofs.Ytppgecbjdkfohaa

/- Events: Schema. | Events: what the statements compare: Same, SameOne. | Values: Add, Sub, Compare. | Values: Compare. | The record of the first frame: first. | Values: appendDigits, Put. | Events: Put's closure: digits behind what is there. | All records of the frames that bytes begin with: Cut. -/
import Derived.Test.YtfmlgckfcclojaaM1
namespace Go.Proofs.Ytfmlgckfcclojaa
open Go.RowKit Go.Lib Go.Op

/-- May that field be one, at its place? -/
def fieldOk (fs : List FIn) (i : Nat) : Bool := match fs[i]? with
  | some f => wordB f.1.data.toList && (decide (1 ≤ f.2 ∧ f.2 ≤ 3) && decide ((fieldI fs f.1).1 = (i : Int)))
  | none => true
def schemaB (nm : ByteArray) (fs : List FIn) : Bool := wordB nm.data.toList && (decide (fs.length ≤ 8) && (List.range fs.length).all (fieldOk fs))

theorem fieldOk_at {fs : List FIn} {i : Nat} {f : FIn} (h : fs[i]? = some f) : fieldOk fs i = (wordB f.1.data.toList && (decide (1 ≤ f.2 ∧ f.2 ≤ 3) && decide ((fieldI fs f.1).1 = (i : Int)))) := by unfold fieldOk; rw [h]

def OkTo (fs : List FIn) (k : Nat) : Prop := ∀ j, j < k → fieldOk fs j = true
theorem OkTo.step {fs : List FIn} {k : Nat} (h : OkTo fs k) (hk : fieldOk fs k = true) : OkTo fs (k + 1) := fun j hj => by
  by_cases e : j = k
  · rw [e]; exact hk
  · exact h j (by omega)
theorem OkTo.all {fs : List FIn} (h : OkTo fs fs.length) : (List.range fs.length).all (fieldOk fs) = true := by
  rw [List.all_eq_true]
  intro j hj
  exact h j (List.mem_range.1 hj)
theorem notOk {fs : List FIn} {k : Nat} (hk : k < fs.length) (h : fieldOk fs k = false) : (List.range fs.length).all (fieldOk fs) = false := by
  rw [List.all_eq_false]
  exact ⟨k, List.mem_range.2 hk, by simp [h]⟩

set_option maxHeartbeats 4000000 in
set_option maxRecDepth 100000 in
theorem schema_calls (nm : ByteArray) (a : Option Addr) (c : Nat) (fs : List FIn) (w : World) (hn : nm.size ≤ maxLen) (hf : FRow w a fs) (hl : fs.length ≤ maxLen) :
    Calls Try.prog 21 #[.agg #[.string nm, .slice a fs.length c]] w fun e w' => e = .returned (.bool (schemaB nm fs)) ∧ Below w.heap.size w w' := by
  have hb0 : Below w.heap.size w (w.alloc (.cells #[.string nm, .slice a fs.length c] 31)) := (Below.refl _ _).alloc (Nat.le_refl _) _
  have HW := Lib.hid (word_calls nm (w.alloc (.cells #[.string nm, .slice a fs.length c] 31)) hn)
  have HFd := Lib.hid (fun (name : ByteArray) (W : World) (hb : Below w.heap.size w W) => field_calls nm a c fs name W (hf.below hb) hl)
  have HF := Lib.hid hf
  unfold schemaB
  obtain ⟨l, hll⟩ : ∃ l, fs.length = l := ⟨_, rfl⟩
  have Hl := Lib.hid hll
  rw [hll] at HW HFd hl hb0 ⊢
  have HB0 := Lib.hid hb0
  unfold maxLen at hl
  clear hf hll hb0
  cases h1 : wordB nm.data.toList with
  | false =>
    rw [h1] at HW
    go_enter Try.func21, Try.ntmps21
    go_wp2_with (go_at_call 28; refine HW.out.mono ?_; rintro e w1 ⟨rfl, hb1⟩)
    go_ret
    exact ⟨rfl, HB0.out.trans (hb1.mono HB0.out.size)⟩
  | true =>
  rw [h1] at HW
  by_cases h8 : 8 < l
  · rw [decide_eq_false (show ¬ l ≤ 8 by omega)]
    go_enter Try.func21, Try.ntmps21
    go_wp2_with (go_at_call 28; refine HW.out.mono ?_; rintro e w1 ⟨rfl, hb1⟩; have x1 : w1.cell? ⟨w.heap.size, 1, none⟩ = some (.slice a l c) := ekeep hb1 (by simp))
    go_ret
    exact ⟨rfl, HB0.out.trans (hb1.mono HB0.out.size)⟩
  rw [decide_eq_true (show l ≤ 8 by omega), Bool.true_and, Bool.true_and]
  obtain ⟨res, hres⟩ : ∃ res, (List.range l).all (fieldOk fs) = res := ⟨_, rfl⟩
  have Hres := Lib.hid hres
  rw [hres]
  clear hres
  go_enter Try.func21, Try.ntmps21
  go_wp2_with (go_at_call 28; refine HW.out.mono ?_; rintro e w1 ⟨rfl, hb1⟩; have x0 : w1.cell? ⟨w.heap.size, 0, none⟩ = some (.string nm) := ekeep hb1 (by simp); have x1 : w1.cell? ⟨w.heap.size, 1, none⟩ = some (.slice a l c) := ekeep hb1 (by simp))
  have HB1 : Hid (Below w.heap.size w w1) := HB0.out.trans (hb1.mono HB0.out.size)
  have HX0 := Lib.hid x0
  have HX1 := Lib.hid x1
  clear hb1 x0 x1
  go_loopw [3, 4, 5, 6, 20] (fun y z u v i wr => ∃ k : Nat, i = .int .i64 k ∧ k ≤ l ∧ Hid (OkTo fs k) ∧ Hid (Below w1.heap.size w1 wr)) (fun _ _ _ _ i _ => l - (intOf i).toNat)
  case atStart => exact ⟨0, rfl, Nat.zero_le _, fun j hj => by omega, Below.refl _ _⟩
  case round =>
    obtain ⟨k, rfl, hk, HR, HB⟩ := hrel
    have HBw : Hid (Below w.heap.size w wr) := HB1.out.trans (HB.out.mono HB1.out.size)
    by_cases hlt : k < l
    · obtain ⟨x, hx⟩ : ∃ x, fs[k]? = some x := ⟨_, List.getElem?_eq_getElem (by rw [Hl.out]; exact hlt)⟩
      obtain ⟨A, rfl, c0, c1, hns⟩ := (HF.out.below HBw.out) k x hx
      have hok := fieldOk_at hx
      have HWx := Lib.hid (word_calls x.1 (wr.alloc (.cells #[.string x.1, .int .i64 x.2] 55)) hns)
      have HBx : Hid (Below w.heap.size w (wr.alloc (.cells #[.string x.1, .int .i64 x.2] 55))) := HBw.out.alloc HBw.out.size _
      unfold efld at c1
      have hstep := fun h => Lib.hid (HR.out.step (k := k) h)
      have hfail := fun h => Lib.hid ((notOk (fs := fs) (k := k) (by rw [Hl.out]; exact hlt) h).symm.trans (show _ = res by rw [Hl.out]; exact Hres.out))
      rw [hok] at hstep hfail
      obtain ⟨fn, kd⟩ := x
      dsimp only at c0 c1 HWx HBx hstep hfail
      have X0 := ekeep HB.out HX0.out
      have X1 := ekeep HB.out HX1.out
      have hlx0 := ekeepAl (.cells #[.string fn, .int .i64 kd] 55) X0
      have hlx1 := ekeepAl (.cells #[.string fn, .int .i64 kd] 55) X1
      have HFx := Lib.hid (HFd.out fn)
      generalize (fieldI fs fn) = fi at HFx hstep hfail
      obtain ⟨f1, f2⟩ := fi
      dsimp only at HFx hstep hfail
      clear hx hok hns
      cases hw : wordB fn.data.toList with
      | false =>
        have hno := hfail (by rw [hw]; rfl)
        rw [hw] at HWx
        clear hstep hfail
        go_wp2_with (go_at_call 28; refine HWx.out.mono ?_; rintro e w2 ⟨rfl, hb2⟩)
        go_ret
        exact ⟨by rw [← hno.out]; rfl, HBx.out.trans (hb2.mono HBx.out.size)⟩
      | true =>
      rw [hw] at HWx
      by_cases hkd : 1 ≤ kd ∧ kd ≤ 3
      · obtain ⟨hk1, hk3⟩ := hkd
        by_cases hfi : f1 = (k : Int)
        · have hst := hstep (by rw [hw, decide_eq_true ⟨hk1, hk3⟩, decide_eq_true hfi]; rfl)
          subst hfi
          clear hstep hfail
          go_wp2_with (first
            | (go_at_call 28; refine HWx.out.mono ?_; rintro e w2 ⟨rfl, hb2⟩; have z0 : w2.cell? ⟨wr.heap.size, 0, none⟩ = some (.string fn) := ekeep hb2 (by simp); have z1 : w2.cell? ⟨wr.heap.size, 1, none⟩ = some (.int .i64 kd) := ekeep hb2 (by simp); have z2 := ekeep hb2 hlx0; have z3 := ekeep hb2 hlx1; have HB2 : Hid (Below w.heap.size w w2) := HBx.out.trans (hb2.mono HBx.out.size); have HB2' : Hid (Below w1.heap.size w1 w2) := (HB.out.alloc HB.out.size _).trans (hb2.mono (by have := HB.out.size; simp; omega)); clear hb2)
            | (go_at_call 19; refine (HFx.out _ HB2.out).mono ?_; rintro e w3 ⟨rfl, hb3⟩))
          have HB3 : Hid (Below w1.heap.size w1 w3) := HB2'.out.trans (hb3.mono HB2'.out.size)
          go_roundw
          case rel => exact ⟨k + 1, by go_num, by omega, hst, HB3⟩
          case measure => simp [intOf]; omega
        · have hno := hfail (by rw [hw, decide_eq_true ⟨hk1, hk3⟩, decide_eq_false hfi]; rfl)
          have hd : (f1 != (k : Int)) = true := by rw [bne_iff_ne]; exact hfi
          clear hstep hfail
          go_wp2_with (first
            | (go_at_call 28; refine HWx.out.mono ?_; rintro e w2 ⟨rfl, hb2⟩; have z0 : w2.cell? ⟨wr.heap.size, 0, none⟩ = some (.string fn) := ekeep hb2 (by simp); have z1 : w2.cell? ⟨wr.heap.size, 1, none⟩ = some (.int .i64 kd) := ekeep hb2 (by simp); have z2 := ekeep hb2 hlx0; have z3 := ekeep hb2 hlx1; have HB2 : Hid (Below w.heap.size w w2) := HBx.out.trans (hb2.mono HBx.out.size); clear hb2)
            | (go_at_call 19; refine (HFx.out _ HB2.out).mono ?_; rintro e w3 ⟨rfl, hb3⟩))
          go_ret
          exact ⟨by rw [← hno.out]; rfl, HB2.out.trans (hb3.mono HB2.out.size)⟩
      · have hno := hfail (by rw [hw, decide_eq_false hkd]; rfl)
        clear hstep hfail
        by_cases hk1 : kd < 1
        · go_wp2_with (go_at_call 28; refine HWx.out.mono ?_; rintro e w2 ⟨rfl, hb2⟩; have z0 : w2.cell? ⟨wr.heap.size, 0, none⟩ = some (.string fn) := ekeep hb2 (by simp); have z1 : w2.cell? ⟨wr.heap.size, 1, none⟩ = some (.int .i64 kd) := ekeep hb2 (by simp))
          go_ret
          exact ⟨by rw [← hno.out]; rfl, HBx.out.trans (hb2.mono HBx.out.size)⟩
        · have hk3 : 3 < kd := by omega
          clear hkd
          go_wp2_with (go_at_call 28; refine HWx.out.mono ?_; rintro e w2 ⟨rfl, hb2⟩; have z0 : w2.cell? ⟨wr.heap.size, 0, none⟩ = some (.string fn) := ekeep hb2 (by simp); have z1 : w2.cell? ⟨wr.heap.size, 1, none⟩ = some (.int .i64 kd) := ekeep hb2 (by simp))
          go_ret
          exact ⟨by rw [← hno.out]; rfl, HBx.out.trans (hb2.mono HBx.out.size)⟩
    · obtain rfl : k = l := by omega
      have hall := Lib.hid ((OkTo.all (fs := fs) (by rw [Hl.out]; exact HR.out)).symm.trans (show _ = res by rw [Hl.out]; exact Hres.out))
      go_wp2
      go_ret
      exact ⟨by rw [← hall.out]; rfl, HBw.out⟩

end Go.Proofs.Ytfmlgckfcclojaa
namespace Go.Proofs.Ytfmlgckfcclojaa
open Go.RowKit Go.Lib Go.Op

set_option maxHeartbeats 2000000 in
set_option maxRecDepth 100000 in
theorem vsame_calls (a : Option Addr) (c : Nat) (b : Option Addr) (d : Nat) (vs : List VIn) (w : World) (ha : VRow w a vs) (hb : VRow w b vs) (hl : vs.length ≤ maxLen) :
    Calls Try.prog 65 #[.slice a vs.length c, .slice b vs.length d] w fun e w' => e = .returned (.bool true) ∧ Below w.heap.size w w' := by
  have HA := Lib.hid ha
  have HB := Lib.hid hb
  obtain ⟨l, hll⟩ : ∃ l, vs.length = l := ⟨_, rfl⟩
  rw [hll] at hl ⊢
  have Hl := Lib.hid hll
  unfold maxLen at hl
  clear ha hb hll
  go_enter Try.func65, Try.ntmps65
  go_wp2
  go_loopw [5] (fun i wr => ∃ k : Nat, i = .int .i64 k ∧ k ≤ l ∧ Hid (Below w.heap.size w wr)) (fun i _ => l - (intOf i).toNat)
  case atStart => exact ⟨0, rfl, Nat.zero_le _, Below.refl _ _⟩
  case round =>
    obtain ⟨k, rfl, hk, HBl⟩ := hrel
    by_cases hlt : k < l
    · obtain ⟨x, hx⟩ : ∃ x, vs[k]? = some x := ⟨_, List.getElem?_eq_getElem (by rw [Hl.out]; exact hlt)⟩
      obtain ⟨A, rfl, c0, c1, c2, _⟩ := (HA.out.below HBl.out) k x hx
      obtain ⟨B, rfl, d0, d1, d2, _⟩ := (HB.out.below HBl.out) k x hx
      obtain ⟨k1, n1, s1⟩ := x
      dsimp only at c0 c1 c2 d0 d1 d2
      unfold efld at c1 c2 d1 d2
      have hk0 : (0 : Int) ≤ (k : Int) := by omega
      have hk1 : (k : Int) < (l : Int) := by omega
      clear hx
      go_wp2_with fail
      go_quiet (fail)
      have HB1 : Hid (Below w.heap.size w (wr.drewN nq)) := vbelow_drewN HBl.out _
      go_wp2_with fail
      go_roundw
      case rel => exact ⟨k + 1, by go_num, by omega, HB1⟩
      case measure => simp [intOf]; omega
    · go_wp2
      go_ret
      exact ⟨rfl, HBl.out⟩

set_option maxHeartbeats 2000000 in
set_option maxRecDepth 100000 in
theorem sameOne_calls (t d s : Int) (n : ByteArray) (a : Option Addr) (c : Nat) (b : Option Addr) (c' : Nat) (vs : List VIn) (w : World) (ha : VRow w a vs) (hb : VRow w b vs) (hl : vs.length ≤ maxLen) :
    Calls Try.prog 32 #[evV t d s n (.slice a vs.length c), evV t d s n (.slice b vs.length c')] w fun e w' => e = .returned (.bool true) ∧ Below w.heap.size w w' := by
  have hB0 : Below w.heap.size w ((w.alloc (.cells #[.int .i64 t, .int .i64 d, .int .i64 s, .string n, .slice a vs.length c] 25)).alloc (.cells #[.int .i64 t, .int .i64 d, .int .i64 s, .string n, .slice b vs.length c'] 25)) := ((Below.refl _ _).alloc (Nat.le_refl _) _).alloc (by simp) _
  have HS := Lib.hid (vsame_calls a c b c' vs _ (ha.below hB0) (hb.below hB0) hl)
  obtain ⟨l, hll⟩ : ∃ l, vs.length = l := ⟨_, rfl⟩
  rw [hll] at hB0 HS ⊢
  have HB0 := Lib.hid hB0
  clear ha hb hll hB0 hl
  go_enter Try.func32, Try.ntmps32
  go_wp2_with (go_at_call 65; refine HS.out.mono ?_; rintro e w1 ⟨rfl, hb1⟩)
  go_ret
  exact ⟨by simp, HB0.out.trans (hb1.mono HB0.out.size)⟩

end Go.Proofs.Ytfmlgckfcclojaa
namespace Go.Proofs.Ytfmlgckfcclojaa
open Go.RowKit Go.Lib Go.Op

/-- What Add and Sub leave. -/
def SumPost (w : World) (p : PVal × Int) (e : Ending) (w' : World) : Prop := e = .returned (.tuple #[.agg #[.int .i64 p.1.k, .int .i64 p.1.n, .string ⟨#[]⟩], .int .i64 p.2]) ∧ Below w.heap.size w w'

theorem sumV_arg {a b : PVal} {t : Int} (h : rightB a = false ∨ rightB b = false) : sumV a b t = (⟨0, 0, []⟩, 1) := by unfold sumV; rw [if_pos h]
theorem sumV_kind {a b : PVal} {t : Int} (h1 : rightB a = true) (h2 : rightB b = true) (h : a.k ≠ 1 ∨ b.k ≠ 1) : sumV a b t = (⟨0, 0, []⟩, 42) := by
  unfold sumV; rw [if_neg (by simp [h1, h2]), if_pos h]
theorem sumV_big {a b : PVal} {t : Int} (h1 : rightB a = true) (h2 : rightB b = true) (h3 : a.k = 1) (h4 : b.k = 1) (h : rightB ⟨1, a.n + t * b.n, []⟩ = false) : sumV a b t = (⟨0, 0, []⟩, 41) := by
  unfold sumV; rw [if_neg (by simp [h1, h2]), if_neg (by simp [h3, h4]), if_neg (by simp [h])]
theorem sumV_ok {a b : PVal} {t : Int} (h1 : rightB a = true) (h2 : rightB b = true) (h3 : a.k = 1) (h4 : b.k = 1) (h : rightB ⟨1, a.n + t * b.n, []⟩ = true) : sumV a b t = (⟨1, a.n + t * b.n, []⟩, 0) := by
  unfold sumV; rw [if_neg (by simp [h1, h2]), if_neg (by simp [h3, h4]), if_pos h]

theorem vbcell {W w1 : World} (hb : Below W.heap.size W w1) : (∀ b o, b < W.heap.size → w1.cell? ⟨b, o, none⟩ = W.cell? ⟨b, o, none⟩) ∧ (∀ b o, b < W.heap.size → w1.frozen? ⟨b, o, none⟩ = W.frozen? ⟨b, o, none⟩) :=
  ⟨fun b o h => hb.cell (p := ⟨b, o, none⟩) h, fun b o h => hb.frozen (p := ⟨b, o, none⟩) h⟩

section
variable (k1 n1 : Int) (s1 : ByteArray) (k2 n2 : Int) (s2 : ByteArray) (w : World)

end

end Go.Proofs.Ytfmlgckfcclojaa
namespace Go.Proofs.Ytfmlgckfcclojaa
open Go.RowKit Go.Lib Go.Op

/-- The table of comparisons, in memory. -/
def HoldsTab (w : World) : Prop := ∀ o i : Nat, 1 ≤ o → o ≤ 6 → i < 3 → w.cell? ⟨0, o * 3 + i, none⟩ = some (.bool (holdsV o i))

theorem HoldsTab.below {w w' : World} (h : HoldsTab w) (hb : Below w.heap.size w w') : HoldsTab w' := fun o i h1 h2 h3 => by
  have h4 := h o i h1 h2 h3
  exact (hb.cell (World.block_lt_of_cell? _ _ h4)).trans h4

/-- What Compare leaves. -/
def CmpPost (w : World) (z : Bool × Int) (e : Ending) (w' : World) : Prop := e = .returned (.tuple #[.bool z.1, .int .i64 z.2]) ∧ Below w.heap.size w w'

theorem cmpV_arg {op : Int} {a b : PVal} (h : rightB a = false ∨ rightB b = false ∨ op < 1 ∨ 6 < op) : cmpV op a b = (false, 1) := by unfold cmpV; rw [if_pos h]
theorem cmpV_kind {op : Int} {a b : PVal} (h1 : rightB a = true) (h2 : rightB b = true) (h3 : 1 ≤ op) (h4 : op ≤ 6) (h : a.k ≠ b.k ∨ a.k = 3 ∧ op ≠ 1 ∧ op ≠ 2) : cmpV op a b = (false, 42) := by
  unfold cmpV; rw [if_neg (by simp [h1, h2]; omega), if_pos h]
theorem cmpV_ok {op : Int} {a b : PVal} (h1 : rightB a = true) (h2 : rightB b = true) (h3 : 1 ≤ op) (h4 : op ≤ 6) (h5 : a.k = b.k) (h : a.k ≠ 3 ∨ op = 1 ∨ op = 2) : cmpV op a b = (holdsV op (1 + signV a b), 0) := by
  unfold cmpV; rw [if_neg (by simp [h1, h2]; omega), if_neg (by omega)]

section
variable (k1 n1 : Int) (s1 : ByteArray) (k2 n2 : Int) (s2 : ByteArray) (w : World)

end

end Go.Proofs.Ytfmlgckfcclojaa
namespace Go.Proofs.Ytfmlgckfcclojaa
open Go.RowKit Go.Lib

/-- Bytes as a text. -/
def strB (l : List UInt8) : ByteArray := ⟨l.toArray⟩
theorem strB_list (l : List UInt8) : (strB l).data.toList = l := by simp [strB]
theorem strB_size (l : List UInt8) : (strB l).size = l.length := by simp [strB, ByteArray.size]

def byteN (l : List UInt8) (i : Nat) : Nat := (l.getD i 0).toNat
/-- How long the record is that a frame says. -/
def saysN (l : List UInt8) : Nat := 256 * byteN l 1 + byteN l 2

/-- The record of the frame that bytes begin with. -/
def firstB (l : List UInt8) : Option (List UInt8) :=
  if l.length < 5 then none
  else if byteN l 0 ≠ 82 then none
  else if 4096 < saysN l then none
  else if l.length - 5 < saysN l then none
  else if sumN ((l.drop 5).take (saysN l)) ≠ 256 * byteN l 3 + byteN l 4 then none
  else some ((l.drop 5).take (saysN l))

theorem byteN_lt (l : List UInt8) (i : Nat) : byteN l i < 256 := (l.getD i 0).toNat_lt

/-- A text of bytes that can be read. -/
theorem conv_brow {w : World} {v : Value} {bs : List UInt8} (h : BRow w v bs) : (convert 40 9 v).run Try.prog w = .ok (.string (strB bs)) w := by
  obtain ⟨a, c, rfl, _, _, _, hx⟩ := h
  cases a with
  | none =>
    cases bs with
    | nil => exact run_convert_bytes_nil w 40 5 Try.underlying40 Try.underlying5 0 c 9 Try.underlying9
    | cons x l =>
      obtain ⟨A, h1, _⟩ := hx 0 x rfl
      cases h1
  | some A =>
    have hl : (loadCells A bs.length).run Try.prog w = .ok ((bs.map fun b => (b.toNat : Int)).map (Value.int .u8)).toArray w := by
      have h := run_loadCells_list (P := Try.prog) w A ((bs.map fun b => (b.toNat : Int)).map (Value.int .u8)) (fun j v hj => by
        rw [List.map_map, List.getElem?_map, Option.map_eq_some_iff] at hj
        obtain ⟨x, hx1, rfl⟩ := hj
        obtain ⟨A', h1, h2⟩ := hx j x hx1
        injection h1 with h1
        rw [h1]
        exact h2)
      simpa using h
    rw [run_convert_bytes_string w 40 9 5 (some A) bs.length c Try.underlying40 Try.underlying5 Try.underlying9, run_bytesToString w A bs.length c (bs.map fun b => (b.toNat : Int)) hl, foldl_push_bytes]
    congr 2
    apply ByteArray.ext
    simp [strB, ByteArray.empty, ByteArray.emptyWithCapacity]
    rw [List.map_congr_left (g := id) (fun b _ => by simp)]
    simp
    rfl

/-- Bytes from a place on. -/
theorem BRow.drop {w : World} {v : Value} {bs : List UInt8} (h : BRow w v bs) {k : Nat} (hk : k ≤ bs.length) :
    ∃ v', (∀ W : World, (Instr.slice 40 v (some (.int .i64 k)) none none).run Try.prog W = .ok v' W) ∧ BRow w v' (bs.drop k) := by
  obtain ⟨a, c, rfl, h1, h2, h3, hx⟩ := h
  refine ⟨.slice (if c = k then a else a.map (·.add k)) (bs.length - k) (c - k), fun W => ?_, ?_⟩
  · have hz : (sizeOf 5).run Try.prog W = .ok 1 W := by kernel_rfl
    rw [run_slice_l (P := Try.prog) W 40 a bs.length c (by kernel_rfl) .i64 (k : Int) (by omega) (by omega)]
    have he : Try.prog.elem 40 = 5 := by kernel_rfl
    rw [he, hz]
    simp [Result.andThen, sliced]
  · refine ⟨_, c - k, by rw [List.length_drop], by rw [List.length_drop]; omega, by omega, fun hn => ?_, fun j x hj => ?_⟩
    · split at hn
      · omega
      · cases a with
        | none => have := h3 rfl; omega
        | some A => cases hn
    · rw [List.getElem?_drop] at hj
      obtain ⟨A, rfl, h5⟩ := hx (k + j) x hj
      have hlt : k + j < bs.length := (List.getElem?_eq_some_iff.1 hj).1
      have hck : c ≠ k := by omega
      refine ⟨A.add k, by simp [hck], ?_⟩
      rw [Addr.add_add]
      exact h5

/-- Bytes from a place on, up to another one. -/
theorem BRow.cut {w : World} {v : Value} {bs : List UInt8} (h : BRow w v bs) {k m : Nat} (hk : k ≤ m) (hm : m ≤ bs.length) :
    ∃ v', (∀ W : World, (Instr.slice 40 v (some (.int .i64 k)) (some (.int .i64 m)) none).run Try.prog W = .ok v' W) ∧ BRow w v' ((bs.drop k).take (m - k)) := by
  obtain ⟨a, c, rfl, h1, h2, h3, hx⟩ := h
  have hlen : ((bs.drop k).take (m - k)).length = m - k := by rw [List.length_take, List.length_drop]; omega
  refine ⟨.slice (if c = k then a else a.map (·.add k)) (m - k) (c - k), fun W => ?_, ?_⟩
  · have hz : (sizeOf 5).run Try.prog W = .ok 1 W := by kernel_rfl
    rw [run_slice_lh (P := Try.prog) W 40 a bs.length c (by kernel_rfl) .i64 .i64 (k : Int) (m : Int) (by omega) (by omega) (by omega)]
    have he : Try.prog.elem 40 = 5 := by kernel_rfl
    rw [he, hz]
    simp [Result.andThen, sliced]
  · refine ⟨_, c - k, by rw [hlen], by rw [hlen]; omega, by omega, fun hn => ?_, fun j x hj => ?_⟩
    · split at hn
      · omega
      · cases a with
        | none => have := h3 rfl; omega
        | some A => cases hn
    · have hjm : j < m - k := by
        have := (List.getElem?_eq_some_iff.1 hj).1
        omega
      rw [List.getElem?_take_of_lt hjm, List.getElem?_drop] at hj
      obtain ⟨A, rfl, h5⟩ := hx (k + j) x hj
      have hck : c ≠ k := by omega
      refine ⟨A.add k, by simp [hck], ?_⟩
      rw [Addr.add_add]
      exact h5

/-- Bytes up to a place. -/
theorem BRow.upto {w : World} {v : Value} {bs : List UInt8} (h : BRow w v bs) {m : Nat} (hm : m ≤ bs.length) :
    ∃ v', (∀ W : World, (Instr.slice 40 v none (some (.int .i64 m)) none).run Try.prog W = .ok v' W) ∧ BRow w v' (bs.take m) := by
  obtain ⟨a, c, rfl, h1, h2, h3, hx⟩ := h
  have hlen : (bs.take m).length = m := by rw [List.length_take]; omega
  refine ⟨.slice a m c, fun W => ?_, ?_⟩
  · have hz : (sizeOf 5).run Try.prog W = .ok 1 W := by kernel_rfl
    rw [run_slice_h (P := Try.prog) W 40 a bs.length c (by kernel_rfl) .i64 (m : Int) (by omega) (by omega)]
    have he : Try.prog.elem 40 = 5 := by kernel_rfl
    rw [he, hz]
    cases a <;> simp [Result.andThen, sliced, Addr.add]
  · refine ⟨_, c, by rw [hlen], by rw [hlen]; omega, h2, h3, fun j x hj => ?_⟩
    have hjm : j < m := by
      have := (List.getElem?_eq_some_iff.1 hj).1
      omega
    rw [List.getElem?_take_of_lt hjm] at hj
    exact hx j x hj

/-- Of a row that is owned. -/
theorem BRow.of_owns {w : World} {base l : Nat} {v : Value} {bs : List UInt8} (h : w.ownsRow base 5 1 v l (byteCells bs)) : BRow w v bs := by
  have hl : l = bs.length := by have := h.1; simp [byteCells] at this; omega
  subst hl
  have hc := fun g hg => h.cells (g := g) hg
  rcases h.2 with ⟨rfl, h0⟩ | ⟨g, cap, cur, rfl, _, _, h1, h2, _⟩
  · obtain rfl : bs = [] := List.eq_nil_of_length_eq_zero h0
    exact ⟨none, 0, rfl, Nat.le_refl _, by unfold maxLen; omega, fun _ => rfl, fun j x hj => by simp at hj⟩
  · refine ⟨_, cap, rfl, h1, h2, (fun e => by cases e), fun j x hj => ⟨_, rfl, hc g rfl j _ (by simp [byteCells, hj])⟩⟩

theorem BRow.len {w : World} {v : Value} {bs : List UInt8} (h : BRow w v bs) : ∃ a c, v = .slice a bs.length c ∧ bs.length ≤ c ∧ c ≤ maxLen := by
  obtain ⟨a, c, h1, h2, h3, _⟩ := h
  exact ⟨a, c, h1, h2, h3⟩

theorem firstB_short {l : List UInt8} (h : l.length < 5) : firstB l = none := if_pos h
theorem firstB_mark {l : List UInt8} (h : ¬ l.length < 5) (h0 : byteN l 0 ≠ 82) : firstB l = none := by unfold firstB; rw [if_neg h, if_pos h0]
theorem firstB_big {l : List UInt8} (h : ¬ l.length < 5) (h0 : byteN l 0 = 82) (h1 : 4096 < saysN l) : firstB l = none := by
  unfold firstB; rw [if_neg h, if_neg (by omega), if_pos h1]
theorem firstB_more {l : List UInt8} (h : ¬ l.length < 5) (h0 : byteN l 0 = 82) (h1 : ¬ 4096 < saysN l) (h2 : l.length - 5 < saysN l) : firstB l = none := by
  unfold firstB; rw [if_neg h, if_neg (by omega), if_neg h1, if_pos h2]
theorem firstB_sum {l : List UInt8} (h : ¬ l.length < 5) (h0 : byteN l 0 = 82) (h1 : ¬ 4096 < saysN l) (h2 : ¬ l.length - 5 < saysN l) (h3 : sumN ((l.drop 5).take (saysN l)) ≠ 256 * byteN l 3 + byteN l 4) : firstB l = none := by
  unfold firstB; rw [if_neg h, if_neg (by omega), if_neg h1, if_neg h2, if_pos h3]
theorem firstB_some {l : List UInt8} (h : ¬ l.length < 5) (h0 : byteN l 0 = 82) (h1 : ¬ 4096 < saysN l) (h2 : ¬ l.length - 5 < saysN l) (h3 : sumN ((l.drop 5).take (saysN l)) = 256 * byteN l 3 + byteN l 4) : firstB l = some ((l.drop 5).take (saysN l)) := by
  unfold firstB; rw [if_neg h, if_neg (by omega), if_neg h1, if_neg h2, if_neg (by omega)]

theorem BRow.at {w : World} {A : Addr} {l c : Nat} {bs : List UInt8} (h : BRow w (.slice (some A) l c) bs) {i : Nat} (hi : i < bs.length) : w.cell? (A.add i) = some (.int .u8 (byteN bs i : Nat)) := by
  obtain ⟨a, c', h1, _, _, _, hx⟩ := h
  injection h1 with h1
  subst h1
  obtain ⟨A', e1, e2⟩ := hx i bs[i] (List.getElem?_eq_getElem hi)
  injection e1 with e1
  rw [e1, e2]
  simp [byteN, List.getD, List.getElem?_eq_getElem hi]

theorem BRow.drewN {w : World} {v : Value} {bs : List UInt8} (h : BRow w v bs) (n : Nat) : BRow (w.drewN n) v bs := h

/-- What 'first' answers. -/
def FirstPost (w : World) (bs : List UInt8) (e : Ending) (w' : World) : Prop :=
  e = .returned (.tuple #[.string (strB ((firstB bs).getD [])), .bool (firstB bs).isSome]) ∧ ∃ n, w' = w.drewN n

theorem FirstPost.none {w w' : World} {bs : List UInt8} (h : firstB bs = none) (hw : ∃ n, w' = w.drewN n) : FirstPost w bs (.returned (.tuple #[.string ⟨#[]⟩, .bool false])) w' := ⟨by rw [h]; rfl, hw⟩

end Go.Proofs.Ytfmlgckfcclojaa
namespace Go.Proofs.Ytfmlgckfcclojaa
open Go.RowKit Go.Lib Go.Op

theorem byteCells_append (a b : List UInt8) : byteCells (a ++ b) = byteCells a ++ byteCells b := by simp [byteCells]

theorem owns_len {w : World} {B l : Nat} {v : Value} {xs : List UInt8} (h : w.ownsRow B 5 1 v l (byteCells xs)) : l = xs.length := by
  have := h.1
  simp [byteCells] at this
  omega

theorem digsN_size (n : Nat) (h : n ≤ 9223372036854775807) : (digsN n).length ≤ 9 := digsN_len 9 n (by omega) (by omega)

/-- What is left to write, and what is written. -/
def DigsDone (n m : Nat) (ys : List UInt8) : Prop := digsN n = ys ++ digsN m ∧ m ≤ n

theorem DigsDone.step {n m : Nat} {ys : List UInt8} (h : DigsDone n m ys) (hm : 128 ≤ m) : DigsDone n (m / 128) (ys ++ [UInt8.ofNat (128 + m % 128)]) := by
  obtain ⟨h1, h2⟩ := h
  refine ⟨?_, by omega⟩
  rw [h1, digsN_ge hm]
  simp

set_option maxHeartbeats 1000000 in
set_option maxRecDepth 100000 in
theorem appendDigits_calls (w : World) (B l : Nat) (v : Value) (xs : List UInt8) (n : Nat) (hn : n ≤ 9223372036854775807) (hown : w.ownsRow B 5 1 v l (byteCells xs)) (hl : l ≤ 10000) (hB : B ≤ w.heap.size) :
    Calls Try.prog 83 #[v, .int .i64 n] w fun e w' => ∃ v', e = .returned v' ∧ w'.ownsRow B 5 1 v' (l + (digsN n).length) (byteCells (xs ++ digsN n)) ∧ Below B w w' := by
  obtain ⟨i0, hi, hz0, hz1, hz2⟩ := info_parts infoB8
  have hdl := digsN_size n hn
  have Hown := Lib.hid hown
  obtain rfl := owns_len hown
  clear hown
  go_enter Try.func83, Try.ntmps83
  go_wp2
  go_loopw [0, 1] (fun v i wr => ∃ (m : Nat) (ys : List UInt8), i = .int .i64 m ∧ m ≤ 9223372036854775807 ∧ Hid (DigsDone n m ys) ∧ Hid (wr.ownsRow B 5 1 v (xs ++ ys).length (byteCells (xs ++ ys))) ∧ Hid (Below B w wr)) (fun _ i _ => (intOf i).toNat)
  case atStart => exact ⟨n, [], rfl, hn, ⟨rfl, Nat.le_refl _⟩, by show w.ownsRow _ _ _ _ _ _; rw [List.append_nil]; exact Hown.out, Below.refl _ _⟩
  case round =>
    obtain ⟨m, ys, rfl, hm, HD, HO, HB⟩ := hrel
    have hlt := Lib.hid HO.out.lt
    have hys : ys.length ≤ 9 := by
      have h1 := congrArg List.length HD.out.1
      rw [List.length_append] at h1
      omega
    have hxy : (xs ++ ys).length ≤ 10009 := by rw [List.length_append]; omega
    generalize hq : (xs ++ ys).length = q at *
    have hB2 : B ≤ wr.heap.size := Nat.le_trans hB HB.out.size
    by_cases hge : 128 ≤ m
    · have hcs : (#[Value.int .u8 (128 + (m : Int) % 128)] : Array Value).toList = byteCells [UInt8.ofNat (128 + m % 128)] := by
        simp [byteCells]
        omega
      have Hcs := Lib.hid hcs
      have HD2 := Lib.hid (HD.out.step hge)
      clear hdl hcs
      go_wp2_with (at_builtin; refine wpList_append_own _ rfl (.tmp 7) (.tmp 12) 40 rfl B 5 i0 (.int .u8 0) 1 1 Try.underlying40 hi hz0 hz1 hz2 rfl (by decide) _ _ _ rfl (HO.out.alloc _) ⟨wr.heap.size, 0, none⟩ 1 1 (byteCells [UInt8.ofNat (128 + m % 128)]) rfl rfl (cells_new wr [UInt8.ofNat (128 + m % 128)] _ _ _ Hcs.out) (byteCells_one _) (by unfold maxLen; omega) (by omega) (by simp; omega) ?_; intro v2 w2 hown2 hgrow2 hnil2)
      have HB2 := Lib.hid ((HB.out.alloc hB2 _).grown hgrow2 (by simp; omega) (fun k hk => (hlt.out k hk).1))
      have HO2 : Hid (w2.ownsRow B 5 1 v2 (xs ++ (ys ++ [UInt8.ofNat (128 + m % 128)])).length (byteCells (xs ++ (ys ++ [UInt8.ofNat (128 + m % 128)])))) := by
        show w2.ownsRow _ _ _ _ _ _
        have h9 := hown2
        rw [← byteCells_append, List.append_assoc] at h9
        have e9 : (xs ++ (ys ++ [UInt8.ofNat (128 + m % 128)])).length = q + 1 := by rw [← hq]; simp; omega
        rw [e9]
        exact h9
      clear hown2 hgrow2 hnil2
      go_wp2
      go_roundw
      case rel => exact ⟨m / 128, _, by go_num, by omega, HD2, HO2, HB2⟩
      case measure => simp [intOf]; omega
    · have hcs : (#[Value.int .u8 (m : Int)] : Array Value).toList = byteCells [UInt8.ofNat m] := by
        simp [byteCells]
        omega
      have Hcs := Lib.hid hcs
      have hfin : digsN n = ys ++ [UInt8.ofNat m] := by rw [HD.out.1, digsN_lt (by omega)]
      have Hfin := Lib.hid hfin
      clear hdl hcs hfin
      go_wp2_with (at_builtin; refine wpList_append_own _ rfl (.tmp 16) (.tmp 19) 40 rfl B 5 i0 (.int .u8 0) 1 1 Try.underlying40 hi hz0 hz1 hz2 rfl (by decide) _ _ _ rfl (HO.out.alloc _) ⟨wr.heap.size, 0, none⟩ 1 1 (byteCells [UInt8.ofNat m]) rfl rfl (cells_new wr [UInt8.ofNat m] _ _ _ Hcs.out) (byteCells_one _) (by unfold maxLen; omega) (by omega) (by simp; omega) ?_; intro v2 w2 hown2 hgrow2 hnil2)
      go_wp2
      go_ret
      refine ⟨_, rfl, ?_, (HB.out.alloc hB2 _).grown hgrow2 (by simp; omega) (fun k hk => (hlt.out k hk).1)⟩
      have h9 := hown2
      rw [← byteCells_append, List.append_assoc, ← Hfin.out] at h9
      have e9 : xs.length + (digsN n).length = q + 1 := by rw [Hfin.out, ← hq]; simp; omega
      rw [e9]
      exact h9

/-- What Put leaves. -/
def PutPost (w : World) (bs : List UInt8) (e : Ending) (w' : World) : Prop := ∃ v, e = .returned v ∧ w'.ownsRow w.heap.size 5 1 v bs.length (byteCells bs) ∧ Below w.heap.size w w'

theorem putV_written {k n : Int} {s : ByteArray} (h : rightV k n s = true) : putV ⟨k, n, s.data.toList⟩ = UInt8.ofNat k.toNat :: (digsN (writtenV k n s) ++ s.data.toList) := by
  rcases rightB_kind h with h1 | h1 | h1
  · obtain rfl : k = 1 := h1
    obtain ⟨h2, h3, h4⟩ := rightB_1.1 h
    rw [h4, putV_1 h2 h3, List.append_nil]
    rfl
  · obtain rfl : k = 2 := h1
    obtain ⟨rfl, h3⟩ := rightB_2.1 h
    rw [putV_2 h3]
    have e : writtenV 2 0 s = s.data.toList.length := by show s.size = _; simp
    rw [e, digsN_lt (by omega)]
    rfl
  · obtain rfl : k = 3 := h1
    obtain ⟨h2, h3, h4⟩ := rightB_3.1 h
    rw [h4, putV_3 h2 h3, List.append_nil]
    have e : writtenV 3 n s = n.toNat := rfl
    rw [e, digsN_lt (by omega)]
    rfl

theorem writtenV_le {k n : Int} {s : ByteArray} (h : rightV k n s = true) : writtenV k n s ≤ 2199023255552 ∧ s.size ≤ 64 ∧ 1 ≤ k ∧ k ≤ 3 := by
  have hsl : s.data.toList.length = s.size := by simp
  rcases rightB_kind h with h1 | h1 | h1
  · obtain rfl : k = 1 := h1
    obtain ⟨h2, h3, h4⟩ := rightB_1.1 h
    rw [h4] at hsl
    simp at hsl
    exact ⟨zig_lt h2 h3, by omega, by omega, by omega⟩
  · obtain rfl : k = 2 := h1
    obtain ⟨_, h3⟩ := rightB_2.1 h
    refine ⟨?_, by omega, by omega, by omega⟩
    show s.size ≤ _
    omega
  · obtain rfl : k = 3 := h1
    obtain ⟨h2, h3, h4⟩ := rightB_3.1 h
    rw [h4] at hsl
    simp at hsl
    refine ⟨?_, by omega, by omega, by omega⟩
    show n.toNat ≤ _
    omega

theorem ownsRow_new (w : World) (bs : List UInt8) (cs : Array Value) {B : Nat} (hB : B ≤ w.heap.size) (hm : bs.length ≤ maxLen) (h : cs.toList = byteCells bs) : (w.alloc (.cells cs 5)).ownsRow B 5 1 (.slice (some ⟨w.heap.size, 0, none⟩) bs.length bs.length) bs.length (byteCells bs) := by
  have hsz : cs.size = bs.length := by
    have := congrArg List.length h
    simpa [byteCells] using this
  exact ⟨by simp [byteCells], .inr ⟨w.heap.size, bs.length, cs, rfl, hB, heap_alloc_new w _, Nat.le_refl _, hm, by omega, by rw [← hsz, Nat.mul_one, ← h]; exact List.take_length⟩⟩

theorem ownsRow_base {w : World} {B B' : Nat} {t : TypeId} {s n : Nat} {v : Value} {xs : List Value} (h : w.ownsRow B t s v n xs) (hb : B' ≤ B) : w.ownsRow B' t s v n xs :=
  ⟨h.1, h.2.imp id fun ⟨g, cap, cur, h1, h2, h3⟩ => ⟨g, cap, cur, h1, Nat.le_trans hb h2, h3⟩⟩

set_option maxHeartbeats 4000000 in
set_option maxRecDepth 100000 in
theorem vput_calls (k n : Int) (s : ByteArray) (w : World) (hs : s.size ≤ maxLen) :
    Calls Try.prog 57 #[.agg #[.int .i64 k, .int .i64 n, .string s]] w (PutPost w (putV ⟨k, n, s.data.toList⟩)) := by
  cases h1 : rightV k n s with
  | false =>
    rw [putV_not h1]
    go_enter Try.func57, Try.ntmps57
    go_wp2_with (go_at_call 81; refine (vright_calls _ _ _ _ (by assumption)).mono ?_; rintro e w1 ⟨rfl, rfl⟩)
    go_ret
    exact ⟨_, rfl, World.ownsRow_nil _ _ _ _, by repeat' (first | exact Below.refl _ _ | refine Below.alloc ?_ (by simp <;> omega) _)⟩
  | true =>
    rw [putV_written h1]
    obtain ⟨hw1, hw2, hw3, hw4⟩ := writtenV_le h1
    have hdl := digsN_six (n := writtenV k n s) (by omega)
    have HW := Lib.hid (fun W => written_calls k n s W hs h1)
    obtain ⟨q, hq⟩ : ∃ q, writtenV k n s = q := ⟨_, rfl⟩
    rw [hq] at HW hdl hw1 ⊢
    have hsc : strCells s = byteCells s.data.toList := rfl
    have Hsc := Lib.hid hsc
    have hcs : (#[Value.int .u8 k] : Array Value).toList = byteCells [UInt8.ofNat k.toNat] := by
      simp [byteCells]
      omega
    have hsl : s.data.toList.length = s.size := by simp
    have Hsl := Lib.hid hsl
    obtain ⟨i0, hi, hz0, hz1, hz2⟩ := info_parts infoB8
    have HA : Hid (∀ W, W.cell? ⟨w.heap.size, 0, none⟩ = some (.int .i64 k) → W.cell? ⟨w.heap.size, 1, none⟩ = some (.int .i64 n) → W.cell? ⟨w.heap.size, 2, none⟩ = some (.string s) → Below w.heap.size w W → w.heap.size + 1 ≤ W.heap.size → ∀ v, W.ownsRow (w.heap.size + 1) 5 1 v 1 (byteCells [UInt8.ofNat k.toNat]) →
        Calls Try.prog 83 #[v, .int .i64 q] W fun e w' => ∃ v', e = .returned v' ∧ w'.cell? ⟨w.heap.size, 0, none⟩ = some (.int .i64 k) ∧ w'.cell? ⟨w.heap.size, 1, none⟩ = some (.int .i64 n) ∧ w'.cell? ⟨w.heap.size, 2, none⟩ = some (.string s) ∧ Hid (w'.ownsRow (w.heap.size + 1) 5 1 v' (1 + (digsN q).length) (byteCells ([UInt8.ofNat k.toNat] ++ digsN q))) ∧ Hid (Below w.heap.size w w') ∧ Hid (w.heap.size + 1 ≤ w'.heap.size)) :=
      fun W c0 c1 c2 hb hz v hv => (appendDigits_calls W (w.heap.size + 1) 1 v [UInt8.ofNat k.toNat] q (by omega) hv (by omega) hz).mono fun e w' ⟨v', e1, e2, e3⟩ => by
        have kk : ∀ {o : Nat} {x : Value}, W.cell? ⟨w.heap.size, o, none⟩ = some x → w'.cell? ⟨w.heap.size, o, none⟩ = some x := fun hx => (e3.cell (by simp)).trans hx
        exact ⟨v', e1, kk c0, kk c1, kk c2, e2, hb.trans (e3.mono (by omega)), Nat.le_trans hz e3.size⟩
    go_enter Try.func57, Try.ntmps57
    go_wp2_with (go_at_call 81; refine (vright_calls _ _ _ _ (by assumption)).mono ?_; rintro e w1 ⟨rfl, rfl⟩)
    obtain ⟨W0, hW0⟩ : ∃ W0, W0 = (w.alloc (.cells #[.int .i64 k, .int .i64 n, .string s] 52)).alloc (.cells #[.int .i64 k, .int .i64 n, .string s] 52) := ⟨_, rfl⟩
    have c0 : W0.cell? ⟨w.heap.size, 0, none⟩ = some (.int .i64 k) := by rw [hW0]; simp
    have c1 : W0.cell? ⟨w.heap.size, 1, none⟩ = some (.int .i64 n) := by rw [hW0]; simp
    have c2 : W0.cell? ⟨w.heap.size, 2, none⟩ = some (.string s) := by rw [hW0]; simp
    have hb : Below w.heap.size w W0 := by rw [hW0]; repeat' (first | exact Below.refl _ _ | refine Below.alloc ?_ (by simp <;> omega) _)
    have hz : w.heap.size + 1 < W0.heap.size := by rw [hW0]; simp
    have m0 := World.new_ne W0 _ c0
    have m1 := World.new_ne W0 _ c1
    have m2 := World.new_ne W0 _ c2
    have hbW : Below W0.heap.size W0 (((W0.alloc (.cells #[.int .u8 k] 5)).alloc (.cells #[.int .i64 k, .int .i64 n, .string s] 52)).drew) := vbelow_drew (((Below.refl _ _).alloc (Nat.le_refl _) _).alloc (by simp) _)
    have HAA := Lib.hid (HA.out _ ((hbW.cell (World.block_lt_of_cell? _ _ c0)).trans c0) ((hbW.cell (World.block_lt_of_cell? _ _ c1)).trans c1) ((hbW.cell (World.block_lt_of_cell? _ _ c2)).trans c2) (hb.trans (hbW.mono hb.size)) (Nat.le_trans (Nat.le_of_lt hz) hbW.size) _
      (show (((W0.alloc (.cells #[.int .u8 k] 5)).alloc (.cells #[.int .i64 k, .int .i64 n, .string s] 52)).drew).ownsRow (w.heap.size + 1) 5 1 (.slice (some ⟨W0.heap.size, 0, none⟩) 1 1) 1 (byteCells [UInt8.ofNat k.toNat]) from
        (ownsRow_new W0 [UInt8.ofNat k.toNat] #[.int .u8 k] (Nat.le_of_lt hz) (by unfold maxLen; simp) hcs).alloc _))
    have hbW2 : Below W0.heap.size W0 (((W0.alloc (.cells #[.int .i64 k, .int .i64 n, .string s] 52)).alloc (.cells #[.int .u8 k] 5)).drew) := vbelow_drew (((Below.refl _ _).alloc (Nat.le_refl _) _).alloc (by simp) _)
    have HAB := Lib.hid (HA.out _ ((hbW2.cell (World.block_lt_of_cell? _ _ c0)).trans c0) ((hbW2.cell (World.block_lt_of_cell? _ _ c1)).trans c1) ((hbW2.cell (World.block_lt_of_cell? _ _ c2)).trans c2) (hb.trans (hbW2.mono hb.size)) (Nat.le_trans (Nat.le_of_lt hz) hbW2.size) (.slice (some ⟨W0.heap.size + 1, 0, none⟩) 1 1)
      (show (((W0.alloc (.cells #[.int .i64 k, .int .i64 n, .string s] 52)).alloc (.cells #[.int .u8 k] 5)).drew).ownsRow (w.heap.size + 1) 5 1 (.slice (some ⟨W0.heap.size + 1, 0, none⟩) 1 1) 1 (byteCells [UInt8.ofNat k.toNat]) by
        have h9 := ownsRow_new (W0.alloc (.cells #[.int .i64 k, .int .i64 n, .string s] 52)) [UInt8.ofNat k.toNat] #[.int .u8 k] (B := w.heap.size + 1) (by simp; omega) (by unfold maxLen; simp) hcs
        rw [show (W0.alloc (.cells #[.int .i64 k, .int .i64 n, .string s] 52)).heap.size = W0.heap.size + 1 by simp] at h9
        exact h9))
    rw [← hW0]
    clear hW0 hb hz hcs hsc hsl h1 hq hbW HA hbW2
    have hwr : IntKind.u8.wrap k = k := IntWalk.u8_in _ (by omega)
    go_region_held3 (fun W => W.cell? ⟨w.heap.size, 0, none⟩ = some (.int .i64 k) ∧ W.cell? ⟨w.heap.size, 1, none⟩ = some (.int .i64 n) ∧ W.cell? ⟨w.heap.size, 2, none⟩ = some (.string s))
      (first | (refine ⟨?_, ?_, ?_⟩ <;> assumption) | go_keep)
      (first
        | (go_at_call 84; refine (HW.out _).mono ?_; rintro e w3 ⟨rfl, rfl⟩)
        | (go_at_call 83; (with_reducible refine HAA.out.mono ?_); rintro e w3 ⟨v3, rfl, x0, x1, x2, x3, x4, x5⟩)
        | (go_at_call 83; (with_reducible refine HAB.out.mono ?_); rintro e w3 ⟨v3, rfl, x0, x1, x2, x3, x4, x5⟩))
    all_goals
      clear hwr HAA HAB m0 m1 m2
      go_wp2_with (at_builtin; refine wpList_append_own_string _ rfl (.tmp 14) (.tmp 16) 40 9 rfl (w.heap.size + 1) 5 i0 Try.underlying40 Try.underlying9 hi hz0 hz1 hz2 _ _ _ rfl x3.out s rfl (by unfold maxLen; omega) (by omega) x5.out ?_; intro v6 w6 hown6 hgrow6 hnil6)
      go_wp2
      go_ret
      refine ⟨_, rfl, ?_, x4.out.grown hgrow6 x4.out.size (fun g hg => Nat.le_trans (Nat.le_succ _) (x3.out.lt g hg).1)⟩
      have h9 := ownsRow_base hown6 (Nat.le_succ w.heap.size)
      rw [Hsc.out, ← byteCells_append] at h9
      have e9 : (UInt8.ofNat k.toNat :: (digsN q ++ s.data.toList)).length = 1 + (digsN q).length + s.size := by
        rw [List.length_cons, List.length_append, Hsl.out]; omega
      rw [e9]
      exact h9

end Go.Proofs.Ytfmlgckfcclojaa
namespace Go.Proofs.Ytfmlgckfcclojaa
open Go.RowKit Go.Lib Go.Op

theorem eowns_of_block {w w' : World} {base : Nat} {e : TypeId} {size : Nat} {v : Value} {n : Nat} {xs : List Value} (h : w.ownsRow base e size v n xs) (hb : ∀ g, v.ownBlock = some g → w'.heap[g]? = w.heap[g]?) : w'.ownsRow base e size v n xs := by
  refine ⟨h.1, ?_⟩
  rcases h.2 with h2 | ⟨g, cap, cur, rfl, hg, hh, r⟩
  · exact Or.inl h2
  · exact Or.inr ⟨g, cap, cur, rfl, hg, (hb g rfl).trans hh, r⟩

theorem owns_slice {w : World} {base l : Nat} {v : Value} {bs : List UInt8} (h : w.ownsRow base 5 1 v l (byteCells bs)) : ∃ a q c, v = .slice a q c := by
  obtain ⟨a, c, e, _, _⟩ := (BRow.of_owns h).len
  exact ⟨a, _, c, e⟩

/-- Bytes that a variable holds, in a row of their own. -/
structure PB (w : World) (B bb : Nat) (v : Value) (xs : List UInt8) (W : World) : Prop where
  c : W.cell? ⟨bb, 0, none⟩ = some v
  f : W.frozen? ⟨bb, 0, none⟩ = false
  own : W.ownsRow B 5 1 v xs.length (byteCells xs)
  hb : Below bb w W
  lt : bb < B
  le : B ≤ W.heap.size

theorem PB.alloc {w : World} {B bb : Nat} {v : Value} {xs : List UInt8} {W : World} (h : PB w B bb v xs W) (o : Obj) : PB w B bb v xs (W.alloc o) where
  c := ekeepAl o h.c
  f := (((Below.refl W.heap.size W).alloc (Nat.le_refl _) o).frozen (p := ⟨bb, 0, none⟩) (Nat.lt_of_lt_of_le h.lt h.le)).trans h.f
  own := h.own.alloc o
  hb := h.hb.alloc (Nat.le_trans (Nat.le_of_lt h.lt) h.le) o
  lt := h.lt
  le := Nat.le_trans h.le (by simp)

theorem PB.cellB {w : World} {B bb : Nat} {v : Value} {xs : List UInt8} {W w2 : World} (h : PB w B bb v xs W) (hB2 : Below B W w2) : w2.cell? ⟨bb, 0, none⟩ = some v ∧ w2.frozen? ⟨bb, 0, none⟩ = false :=
  ⟨(hB2.cell (p := ⟨bb, 0, none⟩) h.lt).trans h.c, (hB2.frozen (p := ⟨bb, 0, none⟩) h.lt).trans h.f⟩

theorem PB.fin {w : World} {B bb : Nat} {v v2 : Value} {xs zs : List UInt8} {W w2 : World} {q : Nat} (h : PB w B bb v xs W) (hB2 : Below B W w2) (hown2 : w2.ownsRow B 5 1 v2 q (byteCells zs)) : PB w B bb v2 zs (w2.setCell ⟨bb, 0, none⟩ v2) where
  c := World.cell?_setCell_same _ _ _ (h.cellB hB2).1
  f := by simp [(h.cellB hB2).2]
  own := by
    obtain rfl := owns_len hown2
    exact eowns_of_block hown2 (fun g hg => Below.heap_setCell _ _ _ _ (fun e => by have h8 := (hown2.lt g hg).1; have h9 := h.lt; dsimp only at e; omega))
  hb := (h.hb.trans (hB2.mono (Nat.le_of_lt h.lt))).setCell (Nat.le_refl _) _
  lt := h.lt
  le := Nat.le_trans h.le (by simp; exact hB2.size)

/-- The digits of all, one behind the other. -/
def digsAll : List Nat → List UInt8
  | [] => []
  | n :: l => digsN n ++ digsAll l
theorem digsAll_append : ∀ (l m : List Nat), digsAll (l ++ m) = digsAll l ++ digsAll m
  | [], m => rfl
  | n :: l, m => by simp [digsAll, digsAll_append l m]
theorem digsAll_take {l : List Nat} {k n : Nat} (h : l[k]? = some n) : digsAll (l.take (k + 1)) = digsAll (l.take k) ++ digsN n := by
  rw [List.take_add_one, h, digsAll_append]
  simp [digsAll]
theorem digsAll_len : ∀ (l : List Nat), (∀ n ∈ l, n ≤ 9223372036854775807) → (digsAll l).length ≤ 9 * l.length
  | [], _ => by simp [digsAll]
  | n :: l, h => by
    have h1 := digsN_size n (h n (by simp))
    have h2 := digsAll_len l (fun m hm => h m (by simp [hm]))
    simp only [digsAll, List.length_append, List.length_cons]
    omega

/-- Numbers that are handed in, from a place on. -/
def ARow (W : World) (ab : Nat) (ns : List Nat) (k : Nat) : Prop := ∀ j n, k ≤ j → ns[j]? = some n → W.cell? ⟨ab, j, none⟩ = some (.int .i64 n)

theorem ARow.step {W w2 : World} {ab B bb : Nat} {v2 : Value} {ns : List Nat} {k : Nat} (h : ARow W ab ns k) (hor : ab < B ∨ ns.length ≤ 1) (hne : ab ≠ bb) (hB2 : Below B W w2) : (ab < B → ARow (w2.setCell ⟨bb, 0, none⟩ v2) ab ns k) ∧ ARow (w2.setCell ⟨bb, 0, none⟩ v2) ab ns (k + 1) := by
  have key : ab < B → ARow (w2.setCell ⟨bb, 0, none⟩ v2) ab ns k := fun hlt j n hj hn => by
    rw [World.cell?_setCell_other _ _ _ _ (by intro e; injection e with e1; exact hne e1.symm)]
    exact (hB2.cell (p := ⟨ab, j, none⟩) hlt).trans (h j n hj hn)
  refine ⟨key, fun j n hj hn => ?_⟩
  rcases hor with h1 | h1
  · exact key h1 j n (by omega) hn
  · exfalso
    have := (List.getElem?_eq_some_iff.1 hn).1
    omega

/-- What the closure leaves. -/
def PutsPost (w : World) (B bb : Nat) (zs : List UInt8) (e : Ending) (w' : World) : Prop := e = .returned (.tuple #[]) ∧ ∃ v', PB w B bb v' zs w'

set_option maxHeartbeats 4000000 in
set_option maxRecDepth 100000 in
theorem put1_calls (w0 w : World) (B bb ab cb : Nat) (v : Value) (xs : List UInt8) (ns : List Nat) (hP : PB w0 B bb v xs w) (hns : ∀ n ∈ ns, n ≤ 9223372036854775807) (hA : ARow w ab ns 0) (hor : ab < B ∨ ns.length ≤ 1) (hne : ab ≠ bb) (hl : ns.length ≤ 1000) (hx : xs.length ≤ 10000) :
    Calls Try.prog 56 #[.slice (some ⟨ab, 0, none⟩) ns.length cb, .pointer (some ⟨bb, 0, none⟩)] w (PutsPost w0 B bb (xs ++ digsAll ns)) := by
  obtain ⟨i0, hi, hz0, hz1, hz2⟩ := info_parts infoB8
  have Hns := Lib.hid hns
  have HP := Lib.hid hP
  have HA := Lib.hid hA
  have Hor := Lib.hid hor
  obtain ⟨l, hll⟩ : ∃ l, ns.length = l := ⟨_, rfl⟩
  have Hl := Lib.hid hll
  rw [hll] at hl ⊢
  have hdl : (digsAll ns).length ≤ 9000 := by have := digsAll_len ns hns; omega
  clear hns hP hA hll hor
  go_enter Try.func56, Try.ntmps56
  go_wp2
  go_loopw [4, 7] (fun x i wr => ∃ (k : Nat) (v : Value), i = .int .i64 k ∧ k ≤ l ∧ Hid (PB w0 B bb v (xs ++ digsAll (ns.take k)) wr) ∧ Hid (ARow wr ab ns k)) (fun _ i _ => l - (intOf i).toNat)
  case atStart => exact ⟨0, v, rfl, Nat.zero_le _, by show PB _ _ _ _ _ _; simpa [digsAll] using HP.out, HA⟩
  case round =>
    obtain ⟨k, v, rfl, hk, HPk, HAk⟩ := hrel
    by_cases hlt : k < l
    · obtain ⟨n, hn⟩ : ∃ n, ns[k]? = some n := ⟨_, List.getElem?_eq_getElem (by rw [Hl.out]; exact hlt)⟩
      have hcell := HAk.out k n (Nat.le_refl _) hn
      have hn63 := Hns.out n (List.mem_of_getElem? hn)
      have Htk := Lib.hid (digsAll_take hn)
      have hD0 : Hid (DigsDone n n []) := ⟨rfl, Nat.le_refl _⟩
      have hxk : (xs ++ digsAll (ns.take k)).length ≤ 19000 := by
        have h1 := digsAll_len (ns.take k) (fun m hm => Hns.out m (List.mem_of_mem_take hm))
        have h2 := List.length_take_le k ns
        rw [List.length_append]
        have h3 := Hl.out
        omega
      generalize hys : xs ++ digsAll (ns.take k) = ys at *
      have Hys := Lib.hid hys
      clear hn hys
      go_wp2
      go_loopw [4] (fun x wr => ∃ (m : Nat) (zs : List UInt8) (v : Value), x = .int .i64 m ∧ m ≤ 9223372036854775807 ∧ Hid (DigsDone n m zs) ∧ Hid (PB w0 B bb v (ys ++ zs) wr) ∧ Hid (ARow wr ab ns (k + 1))) (fun x _ => (intOf x).toNat)
      case atStart => exact ⟨n, [], v, rfl, hn63, hD0, by show PB _ _ _ _ _ _; simpa using HPk.out, fun j m hj hm => HAk.out j m (by omega) hm⟩
      case round =>
        obtain ⟨m, zs, v, rfl, hm, HD, HPz, HAz⟩ := hrel
        have hzs : zs.length ≤ 9 := by
          have h1 := congrArg List.length HD.out.1
          rw [List.length_append] at h1
          have h2 := digsN_size n hn63
          omega
        have hq2 : (ys ++ zs).length ≤ 19009 := by rw [List.length_append]; omega
        by_cases hge : 128 ≤ m
        · have hcs : (#[Value.int .u8 (128 + (m : Int) % 128)] : Array Value).toList = byteCells [UInt8.ofNat (128 + m % 128)] := by
            simp [byteCells]
            omega
          have Hcs := Lib.hid hcs
          have HD2 := Lib.hid (HD.out.step hge)
          have hPa := HPz.out.alloc (.cells #[.int .u8 (128 + (m : Int) % 128)] 5)
          have HPa := Lib.hid hPa
          have hc0 := HPz.out.c
          have hf0 := HPz.out.f
          have HAa : Hid (ARow (wr.alloc (.cells #[.int .u8 (128 + (m : Int) % 128)] 5)) ab ns (k + 1)) := fun j q hj hq => ekeepAl _ (HAz.out j q hj hq)
          have hblt := HPz.out.lt
          have hble := HPz.out.le
          clear hcs hPa
          go_wp2_with (at_builtin; refine wpList_append_own _ rfl (.tmp 15) (.tmp 20) 40 rfl B 5 i0 (.int .u8 0) 1 1 Try.underlying40 hi hz0 hz1 hz2 rfl (by decide) _ _ _ rfl HPa.out.own ⟨wr.heap.size, 0, none⟩ 1 1 (byteCells [UInt8.ofNat (128 + m % 128)]) rfl rfl (cells_new wr [UInt8.ofNat (128 + m % 128)] _ _ _ Hcs.out) (byteCells_one _) (by unfold maxLen; omega) (by omega) (by simp; omega) ?_; intro v2 w2 hown2 hgrow2 hnil2; have hB2 : Below B _ w2 := (Below.refl B _).grown hgrow2 HPa.out.le (fun g hg => (HPa.out.own.lt g hg).1); obtain ⟨e0, f0⟩ := HPa.out.cellB hB2; rw [← byteCells_append, List.append_assoc] at hown2; obtain ⟨sa2, q2, sc2, rfl⟩ := owns_slice hown2; have HP3 := Lib.hid (HPa.out.fin hB2 hown2); have HA3 : Hid (ARow (w2.setCell ⟨bb, 0, none⟩ (.slice sa2 q2 sc2)) ab ns (k + 1)) := (fun j q hj hq => (Hor.out.elim (fun hlt => (HAa.out.step (Or.inl hlt) hne hB2).1 hlt j q hj hq) (fun h1 => by exfalso; have h2 := (List.getElem?_eq_some_iff.1 hq).1; omega))); clear hown2 hgrow2 hnil2 hB2)
          go_roundw
          case rel => exact ⟨m / 128, _, _, by go_num, by omega, HD2, HP3, HA3⟩
          case measure => simp [intOf]; omega
        · have hcs : (#[Value.int .u8 (m : Int)] : Array Value).toList = byteCells [UInt8.ofNat m] := by
            simp [byteCells]
            omega
          have Hcs := Lib.hid hcs
          have hfin : digsN n = zs ++ [UInt8.ofNat m] := by rw [HD.out.1, digsN_lt (by omega)]
          have Hfin := Lib.hid hfin
          have hPa := HPz.out.alloc (.cells #[.int .u8 (m : Int)] 5)
          have HPa := Lib.hid hPa
          have hc0 := HPz.out.c
          have hf0 := HPz.out.f
          have HAa : Hid (ARow (wr.alloc (.cells #[.int .u8 (m : Int)] 5)) ab ns (k + 1)) := fun j q hj hq => ekeepAl _ (HAz.out j q hj hq)
          have hblt := HPz.out.lt
          have hble := HPz.out.le
          clear hcs hPa hfin
          go_wp2_with (at_builtin; refine wpList_append_own _ rfl (.tmp 22) (.tmp 25) 40 rfl B 5 i0 (.int .u8 0) 1 1 Try.underlying40 hi hz0 hz1 hz2 rfl (by decide) _ _ _ rfl HPa.out.own ⟨wr.heap.size, 0, none⟩ 1 1 (byteCells [UInt8.ofNat m]) rfl rfl (cells_new wr [UInt8.ofNat m] _ _ _ Hcs.out) (byteCells_one _) (by unfold maxLen; omega) (by omega) (by simp; omega) ?_; intro v2 w2 hown2 hgrow2 hnil2; have hB2 : Below B _ w2 := (Below.refl B _).grown hgrow2 HPa.out.le (fun g hg => (HPa.out.own.lt g hg).1); obtain ⟨e0, f0⟩ := HPa.out.cellB hB2; rw [← byteCells_append, List.append_assoc, ← Hfin.out] at hown2; obtain ⟨sa2, q2, sc2, rfl⟩ := owns_slice hown2; have HP3 := Lib.hid (HPa.out.fin hB2 hown2); have HA3 : Hid (ARow (w2.setCell ⟨bb, 0, none⟩ (.slice sa2 q2 sc2)) ab ns (k + 1)) := (fun j q hj hq => (Hor.out.elim (fun hlt => (HAa.out.step (Or.inl hlt) hne hB2).1 hlt j q hj hq) (fun h1 => by exfalso; have h2 := (List.getElem?_eq_some_iff.1 hq).1; omega))); clear hown2 hgrow2 hnil2 hB2)
          go_roundw
          case rel => exact ⟨k + 1, _, by go_num, by omega, by rw [Htk.out, ← List.append_assoc, Hys.out]; exact HP3, HA3⟩
          case measure => simp [intOf]; omega
    · obtain rfl : k = l := by omega
      have htk : ns.take k = ns := List.take_of_length_le (by rw [Hl.out]; exact Nat.le_refl _)
      have hfin := HPk.out
      rw [htk] at hfin
      have HF := Lib.hid hfin
      clear hfin
      go_wp2
      go_end0
      exact ⟨rfl, _, HF.out⟩

end Go.Proofs.Ytfmlgckfcclojaa
namespace Go.Proofs.Ytfmlgckfcclojaa
open Go.RowKit Go.Lib

theorem wp_scope_jumps_at {P : Program} {a : Act} {w : World} {Q : Exit → Act → World → Prop} {c rest : Code} (a1 : Act) (l : Nat) (J : Act → World → Prop) (μ : Act → World → Nat) (hf : findLabel c l = some (.seq .skip rest))
    (hfirst : ∀ R : Exit → Act → World → Prop, rest.wp P R a1 w → c.wp P R a w) (hJ : J a1 w)
    (pass : ∀ a w, J a w → rest.wp P (Exit.jump l (fun a' w' => J a' w' ∧ μ a' w' < μ a w) Q) a w) : (Code.scope c).wp P Q a w :=
  wp_scope_jumps l J μ hf (hfirst _ (Code.wp_mono (fun e a w q => by
    cases e with
    | goto l' => exact ⟨q.1, q.2.1⟩
    | _ => exact q) (pass a1 w hJ))) (fun a w h => wp_seq (wp_skip (pass a w h)))

theorem firstB_le {l r : List UInt8} (h : firstB l = some r) : r.length + 5 ≤ l.length ∧ r.length ≤ 4096 ∧ l.take (r.length + 5) = frameB r := by
  unfold firstB at h
  split at h; · cases h
  rename_i h5
  split at h; · cases h
  rename_i h82
  split at h; · cases h
  rename_i hbig
  split at h; · cases h
  rename_i hmore
  split at h; · cases h
  rename_i hsum
  injection h with h
  have hlen : r.length = saysN l := by rw [← h, List.length_take, List.length_drop]; omega
  refine ⟨by omega, by omega, ?_⟩
  obtain ⟨x0, x1, x2, x3, x4, t, rfl⟩ : ∃ x0 x1 x2 x3 x4 t, l = x0 :: x1 :: x2 :: x3 :: x4 :: t := by
    match l, h5 with
    | x0 :: x1 :: x2 :: x3 :: x4 :: t, _ => exact ⟨_, _, _, _, _, _, rfl⟩
    | [], h => simp at h
    | [_], h => simp at h
    | [_, _], h => simp at h
    | [_, _, _], h => simp at h
    | [_, _, _, _], h => simp at h
  have e0 : x0 = 82 := by
    have : x0.toNat = 82 := by simpa [byteN] using h82
    exact UInt8.toNat_inj.1 this
  have hs : saysN (x0 :: x1 :: x2 :: x3 :: x4 :: t) = 256 * x1.toNat + x2.toNat := rfl
  have h3 : byteN (x0 :: x1 :: x2 :: x3 :: x4 :: t) 3 = x3.toNat := rfl
  have h4 : byteN (x0 :: x1 :: x2 :: x3 :: x4 :: t) 4 = x4.toNat := rfl
  rw [h3, h4] at hsum
  have b1 := x1.toNat_lt
  have b2 := x2.toNat_lt
  have b3 := x3.toNat_lt
  have b4 := x4.toNat_lt
  have hr : sumN r = 256 * x3.toNat + x4.toNat := by rw [← h]; omega
  have e1 : UInt8.ofNat (r.length / 256) = x1 := by
    rw [hlen, hs, show (256 * x1.toNat + x2.toNat) / 256 = x1.toNat by omega]; simp
  have e2 : UInt8.ofNat (r.length % 256) = x2 := by
    rw [hlen, hs, show (256 * x1.toNat + x2.toNat) % 256 = x2.toNat by omega]; simp
  have e3 : UInt8.ofNat (sumN r / 256) = x3 := by
    rw [hr, show (256 * x3.toNat + x4.toNat) / 256 = x3.toNat by omega]; simp
  have e4 : UInt8.ofNat (sumN r % 256) = x4 := by
    rw [hr, show (256 * x3.toNat + x4.toNat) % 256 = x4.toNat by omega]; simp
  have h' : t.take (saysN (x0 :: x1 :: x2 :: x3 :: x4 :: t)) = r := h
  rw [frameB, e1, e2, e3, e4, e0, hlen]
  show 82 :: x1 :: x2 :: x3 :: x4 :: t.take (saysN (x0 :: x1 :: x2 :: x3 :: x4 :: t)) = _
  rw [h']
  rfl

/-- The records of the frames that bytes begin with. -/
def cutB (l : List UInt8) : List (List UInt8) :=
  match h : firstB l with
  | none => []
  | some r => r :: cutB (l.drop (r.length + 5))
termination_by l.length
decreasing_by
  have := (firstB_le h).1
  rw [List.length_drop]
  omega

theorem cutB_none {l : List UInt8} (h : firstB l = none) : cutB l = [] := by
  rw [cutB]; split
  · rfl
  · rename_i r hr; rw [h] at hr; cases hr
theorem cutB_some {l r : List UInt8} (h : firstB l = some r) : cutB l = r :: cutB (l.drop (r.length + 5)) := by
  rw [cutB]; split
  · rename_i hr; rw [h] at hr; cases hr
  · rename_i r' hr; rw [h] at hr; injection hr with hr; rw [hr]

/-- How many bytes records' frames have. -/
def lensN (rs : List (List UInt8)) : Nat := (rs.map fun r => r.length + 5).sum
def cutN (l : List UInt8) : Nat := lensN (cutB l)

theorem lensN_append (a b : List (List UInt8)) : lensN (a ++ b) = lensN a + lensN b := by simp [lensN]
theorem lensN_one (r : List UInt8) : lensN [r] = r.length + 5 := by simp [lensN]
theorem lensN_ge (rs : List (List UInt8)) : rs.length * 5 ≤ lensN rs := by
  induction rs with
  | nil => simp [lensN]
  | cons r rs ih => simp only [lensN, List.map_cons, List.sum_cons, List.length_cons] at *; omega

theorem cutN_le : ∀ (n : Nat) (l : List UInt8), l.length = n → cutN l ≤ l.length := by
  intro n
  induction n using Nat.strongRecOn with
  | _ n ih =>
    intro l hl
    cases h : firstB l with
    | none => simp [cutN, cutB_none h, lensN]
    | some r =>
      have h1 := (firstB_le h).1
      have h2 := ih (l.drop (r.length + 5)).length (by rw [List.length_drop]; omega) _ rfl
      rw [List.length_drop] at h2
      simp only [cutN, cutB_some h, lensN, List.map_cons, List.sum_cons] at h2 ⊢
      omega

theorem infoS16 : (Try.prog.info? 9).map (fun i => (i.zero, i.size, i.bytes)) = some (some (.string .empty), 1, 16) := by kernel_rfl

/-- Texts as cells. -/
def recCells (rs : List (List UInt8)) : List Value := rs.map fun r => Value.string (strB r)
theorem recCells_one (rs : List (List UInt8)) : ∀ u ∈ recCells rs, u.oneCell' = true := by
  intro u hu
  simp only [recCells, List.mem_map] at hu
  obtain ⟨r, _, rfl⟩ := hu
  rfl
theorem recCells_length (rs : List (List UInt8)) : (recCells rs).length = rs.length := by simp [recCells]

/-- What Cut answers. -/
def CutPost (w : World) (bs : List UInt8) (e : Ending) (w' : World) : Prop :=
  ∃ v, e = .returned (.tuple #[v, .int .i64 (cutN bs)]) ∧ w'.ownsRow w.heap.size 9 1 v (cutB bs).length (recCells (cutB bs)) ∧ Below w.heap.size w w'

theorem ret_two {v : Value} {a b : Int} (h : a = b) : Ending.returned (.tuple #[v, .int .i64 a]) = .returned (.tuple #[v, .int .i64 b]) := by rw [h]

theorem fbelow_drewN {B : Nat} {a w : World} (h : Below B a w) (n : Nat) : Below B a (w.drewN n) := ⟨h.os, h.tape, h.output, h.size, h.block⟩

theorem vals_new (w : World) (vs : List Value) (cs : Array Value) (t : TypeId) (fr : Nat × Nat) (h : cs.toList = vs) : ∀ j u, vs[j]? = some u → (w.alloc (.cells cs t fr)).cell? ((⟨w.heap.size, 0, none⟩ : Addr).add j) = some u := by
  intro j u hu
  have hadd : (⟨w.heap.size, 0, none⟩ : Addr).add j = ⟨w.heap.size, j, none⟩ := by unfold Addr.add; split <;> simp_all
  rw [hadd]
  refine fcell_of_blk (heap_alloc_new w _) ?_
  rw [← h] at hu
  simpa using hu

end Go.Proofs.Ytfmlgckfcclojaa

/- GreatLogs and does. -/
import Derived.Test.YtgkhnimdlkdaaaaDO
namespace Go.Proofs.Ytgkhnimdlkdaaaa
open Go.RowKit Go.Lib Go.Maps Go.ChangeMaps

/-- A file, as it was handed in. -/
structure LogV where
  name : ByteArray
  da : Option Addr
  dc : Nat
  ds : List UInt8

instance : Inhabited LogV := ⟨⟨.empty, none, 0, []⟩⟩

structure LAt (w : World) (A : Addr) (j : Nat) (o : LogV) : Prop where
  c0 : w.cell? (A.add (j * 2)) = some (.string o.name)
  c1 : w.cell? (fld A 2 j 1) = some (.slice o.da o.ds.length o.dc)
  hname : o.name.size ≤ maxLen
  hdl : o.ds.length ≤ maxLen
  hb : BArg w (fun _ => none) (.slice o.da o.ds.length o.dc) o.ds

def LRow (w : World) (a : Option Addr) (ls : List LogV) : Prop := ∀ j o, ls[j]? = some o → ∃ A, a = some A ∧ LAt w A j o

theorem LAt.below {w w' : World} {A : Addr} {j : Nat} {o : LogV} (h : LAt w A j o) (hb : Below w.heap.size w w') : LAt w' A j o where
  c0 := (hb.cell (World.block_lt_of_cell? _ _ h.c0)).trans h.c0
  c1 := (hb.cell (World.block_lt_of_cell? _ _ h.c1)).trans h.c1
  hname := h.hname
  hdl := h.hdl
  hb := h.hb.step (below_step _ hb)

theorem LRow.below {w w' : World} {a : Option Addr} {ls : List LogV} (h : LRow w a ls) (hb : Below w.heap.size w w') : LRow w' a ls := fun j o hj => by
  obtain ⟨A, h1, h2⟩ := h j o hj
  exact ⟨A, h1, h2.below hb⟩

/-- What GreatLogs leaves. -/
def GLPost (w : World) (e : Ending) (w' : World) : Prop := ∃ g, e = .returned (.bool g) ∧ Below w.heap.size w w'

set_option maxHeartbeats 2000000 in
set_option maxRecDepth 100000 in
theorem greatLogs_calls (a : Option Addr) (c : Nat) (ls : List LogV) (w : World) (hls : LRow w a ls) (hl : ls.length ≤ maxLen) :
    Calls Try.prog 13 #[.slice a ls.length c] w (GLPost w) := by
  have Hls := Lib.hid hls
  obtain ⟨l, hll⟩ : ∃ l, ls.length = l := ⟨_, rfl⟩
  rw [hll] at hl ⊢
  have Hl := Lib.hid hll
  unfold maxLen at hl
  clear hls hll
  go_enter Try.func13, Try.ntmps13
  go_wp2_with fail
  go_loopw [3, 4] (fun n i wr => ∃ (k : Nat) (x : Int), k ≤ l ∧ i = .int .i64 k ∧ n = .int .i64 x ∧ 0 ≤ x ∧ x ≤ 9223372036854775807 ∧ Hid (Below w.heap.size w wr)) (fun _ i _ => l - (intOf i).toNat)
  case atStart => exact ⟨0, l, Nat.zero_le _, rfl, rfl, by omega, by omega, Below.refl _ _⟩
  case round =>
    obtain ⟨k, x, hk, rfl, rfl, hx0, hx1, Hb⟩ := hrel
    by_cases hgo : k < l ∧ x < 100000
    · obtain ⟨hlt, hx⟩ := hgo
      obtain ⟨o, ho⟩ : ∃ o, ls[k]? = some o := ⟨_, List.getElem?_eq_getElem (by rw [Hl.out]; exact hlt)⟩
      obtain ⟨name, da, dc, ds⟩ := o
      obtain ⟨A, rfl, hat0⟩ := Hls.out k _ ho
      have hat := hat0.below Hb.out
      have c1 := hat.c0
      have c2 := hat.c1
      dsimp only at c1 c2
      have hd : decide (x < 100000) = true := by simpa using hx
      have Hat := Lib.hid hat
      unfold fld at c2
      clear ho hat0 hat
      have hk0 : (0 : Int) ≤ (k : Int) := by omega
      have hk1 : (k : Int) < (l : Int) := by omega
      go_wp2_with fail
      go_quiet (fail)
      have Hb1 : Hid (Below w.heap.size w (wr.drewN nq)) := below_drewN Hb.out _
      clear c1 c2
      go_wp2_with fail
      go_roundw
      case rel => exact ⟨k + 1, _, by omega, by go_num, rfl, by omega, by omega, Hb1⟩
      case measure => simp [intOf]; omega
    · by_cases hbig : 100000 ≤ x
      · have hd2 : decide (x < 100000) = false := by simp; omega
        have hd3 : decide ((100000 : Int) ≤ x) = true := by simpa using hbig
        by_cases hlt : k < l
        all_goals
          go_wp2
          go_ret
          exact ⟨true, rfl, Hb.out⟩
      · have hd3 : decide ((100000 : Int) ≤ x) = false := by simp; omega
        go_wp2
        go_ret
        exact ⟨false, rfl, Hb.out⟩

/-- What a call of 'does' answers, and what the device is then. -/
def doesM (m : DevM) (sz used : Nat) (o : OpV) : DevM × Int :=
  if o.what = 0 ∨ o.what = 1 ∨ o.what = 2 then appendM m sz used o.name.data.toList o.bs
  else if o.what = 3 then removeM m o.name.data.toList
  else if o.what = 4 then syncM m
  else (m, 0)

def opVal (o : OpV) : Value := .agg #[.int .i64 o.what, .string o.name, .slice o.ba o.bs.length o.bc, .int .i64 o.n, .slice o.ka o.ks.length o.kc]

/-- What 'does' leaves. -/
def DoesPost (S : Prop) (w : World) (own : Owner) (db fb rb : Nat) (n : Nat) (m' : DevM) (c : Int) (e : Ending) (w' : World) : Prop :=
  e = .returned (.int .i64 c) ∧ ∃ own' D' E', Dev S w' own' db fb rb D' E' (n + 1) m' ∧ Step own own' w w'

section
variable {S : Prop} {w w' : World} {own own' : Owner} {db fb rb : Nat} {D D' E E' : DataW Unit} {n n' : Nat} {m : DevM}

set_option maxHeartbeats 2000000 in
set_option maxRecDepth 100000 in
theorem Dev.does (h : Dev S w own db fb rb D E n m) (hcn : n ≤ 1000000000000) (ha : m.acts ≤ 1000000000000) (o : OpV) (hs : o.name.size ≤ maxLen) (hb : BArg w own (.slice o.ba o.bs.length o.bc) o.bs) :
    Calls Try.prog 29 #[.pointer (some ⟨db, 0, none⟩), opVal o] w (DoesPost S w own db fb rb n (doesM m (Maps.size D) (usedD D m.files) o).1 (doesM m (Maps.size D) (usedD D m.files) o).2) := by
  have hw : Below w.heap.size w (w.alloc (.cells #[.int .i64 o.what, .string o.name, .slice o.ba o.bs.length o.bc, .int .i64 o.n, .slice o.ka o.ks.length o.kc] 34)) := (Below.refl _ _).alloc (Nat.le_refl _) _
  have hA := (h.below hw).append hcn ha hs (hb.step (below_step own hw))
  have hR := (h.below hw).remove hcn ha hs
  have hY := (h.below hw).sync ha
  have hN := (h.below hw).mono (Nat.le_succ n)
  have HA := Lib.hid hA
  have HR := Lib.hid hR
  have HY := Lib.hid hY
  have HN := Lib.hid hN
  have HW := Lib.hid hw
  obtain ⟨what, name, ba, bc, bs, on, ka, kc, ks⟩ := o
  dsimp only [opVal] at *
  clear hA hR hY hN hw h hb
  by_cases h012 : what = 0 ∨ what = 1 ∨ what = 2
  · have e1 : doesM m (Maps.size D) (usedD D m.files) ⟨what, name, ba, bc, bs, on, ka, kc, ks⟩ = appendM m (Maps.size D) (usedD D m.files) name.data.toList bs := if_pos h012
    rw [e1]
    clear e1
    rcases h012 with rfl | rfl | rfl
    all_goals
      go_enter Try.func29, Try.ntmps29
      go_wp2_with fail
      refine HA.out.mono ?_
      rintro e w1 ⟨rfl, own1, D1, h1, st1⟩
      have H1 := Lib.hid h1
      have ST1 := Lib.hid st1
      clear h1 st1
      go_wp2_with fail
      go_ret
      exact ⟨rfl, own1, D1, E, H1.out, (below_step own HW.out).trans ST1.out⟩
  · by_cases h3 : what = 3
    · subst h3
      have e1 : doesM m (Maps.size D) (usedD D m.files) ⟨3, name, ba, bc, bs, on, ka, kc, ks⟩ = removeM m name.data.toList := rfl
      rw [e1]
      clear e1 h012
      go_enter Try.func29, Try.ntmps29
      go_wp2_with fail
      refine HR.out.mono ?_
      rintro e w1 ⟨rfl, own1, D1, E1, h1, st1⟩
      have H1 := Lib.hid h1
      have ST1 := Lib.hid st1
      clear h1 st1
      go_wp2_with fail
      go_ret
      exact ⟨rfl, own1, D1, E1, H1.out.mono (Nat.le_succ n), (below_step own HW.out).trans ST1.out⟩
    · by_cases h4 : what = 4
      · subst h4
        have e1 : doesM m (Maps.size D) (usedD D m.files) ⟨4, name, ba, bc, bs, on, ka, kc, ks⟩ = syncM m := rfl
        rw [e1]
        clear e1 h012 h3
        go_enter Try.func29, Try.ntmps29
        go_wp2_with fail
        refine HY.out.mono ?_
        rintro e w1 ⟨rfl, E1, h1, st1⟩
        have H1 := Lib.hid h1
        have ST1 := Lib.hid st1
        clear h1 st1
        go_wp2_with fail
        go_ret
        exact ⟨rfl, own, D, E1, H1.out.mono (Nat.le_succ n), (below_step own HW.out).trans ST1.out⟩
      · have e1 : doesM m (Maps.size D) (usedD D m.files) ⟨what, name, ba, bc, bs, on, ka, kc, ks⟩ = (m, 0) := by
          unfold doesM
          rw [if_neg h012, if_neg h3, if_neg h4]
        rw [e1]
        clear e1
        have d0 : (what == 0) = false := by simp; omega
        have d1 : (what == 1) = false := by simp; omega
        have d2 : (what == 2) = false := by simp; omega
        have d3 : (what == 3) = false := by simpa using h3
        have d4 : (what == 4) = false := by simpa using h4
        clear h012 h3 h4
        go_enter Try.func29, Try.ntmps29
        go_wp2_with fail
        go_ret
        exact ⟨rfl, own, D, E, HN.out, below_step own HW.out⟩

end
end Go.Proofs.Ytgkhnimdlkdaaaa

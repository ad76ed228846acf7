/- Great: it ends, and where it answers false the calls are no more than three hundred. -/
import Derived.Test.YtgkhnimdlkdaaaaDJ
import Derived.Deep.QuietTactic
import Derived.BigQuiet
namespace Go.Proofs.Ytgkhnimdlkdaaaa
open Go.RowKit Go.Lib Go.Maps Go.ChangeMaps

/-- A call, as it was handed in. -/
structure OpV where
  what : Int
  name : ByteArray
  ba : Option Addr
  bc : Nat
  bs : List UInt8
  n : Int
  ka : Option Addr
  kc : Nat
  ks : List (ByteArray × Int)

/-- The field f of the struct at place j of a row of structs of s cells. -/
def fld (A : Addr) (s j f : Nat) : Addr := ⟨(A.add (j * s)).block, (A.add (j * s)).off + f, none⟩

structure OAt (w : World) (A : Addr) (j : Nat) (o : OpV) : Prop where
  c0 : w.cell? (A.add (j * 5)) = some (.int .i64 o.what)
  c1 : w.cell? (fld A 5 j 1) = some (.string o.name)
  c2 : w.cell? (fld A 5 j 2) = some (.slice o.ba o.bs.length o.bc)
  c3 : w.cell? (fld A 5 j 3) = some (.int .i64 o.n)
  c4 : w.cell? (fld A 5 j 4) = some (.slice o.ka o.ks.length o.kc)
  hname : o.name.size ≤ maxLen
  hwhat : (Lit.int .i64 o.what).wf = true
  hn : (Lit.int .i64 o.n).wf = true
  hbl : o.bs.length ≤ maxLen
  hkl : o.ks.length ≤ maxLen
  hb : BArg w (fun _ => none) (.slice o.ba o.bs.length o.bc) o.bs
  hk : KArg w (fun _ => none) (.slice o.ka o.ks.length o.kc) o.ks

def ORow (w : World) (a : Option Addr) (os : List OpV) : Prop := ∀ j o, os[j]? = some o → ∃ A, a = some A ∧ OAt w A j o

theorem OAt.below {w w' : World} {A : Addr} {j : Nat} {o : OpV} (h : OAt w A j o) (hb : Below w.heap.size w w') : OAt w' A j o where
  c0 := (hb.cell (World.block_lt_of_cell? _ _ h.c0)).trans h.c0
  c1 := (hb.cell (World.block_lt_of_cell? _ _ h.c1)).trans h.c1
  c2 := (hb.cell (World.block_lt_of_cell? _ _ h.c2)).trans h.c2
  c3 := (hb.cell (World.block_lt_of_cell? _ _ h.c3)).trans h.c3
  c4 := (hb.cell (World.block_lt_of_cell? _ _ h.c4)).trans h.c4
  hname := h.hname
  hwhat := h.hwhat
  hn := h.hn
  hbl := h.hbl
  hkl := h.hkl
  hb := h.hb.step (below_step _ hb)
  hk := h.hk.step (below_step _ hb)

theorem ORow.below {w w' : World} {a : Option Addr} {os : List OpV} (h : ORow w a os) (hb : Below w.heap.size w w') : ORow w' a os := fun j o hj => by
  obtain ⟨A, h1, h2⟩ := h j o hj
  exact ⟨A, h1, h2.below hb⟩

/-- What Great leaves. -/
def GreatPost (w : World) (l : Nat) (e : Ending) (w' : World) : Prop := ∃ g, e = .returned (.bool g) ∧ (g = false → l ≤ 300) ∧ Below w.heap.size w w'

set_option maxHeartbeats 2000000 in
set_option maxRecDepth 100000 in
theorem great_calls (a : Option Addr) (c : Nat) (os : List OpV) (w : World) (hos : ORow w a os) (hl : os.length ≤ maxLen) :
    Calls Try.prog 12 #[.slice a os.length c] w (GreatPost w os.length) := by
  have Hos := Lib.hid hos
  obtain ⟨l, hll⟩ : ∃ l, os.length = l := ⟨_, rfl⟩
  rw [hll] at hl ⊢
  have Hl := Lib.hid hll
  unfold maxLen at hl
  clear hos hll
  go_enter Try.func12, Try.ntmps12
  go_wp2_with fail
  go_loopw [3, 4] (fun n i wr => ∃ (k : Nat) (x : Int), k ≤ l ∧ i = .int .i64 k ∧ n = .int .i64 x ∧ Hid (Below w.heap.size w wr)) (fun _ i _ => l - (intOf i).toNat)
  case atStart => exact ⟨0, l, Nat.zero_le _, rfl, rfl, Below.refl _ _⟩
  case round =>
    obtain ⟨k, x, hk, rfl, rfl, Hb⟩ := hrel
    by_cases hgo : k < l ∧ x < 20000
    · obtain ⟨hlt, hx⟩ := hgo
      obtain ⟨o, ho⟩ : ∃ o, os[k]? = some o := ⟨_, List.getElem?_eq_getElem (by rw [Hl.out]; exact hlt)⟩
      obtain ⟨what, name, ba, bc, bs, on, ka, kc, ks⟩ := o
      obtain ⟨A, rfl, hat0⟩ := Hos.out k _ ho
      have hat := hat0.below Hb.out
      have c1 := hat.c1
      have c2 := hat.c2
      dsimp only at c1 c2
      have hd : decide (x < 20000) = true := by simpa using hx
      have Hat := Lib.hid hat
      unfold fld at c1 c2
      clear ho hat0 hat
      have hk0 : (0 : Int) ≤ (k : Int) := by omega
      have hk1 : (k : Int) < (l : Int) := by omega
      go_wp2_with fail
      go_quiet (fail)
      have Hb1 : Hid (Below w.heap.size w (wr.drewN nq)) := below_drewN Hb.out _
      have hatq := Hat.out.below (below_drewN (Below.refl _ wr) nq)
      have c4q := hatq.c4
      unfold fld at c4q
      dsimp only at c4q
      have HK := Lib.hid hatq.hk
      have hkl := hatq.hkl
      unfold maxLen at hkl
      dsimp only at hkl HK
      obtain ⟨lk, hlk⟩ : ∃ lk, ks.length = lk := ⟨_, rfl⟩
      rw [hlk] at c4q hkl HK
      have Hlk := Lib.hid hlk
      clear hatq c1 c2 hlk
      go_wp2_with fail
      go_loop [3, 5] (fun n i => ∃ (q : Nat) (y : Int), q ≤ lk ∧ i = .int .i64 q ∧ n = .int .i64 y) (fun _ i => lk - (intOf i).toNat)
      case atStart => exact ⟨0, _, Nat.zero_le _, rfl, rfl⟩
      case round =>
        obtain ⟨q, y, hq, rfl, rfl⟩ := hrel
        by_cases hgo2 : q < lk ∧ y < 20000
        · obtain ⟨hlt2, hy⟩ := hgo2
          obtain ⟨KA, rfl, hks⟩ : ∃ KA, ka = some KA ∧ KRow (wr.drewN nq) KA ks := by
            rcases HK.out with ⟨_, e⟩ | ⟨KA, kc', e, _, h⟩
            · rw [e] at Hlk
              have := Hlk.out
              simp at this
              omega
            · injection e with e1 e2 e3
              exact ⟨KA, e1, h⟩
          obtain ⟨⟨s, v⟩, hqs⟩ : ∃ z, ks[q]? = some z := ⟨_, List.getElem?_eq_getElem (by rw [Hlk.out]; exact hlt2)⟩
          have g0 := (hks q s v hqs).1
          have hdy : decide (y < 20000) = true := by simpa using hy
          clear hqs hks
          go_wp2
          go_round
          case rel => exact ⟨q + 1, _, by omega, by go_num, rfl⟩
          case measure => simp [intOf]; omega
        · by_cases hlt2 : q < lk
          · have hdy : decide (y < 20000) = false := by simp; omega
            go_wp2
            go_roundw
            case rel => exact ⟨k + 1, _, by omega, by go_num, rfl, Hb1⟩
            case measure => simp [intOf]; omega
          · go_wp2
            go_roundw
            case rel => exact ⟨k + 1, _, by omega, by go_num, rfl, Hb1⟩
            case measure => simp [intOf]; omega
    · by_cases hbig : 20000 ≤ x
      · have hd2 : decide (x < 20000) = false := by simp; omega
        have hd3 : decide ((20000 : Int) ≤ x) = true := by simpa using hbig
        by_cases hlt : k < l
        all_goals
          go_wp2
          go_ret
          exact ⟨true, rfl, fun h => Bool.noConfusion h, Hb.out⟩
      · have hd3 : decide ((20000 : Int) ≤ x) = false := by simp; omega
        by_cases h300 : 300 < l
        · have hd4 : decide ((300 : Int) < (l : Int)) = true := by simp; omega
          go_wp2
          go_ret
          exact ⟨true, rfl, fun h => Bool.noConfusion h, Hb.out⟩
        · have hd4 : decide ((300 : Int) < (l : Int)) = false := by simp; omega
          go_wp2
          go_ret
          exact ⟨false, rfl, fun _ => by omega, Hb.out⟩

end Go.Proofs.Ytgkhnimdlkdaaaa

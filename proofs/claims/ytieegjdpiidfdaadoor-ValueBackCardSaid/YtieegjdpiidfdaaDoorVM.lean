/- The statement ValueReads, its walk. -/
import Derived.Test.YtieegjdpiidfdaaDoorVL
namespace Go.Proofs.YtieegjdpiidfdaaDoor
open Go.RowKit Go.Lib Go.Op

/-- What a law's call leaves. -/
def RFine (w : World) (e : Ending) (w' : World) : Prop := e = .returned (.bool true) ∧ Below w.heap.size w w'

theorem rget_some {w : World} {v : Value} {bs : List UInt8} (h : BRow w v bs) (hl : bs.length ≤ 1000000) {k n : Int} {s : List UInt8} {m : Nat} {sB : ByteArray} (hg : refV bs = some (⟨k, n, s⟩, m)) (hs : strB s = sB) :
    Calls Tryd.prog 21 #[v] w fun e w' => e = .returned (.tuple #[.agg #[.int .i64 k, .int .i64 n, .string sB], .int .i64 m, .bool true]) ∧ Below w.heap.size w w' :=
  (rget_calls w v bs h hl).mono fun e w' ⟨h1, h2⟩ => ⟨by rw [h1, hg, ← hs]; rfl, h2⟩
theorem rget_none {w : World} {v : Value} {bs : List UInt8} (h : BRow w v bs) (hl : bs.length ≤ 1000000) (hg : refV bs = none) :
    Calls Tryd.prog 21 #[v] w fun e w' => e = .returned (.tuple #[.agg #[.int .i64 0, .int .i64 0, .string ⟨#[]⟩], .int .i64 0, .bool false]) ∧ Below w.heap.size w w' :=
  (rget_calls w v bs h hl).mono fun e w' ⟨h1, h2⟩ => ⟨by rw [h1, hg]; rfl, h2⟩

set_option maxHeartbeats 4000000 in
set_option maxRecDepth 100000 in
theorem reads_walk (w : World) (hT : HoldsTab w) (a : Option Addr) (c : Nat) (bs : List UInt8) (hb : BRow w (.slice a bs.length c) bs) :
    Calls Tryd.prog 4 #[.slice a bs.length c] w (RFine w) := by
  obtain ⟨a', c', e1, hc, hcm⟩ := hb.len
  injection e1 with ea el ec
  subst ea
  subst ec
  clear el
  have H := Lib.hid hb
  obtain ⟨l, hl⟩ : ∃ l, bs.length = l := ⟨_, rfl⟩
  have HL := Lib.hid hl
  rw [hl] at hc ⊢
  have hlm : l ≤ maxLen := Nat.le_trans hc hcm
  unfold maxLen at hlm
  clear hb hl hc hcm
  by_cases hg : 9000 < l
  · go_enter Tryd.func4, Tryd.ntmps4
    go_wp2_with fail
    refine (vhead_calls _ hT).mono ?_
    rintro _ w1 ⟨rfl, hb1⟩
    have HB1 := Lib.hid hb1
    clear hb1
    go_wp2
    go_ret
    exact ⟨rfl, HB1.out⟩
  have hbl : bs.length ≤ 1000000 := by rw [HL.out]; omega
  have Hbl := Lib.hid hbl
  have href := (getV_ref bs).symm
  clear hbl
  cases ho : getV bs with
  | none =>
    rw [ho] at href
    have HO := Lib.hid ho
    have HR := Lib.hid href
    clear ho href
    go_enter Tryd.func4, Tryd.ntmps4
    go_wp2_with fail
    refine (vhead_calls _ hT).mono ?_
    rintro _ w1 ⟨rfl, hb1⟩
    have HB1 := Lib.hid hb1
    have hrow := H.out.below hb1
    rw [HL.out] at hrow
    have H1 := Lib.hid hrow
    clear hb1 hT hrow
    go_wp2_with fail
    (with_reducible refine (vget_none H1.out HO.out).mono ?_)
    rintro _ w2 ⟨rfl, hb2⟩
    have HB2 : Hid (Below w.heap.size w w2) := HB1.out.trans (hb2.mono HB1.out.size)
    have H2 := Lib.hid ((H1.out.below hb2).below ((Below.refl _ w2).alloc (Nat.le_refl _) (.cells #[.int .i64 0, .int .i64 0, .string ⟨#[]⟩] 23)))
    clear hb2
    go_wp2_with fail
    (with_reducible refine (rget_none H2.out Hbl.out HR.out).mono ?_)
    rintro _ w3 ⟨rfl, hb3⟩
    have HB3 : Hid (Below w.heap.size w w3) := (HB2.out.alloc HB2.out.size _).trans (hb3.mono (by have := HB2.out.size; simp; omega))
    obtain ⟨y0, y1, y2, y3⟩ := cellsN (by simpa using hb3)
    clear hb3
    go_wp2
    go_ret
    exact ⟨rfl, by repeat' (first | exact HB3.out | refine Below.alloc ?_ (by have := HB3.out.size; simp at this ⊢; omega) _)⟩
  | some o =>
    obtain ⟨⟨k, n, s⟩, m⟩ := o
    rw [ho] at href
    have HO := Lib.hid ho
    have HR := Lib.hid href
    obtain ⟨sB, hs⟩ : ∃ sB, strB s = sB := ⟨_, rfl⟩
    have HS := Lib.hid hs
    clear ho href hs
    go_enter Tryd.func4, Tryd.ntmps4
    go_wp2_with fail
    refine (vhead_calls _ hT).mono ?_
    rintro _ w1 ⟨rfl, hb1⟩
    have HB1 := Lib.hid hb1
    have hrow := H.out.below hb1
    rw [HL.out] at hrow
    have H1 := Lib.hid hrow
    clear hb1 hT hrow
    go_wp2_with fail
    (with_reducible refine (vget_some H1.out HO.out HS.out).mono ?_)
    rintro _ w2 ⟨rfl, hb2⟩
    have HB2 : Hid (Below w.heap.size w w2) := HB1.out.trans (hb2.mono HB1.out.size)
    have H2 := Lib.hid ((H1.out.below hb2).below ((Below.refl _ w2).alloc (Nat.le_refl _) (.cells #[.int .i64 k, .int .i64 n, .string sB] 23)))
    clear hb2
    go_wp2_with fail
    (with_reducible refine (rget_some H2.out Hbl.out HR.out HS.out).mono ?_)
    rintro _ w3 ⟨rfl, hb3⟩
    have HB3 : Hid (Below w.heap.size w w3) := (HB2.out.alloc HB2.out.size _).trans (hb3.mono (by have := HB2.out.size; simp; omega))
    obtain ⟨y0, y1, y2, y3⟩ := cellsN (by simpa using hb3)
    clear hb3
    go_wp2
    go_ret
    exact ⟨rfl, by repeat' (first | exact HB3.out | refine Below.alloc ?_ (by have := HB3.out.size; simp at this ⊢; omega) _)⟩

end Go.Proofs.YtieegjdpiidfdaaDoor

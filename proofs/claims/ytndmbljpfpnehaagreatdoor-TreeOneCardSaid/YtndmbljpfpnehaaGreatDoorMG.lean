/- What the cards of the tree have in common: the program's Parse, Right, Print and Deep, the document's great tree, its laying. No condition. -/
import Derived.Test.YtndmbljpfpnehaaGreatDoorMF
import Derived.ProofKit
import Derived.OpenShut
import Derived.ShutString
import Derived.SizedLaws
import Derived.Test.YtndmbljpfpnehaaGreatDoorTie
import Derived.Test.YtndmbljpfpnehaaGreatDoorCards
import Derived.LaidMore
import Derived.LaidLaws
import Derived.ChangeOld
import Derived.Stop.Joined
import Derived.Lib.SmallJoins
import Derived.Lib.LaidTab
import Derived.SevenTiedAt
namespace Go.Proofs.YtndmbljpfpnehaaGreatDoor
open Go.RowKit Go.Lib Go.Op

/-- A count that is added to again and again. -/
def xN (v : List UInt8) : Nat → PEx
  | 0 => .mk 3 noV v [] []
  | n + 1 => .mk 7 noV [] [] [xN v n, .mk 3 noV v [] []]
theorem xN_deep (v : List UInt8) : ∀ n : Nat, deepI (xN v n) = n + 1
  | 0 => by simp [xN, deepI_mk]
  | n + 1 => by
    rw [xN, deepI_mk, if_pos (.inl rfl), deepIs_cons, deepIs_cons, deepIs_nil, xN_deep v n, deepI_mk, if_neg (by decide)]
    omega
theorem xN_size (v : List UInt8) : ∀ n : Nat, sizeI (xN v n) = 2 * n + 1
  | 0 => by simp [xN, sizeI_mk, sizeIs_nil]
  | n + 1 => by
    rw [xN, sizeI_mk, sizeIs_cons, sizeIs_cons, sizeIs_nil, xN_size v n, sizeI_mk, sizeIs_nil]
    omega
theorem xN_bd {v : List UInt8} (hv : v.length ≤ 1000000) : ∀ n : Nat, XBd (xN v n)
  | 0 => .mk _ _ _ _ _ (by decide) hv (by decide) (fun y hy => by cases hy)
  | n + 1 => .mk _ _ _ _ _ (by decide) (by decide) (by decide) (fun y hy => by
    rcases List.mem_cons.1 hy with rfl | hy
    · exact xN_bd hv n
    · rw [List.mem_singleton.1 hy]
      exact xN_bd hv 0)
theorem xN_right {v : List UInt8} (hv : nameB v = true) : ∀ (n d : Nat), rightX d (xN v n) = decide (n < d)
  | n, 0 => by
    cases n <;> simp [rightX]
  | 0, d + 1 => by
    rw [xN, rightX_three, hv]
    simp
  | n + 1, d + 1 => by
    rw [xN, rightX_two d 7 (.inl rfl)]
    show (decide _ && (rightX d (xN v n) && rightX d (xN v 0))) = _
    rw [xN_right hv n d, xN_right hv 0 d]
    simp
    omega
def withX (p : PQu) (x : PEx) : PQu := ⟨p.its, [⟨x, 1, x⟩], p.within, p.by_, p.pick⟩
theorem withX_right {p : PQu} (h : rightQ p = true) {v : List UInt8} (hv : nameB v = true) (n : Nat) : rightQ (withX p (xN v n)) = decide (n < 6) := by
  unfold rightQ at h ⊢
  simp only [Bool.and_eq_true] at h
  obtain ⟨h1, h2, h3, h4, h5, h6⟩ := h
  show (rightIs p.its && (decide (1 ≤ 8) && (rightP ⟨xN v n, 1, xN v n⟩ && true && (decide (0 ≤ p.within ∧ p.within ≤ 1099511627776) && ((decide (p.by_ = []) || nameB p.by_) && decide (1 ≤ p.pick ∧ p.pick ≤ 3)))))) = _
  rw [h1, h4, h5, h6]
  unfold rightP
  rw [xN_right hv]
  simp
theorem right_first {p : PQu} (h : rightQ p = true) : ∃ i r, p.its = i :: r ∧ nameB i.x = true := by
  unfold rightQ at h
  simp only [Bool.and_eq_true] at h
  obtain ⟨h1, _⟩ := h
  unfold rightIs at h1
  cases hi : p.its with
  | nil => rw [hi] at h1; cases h1
  | cons i r =>
    rw [hi] at h1
    refine ⟨i, r, rfl, ?_⟩
    simp only [Bool.and_eq_true, unlikeB, List.all_eq_true] at h1
    exact h1.2.2.1 _ (by simp)

/-- What is so in a round: the expression, in a block of its own. -/
def DLp (w3 wr : World) (v : List UInt8) (j : Nat) : Prop := ∃ (x : PEx) (a : Option Addr) (n c d : Nat), x = xN v j ∧ n = x.ks.length ∧
  XBlk wr w3.heap.size (.int .i64 x.k) (.int .i64 x.v.k) (.int .i64 x.v.n) (.string (strB x.v.s)) (.string (strB x.x)) (.string (strB x.f)) (.slice a n c) ∧
  ExK (· < w3.heap.size + 1) wr d (.slice a n c) x.ks ∧ Below w3.heap.size w3 wr ∧ w3.heap.size + 1 ≤ wr.heap.size
set_option maxHeartbeats 4000000 in
set_option maxRecDepth 100000 in
theorem tdeep_walk (w : World) (hv : TVars w) (hp : PVars w) {a b : Option Addr} {q c r e : Nat} {p : PQu} (h : QuAt (fun _ => False) w a q c b r e p) (hl : QLn p) (t : Int) (ht : 0 ≤ t ∧ t ≤ 255) :
    Calls Tryz.prog 9 #[.agg #[.slice a q c, .slice b r e, .int .i64 p.within, .string (strB p.by_), .int .i64 p.pick], .int .u8 t] w fun e w' => e = .returned (.bool true) ∧ Below w.heap.size w w' := by
  have hb0 := (Below.refl w.heap.size w).alloc (Nat.le_refl _) (.cells #[.slice a q c, .slice b r e, .int .i64 p.within, .string (strB p.by_), .int .i64 p.pick] 26)
  have HX := Lib.hid (Blk.new w #[.slice a q c, .slice b r e, .int .i64 p.within, .string (strB p.by_), .int .i64 p.pick] 26)
  have HH := Lib.hid (thead_calls (hv.below hb0) (hp.below hb0))
  have HB0 := Lib.hid hb0
  have HQ := Lib.hid h
  have HL := Lib.hid hl
  clear hv hp h hl hb0
  go_enter Tryz.func9, Tryz.ntmps9
  go_wp2_with fail
  with_reducible refine HH.out.mono ?_
  rintro e1 w1 ⟨rfl, hb1⟩
  have HB1 := Lib.hid (HB0.out.trans (hb1.mono HB0.out.size))
  have X1 := Lib.hid (HX.out.low hb1)
  have x0 := tcell_of_blk X1.out (k := 0) rfl
  have x1 := tcell_of_blk X1.out (k := 1) rfl
  have x2 := tcell_of_blk X1.out (k := 2) rfl
  have x3 := tcell_of_blk X1.out (k := 3) rfl
  have x4 := tcell_of_blk X1.out (k := 4) rfl
  have HG := Lib.hid (great_calls (w := w1) ⟨HQ.out.1.low HB1.out, HQ.out.2.low HB1.out⟩ HL.out)
  clear hb1 HH HX HB0
  go_wp2_with fail
  with_reducible refine HG.out.mono ?_
  rintro e2 w2 ⟨g, rfl, hsm, hb2⟩
  have HB2 := Lib.hid (HB1.out.trans (hb2.mono HB1.out.size))
  have X2 := Lib.hid (X1.out.low hb2)
  clear hb2 HG X1 x0 x1 x2 x3 x4
  cases g with
  | true =>
    clear hsm
    go_wp2
    go_ret
    exact ⟨rfl, HB2.out⟩
  | false =>
    have HS := Lib.hid (hsm rfl)
    clear hsm
    have x0 := tcell_of_blk X2.out (k := 0) rfl
    have x1 := tcell_of_blk X2.out (k := 1) rfl
    have x2 := tcell_of_blk X2.out (k := 2) rfl
    have x3 := tcell_of_blk X2.out (k := 3) rfl
    have x4 := tcell_of_blk X2.out (k := 4) rfl
    have hr := right_calls (w := w2) (p := p) (K := fun _ => False) ⟨HQ.out.1.low HB2.out, HQ.out.2.low HB2.out⟩ HS.out.bd
    obtain ⟨z, hz⟩ : ∃ z, rightQ p = z := ⟨_, rfl⟩
    rw [hz] at hr
    have HR := Lib.hid hr
    have HZ := Lib.hid hz
    clear hr hz
    go_wp2_with fail
    with_reducible refine HR.out.mono ?_
    rintro e3 w3 ⟨rfl, hb3⟩
    have HB3 := Lib.hid (HB2.out.trans (hb3.mono HB2.out.size))
    have X3 := Lib.hid (X2.out.low hb3)
    clear hb3 HR X2 x0 x1 x2 x3 x4
    cases z with
    | false =>
      go_wp2
      go_ret
      exact ⟨rfl, HB3.out⟩
    | true =>
      obtain ⟨i0, rest, hits, hname⟩ := right_first HZ.out
      obtain ⟨g, o, a2, c2, rfl, d0, d1, d2, d3, hrn⟩ := (HQ.out.1.low HB3.out).itemAt (j := 0) (i := i0) (by rw [hits]; rfl)
      have hq0 : 0 < q := by
        have := HQ.out.1.len
        rw [hits] at this
        simp at this
        omega
      have x0 := tcell_of_blk X3.out (k := 0) rfl
      have HN := Lib.hid hname
      have HV := Lib.hid ((HS.out.its i0 (by rw [hits]; exact List.mem_cons_self)).1)
      obtain ⟨v, hvv⟩ : ∃ v, i0.x = v := ⟨_, rfl⟩
      rw [hvv] at d2 HN HV
      obtain ⟨m, hm⟩ : ∃ m : Nat, t % 8 = m := ⟨(t % 8).toNat, by omega⟩
      have hm8 : m < 8 := by omega
      have hx0 := XBlk.new w3 (.int .i64 3) (.int .i64 0) (.int .i64 0) (.string ⟨#[]⟩) (.string (strB v)) (.string ⟨#[]⟩) (.slice none 0 0)
      have HI : Hid (DLp w3 (w3.alloc (.cells #[.int .i64 3, .int .i64 0, .int .i64 0, .string ⟨#[]⟩, .string (strB v), .string ⟨#[]⟩, .slice none 0 0] 38)) v 0) := ⟨xN v 0, none, 0, 0, 0, rfl, rfl, hx0, ExK.nil _ _, (Below.refl _ _).alloc (Nat.le_refl _) _, by simp⟩
      clear hits hname hrn hvv d0 d1 d3 hx0
      go_wp2
      go_loopw [8] (fun i wr => ∃ j : Nat, i = .int .i64 j ∧ j ≤ m ∧ Hid (DLp w3 wr v j)) (fun i _ => m - (RowKit.intOf i).toNat)
      case atStart => exact ⟨0, rfl, Nat.zero_le _, HI⟩
      case round =>
        obtain ⟨j, rfl, hj, HD⟩ := hrel
        obtain ⟨x, a3, n3, c3, dd, hxx, hn3, hxb, hek, hlow, hbig⟩ := HD.out
        obtain ⟨c0, c1', c2', c3', c4, c5, c6, _, _, _, _, _, _, _⟩ := hxb.all
        have HXX := Lib.hid hxx
        have HN3 := Lib.hid hn3
        have HXB := Lib.hid hxb
        have HEK := Lib.hid hek
        have HLO := Lib.hid hlow
        have HDX := Lib.hid (And.intro (xN_deep v j) (xN_size v j))
        rw [← hxx] at HDX
        clear hxx hn3 hxb hek hlow HD
        by_cases hlt : j < m
        · obtain ⟨D1, hD1⟩ : ∃ D1, deepI x = D1 := ⟨_, rfl⟩
          have hD2 : 0 ≤ D1 ∧ D1 ≤ 100 := by
            have := HDX.out.1
            omega
          have HD1 : Hid (Calls Tryz.prog 19 #[.agg #[.int .i64 x.k, .int .i64 x.v.k, .int .i64 x.v.n, .string (strB x.v.s), .string (strB x.x), .string (strB x.f), .slice a3 n3 c3]] wr fun e w' => e = .returned (.int .i64 D1) ∧ Below wr.heap.size wr w') := by
            have h := deep_calls (K := (· < w3.heap.size + 1)) (Nat.succ_pos _) (w := wr) (x := x) (a := a3) (c := c3) (d := dd) (by rw [← HN3.out]; exact HEK.out) (by have := HDX.out.2; omega)
            rw [hD1, ← HN3.out] at h
            exact h
          have HDE := Lib.hid hD1
          clear hD1
          go_wp2_with fail
          with_reducible refine HD1.out.mono ?_
          rintro e4 w5 ⟨rfl, hb5⟩
          have HB5 := Lib.hid hb5
          have hba := (Below.refl w5.heap.size w5).alloc (Nat.le_refl _) (.cells #[.int .i64 x.k, .int .i64 x.v.k, .int .i64 x.v.n, .string (strB x.v.s), .string (strB x.x), .string (strB x.f), .slice a3 n3 c3, .int .i64 3, .int .i64 0, .int .i64 0, .string ⟨#[]⟩, .string (strB v), .string ⟨#[]⟩, .slice none 0 0] 38)
          have o5 := HXB.out.keep (TFr.of_below (K := fun _ => False) hb5) id
          have o6 := o5.keep (TFr.of_below (K := fun _ => False) hba) id
          have O7 := Lib.hid (o6.setAll (.int .i64 7) (.int .i64 0) (.int .i64 0) (.string ⟨#[]⟩) (.string ⟨#[]⟩) (.string ⟨#[]⟩) (.slice (some ⟨w5.heap.size, 0, none⟩) 2 2))
          have hw5 : w3.heap.size + 1 ≤ w5.heap.size := Nat.le_trans hbig hb5.size
          have KK : Hid (ExK (· < w3.heap.size + 1) ((((((((w5.alloc (.cells #[.int .i64 x.k, .int .i64 x.v.k, .int .i64 x.v.n, .string (strB x.v.s), .string (strB x.x), .string (strB x.f), .slice a3 n3 c3, .int .i64 3, .int .i64 0, .int .i64 0, .string ⟨#[]⟩, .string (strB v), .string ⟨#[]⟩, .slice none 0 0] 38)).setCell ⟨w3.heap.size, 0, none⟩ (.int .i64 7)).setCell ⟨w3.heap.size, 1, none⟩ (.int .i64 0)).setCell ⟨w3.heap.size, 2, none⟩ (.int .i64 0)).setCell ⟨w3.heap.size, 3, none⟩ (.string ⟨#[]⟩)).setCell ⟨w3.heap.size, 4, none⟩ (.string ⟨#[]⟩)).setCell ⟨w3.heap.size, 5, none⟩ (.string ⟨#[]⟩)).setCell ⟨w3.heap.size, 6, none⟩ ((.slice (some ⟨w5.heap.size, 0, none⟩) 2 2))) (dd + 1) (.slice (some ⟨w5.heap.size, 0, none⟩) 2 2) [x, xN v 0]) := by
            have hx := HEK.out.keep (TFr.of_below (K := (· < w3.heap.size + 1)) (hb5.trans (hba.mono hb5.size)))
            have hy := (ExK.nil (· < w3.heap.size + 1) (w5.alloc (.cells #[.int .i64 x.k, .int .i64 x.v.k, .int .i64 x.v.n, .string (strB x.v.s), .string (strB x.x), .string (strB x.f), .slice a3 n3 c3, .int .i64 3, .int .i64 0, .int .i64 0, .string ⟨#[]⟩, .string (strB v), .string ⟨#[]⟩, .slice none 0 0] 38))).le (Nat.zero_le dd)
            exact (ExK.pair (x := x) (y := xN v 0) hx hy (by omega) (heap_alloc_new w5 _)).set7 (b := w3.heap.size) (Nat.lt_succ_self _) _ _ _ _ _ _ _
          have HL7 : Hid (Below w3.heap.size w3 ((((((((w5.alloc (.cells #[.int .i64 x.k, .int .i64 x.v.k, .int .i64 x.v.n, .string (strB x.v.s), .string (strB x.x), .string (strB x.f), .slice a3 n3 c3, .int .i64 3, .int .i64 0, .int .i64 0, .string ⟨#[]⟩, .string (strB v), .string ⟨#[]⟩, .slice none 0 0] 38)).setCell ⟨w3.heap.size, 0, none⟩ (.int .i64 7)).setCell ⟨w3.heap.size, 1, none⟩ (.int .i64 0)).setCell ⟨w3.heap.size, 2, none⟩ (.int .i64 0)).setCell ⟨w3.heap.size, 3, none⟩ (.string ⟨#[]⟩)).setCell ⟨w3.heap.size, 4, none⟩ (.string ⟨#[]⟩)).setCell ⟨w3.heap.size, 5, none⟩ (.string ⟨#[]⟩)).setCell ⟨w3.heap.size, 6, none⟩ ((.slice (some ⟨w5.heap.size, 0, none⟩) 2 2)))) := by
            have h := HLO.out.trans ((hb5.trans (hba.mono hb5.size)).mono HLO.out.size)
            exact ((((((h.setCell (p := ⟨w3.heap.size, 0, none⟩) (Nat.le_refl _) _).setCell (p := ⟨w3.heap.size, 1, none⟩) (Nat.le_refl _) _).setCell (p := ⟨w3.heap.size, 2, none⟩) (Nat.le_refl _) _).setCell (p := ⟨w3.heap.size, 3, none⟩) (Nat.le_refl _) _).setCell (p := ⟨w3.heap.size, 4, none⟩) (Nat.le_refl _) _).setCell (p := ⟨w3.heap.size, 5, none⟩) (Nat.le_refl _) _).setCell (p := ⟨w3.heap.size, 6, none⟩) (Nat.le_refl _) _
          have HSZ : Hid (w3.heap.size + 1 ≤ ((((((((w5.alloc (.cells #[.int .i64 x.k, .int .i64 x.v.k, .int .i64 x.v.n, .string (strB x.v.s), .string (strB x.x), .string (strB x.f), .slice a3 n3 c3, .int .i64 3, .int .i64 0, .int .i64 0, .string ⟨#[]⟩, .string (strB v), .string ⟨#[]⟩, .slice none 0 0] 38)).setCell ⟨w3.heap.size, 0, none⟩ (.int .i64 7)).setCell ⟨w3.heap.size, 1, none⟩ (.int .i64 0)).setCell ⟨w3.heap.size, 2, none⟩ (.int .i64 0)).setCell ⟨w3.heap.size, 3, none⟩ (.string ⟨#[]⟩)).setCell ⟨w3.heap.size, 4, none⟩ (.string ⟨#[]⟩)).setCell ⟨w3.heap.size, 5, none⟩ (.string ⟨#[]⟩)).setCell ⟨w3.heap.size, 6, none⟩ ((.slice (some ⟨w5.heap.size, 0, none⟩) 2 2))).heap.size) := by
            have := hba.size
            show _ ≤ _
            simp
            omega
          have HD2 : Hid (Calls Tryz.prog 19 #[.agg #[.int .i64 7, .int .i64 0, .int .i64 0, .string ⟨#[]⟩, .string ⟨#[]⟩, .string ⟨#[]⟩, (.slice (some ⟨w5.heap.size, 0, none⟩) 2 2)]] ((((((((w5.alloc (.cells #[.int .i64 x.k, .int .i64 x.v.k, .int .i64 x.v.n, .string (strB x.v.s), .string (strB x.x), .string (strB x.f), .slice a3 n3 c3, .int .i64 3, .int .i64 0, .int .i64 0, .string ⟨#[]⟩, .string (strB v), .string ⟨#[]⟩, .slice none 0 0] 38)).setCell ⟨w3.heap.size, 0, none⟩ (.int .i64 7)).setCell ⟨w3.heap.size, 1, none⟩ (.int .i64 0)).setCell ⟨w3.heap.size, 2, none⟩ (.int .i64 0)).setCell ⟨w3.heap.size, 3, none⟩ (.string ⟨#[]⟩)).setCell ⟨w3.heap.size, 4, none⟩ (.string ⟨#[]⟩)).setCell ⟨w3.heap.size, 5, none⟩ (.string ⟨#[]⟩)).setCell ⟨w3.heap.size, 6, none⟩ ((.slice (some ⟨w5.heap.size, 0, none⟩) 2 2))) fun e w' => e = .returned (.int .i64 (D1 + 1)) ∧ Below ((((((((w5.alloc (.cells #[.int .i64 x.k, .int .i64 x.v.k, .int .i64 x.v.n, .string (strB x.v.s), .string (strB x.x), .string (strB x.f), .slice a3 n3 c3, .int .i64 3, .int .i64 0, .int .i64 0, .string ⟨#[]⟩, .string (strB v), .string ⟨#[]⟩, .slice none 0 0] 38)).setCell ⟨w3.heap.size, 0, none⟩ (.int .i64 7)).setCell ⟨w3.heap.size, 1, none⟩ (.int .i64 0)).setCell ⟨w3.heap.size, 2, none⟩ (.int .i64 0)).setCell ⟨w3.heap.size, 3, none⟩ (.string ⟨#[]⟩)).setCell ⟨w3.heap.size, 4, none⟩ (.string ⟨#[]⟩)).setCell ⟨w3.heap.size, 5, none⟩ (.string ⟨#[]⟩)).setCell ⟨w3.heap.size, 6, none⟩ ((.slice (some ⟨w5.heap.size, 0, none⟩) 2 2))).heap.size ((((((((w5.alloc (.cells #[.int .i64 x.k, .int .i64 x.v.k, .int .i64 x.v.n, .string (strB x.v.s), .string (strB x.x), .string (strB x.f), .slice a3 n3 c3, .int .i64 3, .int .i64 0, .int .i64 0, .string ⟨#[]⟩, .string (strB v), .string ⟨#[]⟩, .slice none 0 0] 38)).setCell ⟨w3.heap.size, 0, none⟩ (.int .i64 7)).setCell ⟨w3.heap.size, 1, none⟩ (.int .i64 0)).setCell ⟨w3.heap.size, 2, none⟩ (.int .i64 0)).setCell ⟨w3.heap.size, 3, none⟩ (.string ⟨#[]⟩)).setCell ⟨w3.heap.size, 4, none⟩ (.string ⟨#[]⟩)).setCell ⟨w3.heap.size, 5, none⟩ (.string ⟨#[]⟩)).setCell ⟨w3.heap.size, 6, none⟩ ((.slice (some ⟨w5.heap.size, 0, none⟩) 2 2))) w') := by
            have h := deep_calls (K := (· < w3.heap.size + 1)) (Nat.succ_pos _) (x := xN v (j + 1)) (a := some ⟨w5.heap.size, 0, none⟩) (c := 2) (d := dd + 1) (by rw [xN]; rw [← HXX.out]; exact KK.out) (by rw [xN_size]; omega)
            rw [xN_deep] at h
            have hDe : ((j + 1 : Nat) : Int) + 1 = D1 + 1 := by
              have h1 := HDX.out.1
              rw [HDE.out] at h1
              omega
            rw [hDe] at h
            exact h
          obtain ⟨e0, e1', e2', e3', e4', e5, e6, f0, f1, f2, f3, f4, f5, f6⟩ := o6.all
          obtain ⟨b0, b1, b2, b3, b4, b5, b6, _, _, _, _, _, _, _⟩ := o5.all
          obtain ⟨y0, y1, y2, y3, y4, y5, y6, _, _, _, _, _, _, _⟩ := O7.out.all
          clear hb5 hba o5 o6 HD1
          go_wp2_with fail
          with_reducible refine HD2.out.mono ?_
          rintro e5 w8 ⟨rfl, hb8⟩
          have HDN : Hid (DLp w3 w8 v (j + 1)) := ⟨xN v (j + 1), some ⟨w5.heap.size, 0, none⟩, 2, 2, dd + 1, rfl, rfl, O7.out.keep (TFr.of_below (K := fun _ => False) hb8) id, by rw [xN, ← HXX.out]; exact KK.out.keep (TFr.of_below (K := (· < w3.heap.size + 1)) hb8), HL7.out.trans (hb8.mono HL7.out.size), Nat.le_trans HSZ.out hb8.size⟩
          clear hb8 HD2 KK O7 HL7 HSZ e0 e1' e2' e3' e4' e5 e6 f0 f1 f2 f3 f4 f5 f6 y0 y1 y2 y3 y4 y5 y6 b0 b1 b2 b3 b4 b5 b6
          go_wp2
          go_round
          case rel => exact ⟨j + 1, by go_num, by omega, HDN⟩
          case measure => simp [RowKit.intOf]; omega
        · have hjm : j = m := by omega
          subst hjm
          have X4 := X3.out.low HLO.out
          have x0 := tcell_of_blk X4 (k := 0) rfl
          have x1 := tcell_of_blk X4 (k := 1) rfl
          have x2 := tcell_of_blk X4 (k := 2) rfl
          have x3 := tcell_of_blk X4 (k := 3) rfl
          have x4 := tcell_of_blk X4 (k := 4) rfl
          have hb1 := (Below.refl wr.heap.size wr).alloc (Nat.le_refl _) (.cells #[.slice (some ⟨g, o, none⟩) q c, .slice b r e, .int .i64 p.within, .string (strB p.by_), .int .i64 p.pick] 26)
          have hb2 := (Below.refl wr.heap.size wr).alloc (Nat.le_refl _) (.cells #[.slice (some ⟨g, o, none⟩) q c, .slice (some ⟨wr.heap.size + 1, 0, none⟩) 1 1, .int .i64 p.within, .string (strB p.by_), .int .i64 p.pick] 26)
          have hb3 := hb2.alloc hb2.size (.cells #[.int .i64 1, .int .i64 x.k, .int .i64 x.v.k, .int .i64 x.v.n, .string (strB x.v.s), .string (strB x.x), .string (strB x.f), .slice a3 n3 c3, .int .i64 x.k, .int .i64 x.v.k, .int .i64 x.v.n, .string (strB x.v.s), .string (strB x.x), .string (strB x.f), .slice a3 n3 c3] 40)
          obtain ⟨v0, v1, v2, v3, v4, v5, v6, _, _, _, _, _, _, _⟩ := (HXB.out.keep (TFr.of_below (K := fun _ => False) hb1) id).all
          have X5 := X4.low hb1
          have fz := (Blk.new wr #[.slice (some ⟨g, o, none⟩) q c, .slice b r e, .int .i64 p.within, .string (strB p.by_), .int .i64 p.pick] 26)
          have HBE := Lib.hid ((HB3.out.trans (HLO.out.mono HB3.out.size)).trans (hb3.mono (Nat.le_trans HB3.out.size HLO.out.size)))
          have hrow : RowK predD (fun _ => False) ((wr.alloc (.cells #[.slice (some ⟨g, o, none⟩) q c, .slice (some ⟨wr.heap.size + 1, 0, none⟩) 1 1, .int .i64 p.within, .string (strB p.by_), .int .i64 p.pick] 26)).alloc (.cells #[.int .i64 1, .int .i64 x.k, .int .i64 x.v.k, .int .i64 x.v.n, .string (strB x.v.s), .string (strB x.x), .string (strB x.f), .slice a3 n3 c3, .int .i64 x.k, .int .i64 x.v.k, .int .i64 x.v.n, .string (strB x.v.s), .string (strB x.x), .string (strB x.f), .slice a3 n3 c3] 40)) (.slice (some ⟨wr.heap.size + 1, 0, none⟩) 1 1) [⟨x, 1, x⟩] := by
            refine ⟨_, _, rfl, Nat.le_refl _, fun i z hi => ?_⟩
            obtain ⟨rfl, rfl⟩ : i = 0 ∧ (⟨x, 1, x⟩ : PPr) = z := by
              cases i with
              | zero => exact ⟨rfl, by simpa using hi⟩
              | succ i => simp at hi
            have hk := ((HEK.out.keep (TFr.of_below (K := (· < w3.heap.size + 1)) hb3)).mono (K' := fun _ => False) (fun _ h => h.elim))
            refine ⟨wr.heap.size + 1, 0, #[.int .i64 1, .int .i64 x.k, .int .i64 x.v.k, .int .i64 x.v.n, .string (strB x.v.s), .string (strB x.x), .string (strB x.f), .slice a3 n3 c3, .int .i64 x.k, .int .i64 x.v.k, .int .i64 x.v.n, .string (strB x.v.s), .string (strB x.x), .string (strB x.f), .slice a3 n3 c3].toList, rfl, fun h => h, ⟨a3, n3, c3, a3, n3, c3, dd, rfl, hk, hk⟩, fun rr u hu => ?_⟩
            have hblk : ((wr.alloc (.cells #[.slice (some ⟨g, o, none⟩) q c, .slice (some ⟨wr.heap.size + 1, 0, none⟩) 1 1, .int .i64 p.within, .string (strB p.by_), .int .i64 p.pick] 26)).alloc (.cells #[.int .i64 1, .int .i64 x.k, .int .i64 x.v.k, .int .i64 x.v.n, .string (strB x.v.s), .string (strB x.x), .string (strB x.f), .slice a3 n3 c3, .int .i64 x.k, .int .i64 x.v.k, .int .i64 x.v.n, .string (strB x.v.s), .string (strB x.x), .string (strB x.f), .slice a3 n3 c3] 40)).heap[wr.heap.size + 1]? = some (.cells #[.int .i64 1, .int .i64 x.k, .int .i64 x.v.k, .int .i64 x.v.n, .string (strB x.v.s), .string (strB x.x), .string (strB x.f), .slice a3 n3 c3, .int .i64 x.k, .int .i64 x.v.k, .int .i64 x.v.n, .string (strB x.v.s), .string (strB x.x), .string (strB x.f), .slice a3 n3 c3] 40 (0, 0)) := by
              have h1 := heap_alloc_new (wr.alloc (.cells #[.slice (some ⟨g, o, none⟩) q c, .slice (some ⟨wr.heap.size + 1, 0, none⟩) 1 1, .int .i64 p.within, .string (strB p.by_), .int .i64 p.pick] 26)) (.cells #[.int .i64 1, .int .i64 x.k, .int .i64 x.v.k, .int .i64 x.v.n, .string (strB x.v.s), .string (strB x.x), .string (strB x.f), .slice a3 n3 c3, .int .i64 x.k, .int .i64 x.v.k, .int .i64 x.v.n, .string (strB x.v.s), .string (strB x.x), .string (strB x.f), .slice a3 n3 c3] 40)
              have h2 : (wr.alloc (.cells #[.slice (some ⟨g, o, none⟩) q c, .slice (some ⟨wr.heap.size + 1, 0, none⟩) 1 1, .int .i64 p.within, .string (strB p.by_), .int .i64 p.pick] 26)).heap.size = wr.heap.size + 1 := by simp
              rw [h2] at h1
              exact h1
            simp only [Nat.zero_mul, Nat.zero_add]
            exact tcell_of_blk hblk (by rw [← Array.getElem?_toList]; exact hu)
          have hright := right_calls (p := withX p x) (K := fun _ => False) (w := ((wr.alloc (.cells #[.slice (some ⟨g, o, none⟩) q c, .slice (some ⟨wr.heap.size + 1, 0, none⟩) 1 1, .int .i64 p.within, .string (strB p.by_), .int .i64 p.pick] 26)).alloc (.cells #[.int .i64 1, .int .i64 x.k, .int .i64 x.v.k, .int .i64 x.v.n, .string (strB x.v.s), .string (strB x.x), .string (strB x.f), .slice a3 n3 c3, .int .i64 x.k, .int .i64 x.v.k, .int .i64 x.v.n, .string (strB x.v.s), .string (strB x.x), .string (strB x.f), .slice a3 n3 c3] 40))) (a := some ⟨g, o, none⟩) (q := q) (c := c) (b := some ⟨wr.heap.size + 1, 0, none⟩) (r := 1) (d := 1) ⟨HQ.out.1.low HBE.out, hrow⟩ ⟨fun i hi => HS.out.bd.1 i hi, fun y hy => (by
            rw [List.mem_singleton.1 hy]
            have hxbd : XBd x := by
              rw [HXX.out]
              exact xN_bd (by have := HV.out; omega) j
            exact ⟨hxbd, hxbd⟩), HS.out.bd.2.2⟩
          have hval : rightQ (withX p x) = decide (j < 6) := by
            rw [HXX.out]
            exact withX_right HZ.out HN.out j
          rw [hval] at hright
          have HRI : Hid (Calls Tryz.prog 21 #[.agg #[.slice (some ⟨g, o, none⟩) q c, .slice (some ⟨wr.heap.size + 1, 0, none⟩) 1 1, .int .i64 p.within, .string (strB p.by_), .int .i64 p.pick]] ((wr.alloc (.cells #[.slice (some ⟨g, o, none⟩) q c, .slice (some ⟨wr.heap.size + 1, 0, none⟩) 1 1, .int .i64 p.within, .string (strB p.by_), .int .i64 p.pick] 26)).alloc (.cells #[.int .i64 1, .int .i64 x.k, .int .i64 x.v.k, .int .i64 x.v.n, .string (strB x.v.s), .string (strB x.x), .string (strB x.f), .slice a3 n3 c3, .int .i64 x.k, .int .i64 x.v.k, .int .i64 x.v.n, .string (strB x.v.s), .string (strB x.x), .string (strB x.f), .slice a3 n3 c3] 40)) fun e9 w' => e9 = .returned (.bool (decide (j < 6))) ∧ Below ((wr.alloc (.cells #[.slice (some ⟨g, o, none⟩) q c, .slice (some ⟨wr.heap.size + 1, 0, none⟩) 1 1, .int .i64 p.within, .string (strB p.by_), .int .i64 p.pick] 26)).alloc (.cells #[.int .i64 1, .int .i64 x.k, .int .i64 x.v.k, .int .i64 x.v.n, .string (strB x.v.s), .string (strB x.x), .string (strB x.f), .slice a3 n3 c3, .int .i64 x.k, .int .i64 x.v.k, .int .i64 x.v.n, .string (strB x.v.s), .string (strB x.x), .string (strB x.f), .slice a3 n3 c3] 40)).heap.size ((wr.alloc (.cells #[.slice (some ⟨g, o, none⟩) q c, .slice (some ⟨wr.heap.size + 1, 0, none⟩) 1 1, .int .i64 p.within, .string (strB p.by_), .int .i64 p.pick] 26)).alloc (.cells #[.int .i64 1, .int .i64 x.k, .int .i64 x.v.k, .int .i64 x.v.n, .string (strB x.v.s), .string (strB x.x), .string (strB x.f), .slice a3 n3 c3, .int .i64 x.k, .int .i64 x.v.k, .int .i64 x.v.n, .string (strB x.v.s), .string (strB x.x), .string (strB x.f), .slice a3 n3 c3] 40)) w') := hright
          clear hright hval hrow X4 hb1 hb2 hb3 HN3 HXB HEK HXX HDX
          go_wp2_with fail
          with_reducible refine HRI.out.mono ?_
          rintro e6 w9 ⟨rfl, hb9⟩
          have HB9 := Lib.hid (HBE.out.trans (hb9.mono HBE.out.size))
          clear hb9 HRI
          by_cases hm6 : j < 6
          · have t1 : decide (j < 6) = true := decide_eq_true hm6
            have t2 : decide ((j : Int) + 1 ≤ 6) = true := decide_eq_true (by omega)
            rw [t1]
            go_wp2
            go_ret
            exact ⟨rfl, HB9.out⟩
          · have t1 : decide (j < 6) = false := decide_eq_false hm6
            have t2 : decide ((j : Int) + 1 ≤ 6) = false := decide_eq_false (by omega)
            rw [t1]
            go_wp2
            go_ret
            exact ⟨rfl, HB9.out⟩
end Go.Proofs.YtndmbljpfpnehaaGreatDoor
namespace Go.Proofs.YtndmbljpfpnehaaGreatDoor
open Go.ChangeShapes Go.WideShapes Go.ChangeAt Go.RowKit Go.Lib Go.Joins

theorem xown_ : ownKnob Tryz.prog.godebug = none := by kernel_rfl
theorem xlaidOut : laidOutB Tryz.prog = true := by kernel_rfl
theorem ytTab : (Tryz.prog.globals[2]?).map (·.type) = some 225 := by kernel_rfl
theorem ytSyn : (Tryz.prog.globals[3]?).map (·.type) = some 109 := by kernel_rfl
theorem ytRan : (Tryz.prog.globals[4]?).map (·.type) = some 109 := by kernel_rfl
theorem ytTru : (Tryz.prog.globals[1]?).map (·.type) = some 222 := by kernel_rfl
theorem ygTru : Tryz.prog.globalNamed "augury/tree.truths" = some 1 := by kernel_rfl

def laidX {H : Type} : List (String × DataW H) := [("math/bits.deBruijn32tab", Rows.laid_math_bits_deBruijn32tab), ("math/bits.deBruijn64tab", Rows.laid_math_bits_deBruijn64tab), ("internal/strconv.uint64pow10", Rows.laid_internal_strconv_uint64pow10), ("strconv.ErrRange", Rows.laid_strconv_ErrRange), ("strconv.ErrSyntax", Rows.laid_strconv_ErrSyntax), ("augury/tree.truths", Rows.laid_augury_tree_truths)]

set_option maxRecDepth 100000 in
/-- The door's own heap meets the condition. -/
theorem xdoor_met (os : Os) (args : Array Value) : laidMetH Tryz.prog laidX ((World.doorLaid Tryz.prog 74 os).forCall (fun _ _ => 0) ⟨#[], args, []⟩).memory :=
  laidMetH_of_parts3 (fuel := 8) (laidMet_of_run' 8 (by kernel_rfl) (by kernel_rfl)) (by kernel_rfl) (by kernel_rfl)

section
variable {H : Type} {enc : TypeId × Value → H} {P : Program} {w : World} {base : Nat} {sp : Nat → Bool} {held : Bool}
theorem array_at {fuel : Nat} {t e : TypeId} {n m : Nat} {cs : List Value} {ds : List (DataW H)} {p : List MemPlace} (ht : P.underlying t = some (.array n e)) (hce : P.cellsOf e = m)
    (h : DataW.trod enc P w base sp held fuel t cs = some (.agg ds, p)) : ∀ i d, ds[i]? = some d → ∃ f q, DataW.trod enc P w base sp held f e ((cs.drop (i * m)).take m) = some (d, q) := by
  obtain ⟨xs, f, _, hx, hlen, hn, hel⟩ := DataW.trod_array ht h
  intro i d hd
  have hds : ds = xs.map (·.1) := by
    have := congrArg Prod.fst hx
    simpa using this
  rw [hds, List.getElem?_map] at hd
  obtain ⟨x, hx1, rfl⟩ := Option.map_eq_some_iff.1 hd
  have hin : i < n := by rw [← hn]; exact (List.getElem?_eq_some_iff.1 hx1).1
  have h1 := hel i hin
  rw [hce] at h1
  refine ⟨f, x.2, ?_⟩
  rw [h1, hx1]
theorem str_at {fuel : Nat} {t : TypeId} {cs : List Value} {b : List UInt8} {p : List MemPlace} (ht : P.underlying t = some .string) (h : DataW.trod enc P w base sp held fuel t cs = some (.lit (.string b), p)) : cs = [.string (strB b)] := by
  obtain ⟨s, rfl, hx, _⟩ := DataW.trod_string ht h
  simp only [Prod.mk.injEq, DataW.lit.injEq, Lit.string.injEq] at hx
  have e : strB s.data.toList = s := by
    apply ByteArray.ext
    simp [strB]
  rw [hx.1, e]
end

set_option maxRecDepth 100000 in
theorem vars_of_laid {W : World} (h : laidMetH Tryz.prog laidX W) : TVars W ∧ PVars W := by
  rw [MakeChecks.laidMetH_plain _ _ _ (by kernel_rfl)] at h
  obtain ⟨ps, ⟨g0, t0, cs0, f0, p0, q0, hg0, ht0, hv0, hd0, ⟨g1, t1, cs1, f1, p1, q1, hg1, ht1, hv1, hd1, ⟨g2, t2, cs2, f2, p2, q2, hg2, ht2, hv2, hd2, ⟨g3, t3, cs3, f3, p3, q3, hg3, ht3, hv3, hd3, ⟨g4, t4, cs4, f4, p4, q4, hg4, ht4, hv4, hd4, ⟨g5, t5, cs5, f5, p5, q5, hg5, ht5, hv5, hd5, _, _⟩, _⟩, _⟩, _⟩, _⟩, _⟩, _⟩ := h
  obtain rfl := Option.some.inj (tgTab.symm.trans hg2)
  obtain rfl := Option.some.inj (xgRan.symm.trans hg3)
  obtain rfl := Option.some.inj (xgSyn.symm.trans hg4)
  obtain rfl := Option.some.inj (ygTru.symm.trans hg5)
  obtain rfl := Option.some.inj (ytTab.symm.trans ht2)
  obtain rfl := Option.some.inj (ytRan.symm.trans ht3)
  obtain rfl := Option.some.inj (ytSyn.symm.trans ht4)
  obtain rfl := Option.some.inj (ytTru.symm.trans ht5)
  have e2 := cells_of_tab (zs := pow10Tab) Tryz.underlying225 Tryz.underlying183 (by kernel_rfl) (by kernel_rfl) hd2
  obtain ⟨l3⟩ := cs3
  obtain ⟨l4⟩ := cs4
  obtain ⟨_, u3, v3, e3, _, _⟩ := iface_of_trod Tryz.underlying109 hd3
  obtain ⟨_, u4, v4, e4, _, _⟩ := iface_of_trod Tryz.underlying109 hd4
  have e3' : l3 = [.iface u3 v3] := e3
  have e4' : l4 = [.iface u4 v4] := e4
  subst e3' e4'
  have c1 : Tryz.prog.cellsOf 9 = 1 := by kernel_rfl
  have key : ∀ (i : Nat) (b : List UInt8), ((match (Rows.laid_augury_tree_truths (H := Unit)) with | .agg l => l | _ => [])[i]? = some (.lit (.string b))) → W.cell? ⟨1, i, none⟩ = some (.string (strB b)) := by
    intro i b hi
    obtain ⟨f, q, h1⟩ := array_at Tryz.underlying222 c1 hd5 i _ hi
    have h4 := str_at Tryz.underlying9 h1
    have h5 := World.var?_cell ygTru hv5 i
    rw [h5]
    have h6 := congrArg (·[0]?) h4
    simp only [Nat.mul_one, List.getElem?_take, List.getElem?_drop, List.getElem?_cons_zero] at h6
    simpa using h6
  have k0 := key 0 _ rfl
  have k1 := key 1 _ rfl
  refine ⟨⟨⟨⟨u4, v4, hv4⟩, ⟨u3, v3, hv3⟩⟩, k0, k1⟩, ?_, k0, k1⟩
  unfold TabIs
  rw [hv2]
  congr 1
  apply Array.ext'
  rw [e2]
end Go.Proofs.YtndmbljpfpnehaaGreatDoor
namespace Go.Proofs.YtndmbljpfpnehaaGreatDoor
end Go.Proofs.YtndmbljpfpnehaaGreatDoor

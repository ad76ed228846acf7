/- Queries: expressions. | Queries: brackets, terms. | Queries: terms. | Queries: rows of one's own, of elements that have memory of their own. -/
import Derived.Test.YtifacoompbngaaaGreatDoorM1
import Derived.Test.YtifacoompbngaaaGreatDoorL5x
namespace Go.Proofs.YtifacoompbngaaaGreatDoor
open Go.RowKit Go.Lib Go.Op

/-- What is left, as the reader's block says it. -/
def leftN (R : Nat) (w : World) : Nat := match w.cell? ⟨R, 0, none⟩ with
  | some (.slice _ n _) => n
  | _ => 0
theorem leftN_is {w : World} {R T E : Nat} {s : RS} (h : RdR w R T E s) : leftN R w = s.l.length := by
  obtain ⟨a, c, h⟩ := h
  unfold leftN
  rw [h.c0]

theorem ExK.ne {K : Nat → Prop} {w : World} {b : Nat} (hb : w.heap.size ≤ b) : ∀ {d : Nat} {kv : Value} {ks : List PEx}, ExK K w d kv ks → ExK (fun g => K g ∨ g = b) w d kv ks
  | 0, _, _, h => h
  | d + 1, kv, ks, ⟨a, c, e, h⟩ => ⟨a, c, e, fun j x hj => by
    obtain ⟨g, o, kv', ea, hg, hc, hk⟩ := h j x hj
    have hlt := World.block_lt_of_cell? _ _ hc.1
    exact ⟨g, o, kv', ea, ⟨fun hn => hn.elim hg.1 (fun e => by have : g < w.heap.size := hlt; omega), fun z => z.elim hg.2 (fun e => by have : g < w.heap.size := hlt; omega)⟩, hc, ExK.ne hb hk⟩⟩
/-- Two in a row, as the Kids of an expression. -/
theorem ExK.pair {K : Nat → Prop} {w : World} {d : Nat} {x y : PEx} {kx ky : Value} (hx : ExK K w d kx x.ks) (hy : ExK K w d ky y.ks) {g : Nat} (hg : ¬ K g) (h : w.heap[g]? = some (.cells #[.int .i64 x.k, .int .i64 x.v.k, .int .i64 x.v.n, .string (strB x.v.s), .string (strB x.x), .string (strB x.f), kx, .int .i64 y.k, .int .i64 y.v.k, .int .i64 y.v.n, .string (strB y.v.s), .string (strB y.x), .string (strB y.f), ky] 38 (0, 0))) :
    ExK K w (d + 1) (.slice (some ⟨g, 0, none⟩) 2 2) [x, y] := by
  refine ⟨_, _, rfl, fun j z hj => ?_⟩
  match j, hj with
  | 0, hj =>
    obtain rfl : x = z := by simpa using hj
    exact ⟨g, 0, kx, rfl, ⟨hg, fun _ => ⟨_, _, h⟩⟩, ⟨tcell_of_blk h rfl, tcell_of_blk h rfl, tcell_of_blk h rfl, tcell_of_blk h rfl, tcell_of_blk h rfl, tcell_of_blk h rfl, tcell_of_blk h rfl⟩, hx⟩
  | 1, hj =>
    obtain rfl : y = z := by simpa using hj
    exact ⟨g, 0, ky, rfl, ⟨hg, fun _ => ⟨_, _, h⟩⟩, ⟨tcell_of_blk h rfl, tcell_of_blk h rfl, tcell_of_blk h rfl, tcell_of_blk h rfl, tcell_of_blk h rfl, tcell_of_blk h rfl, tcell_of_blk h rfl⟩, hy⟩
  | n + 2, hj => simp at hj

theorem xexV (x : PEx) (kv : Value) : exV x kv = .agg #[.int .i64 x.k, .int .i64 x.v.k, .int .i64 x.v.n, .string (strB x.v.s), .string (strB x.x), .string (strB x.f), kv] := rfl

/-- What is held in a round of expr: x is read so far, with its Kids; what comes of all, is z. -/
structure ExIn (R T E B b2 b3 M : Nat) (tm : RS → PEx × RS) (z : PEx × RS) (w wr : World) (n : Nat) (x : PEx) (s : RS) (d : Nat) (a : Option Addr) (m c : Nat) : Prop where
  res : XBlk wr b2 (.int .i64 0) (.int .i64 0) (.int .i64 0) (.string ⟨#[]⟩) (.string ⟨#[]⟩) (.string ⟨#[]⟩) (.slice none 0 0)
  own : XBlk wr b3 (.int .i64 x.k) (.int .i64 x.v.k) (.int .i64 x.v.n) (.string (strB x.v.s)) (.string (strB x.x)) (.string (strB x.f)) (.slice a m c)
  kids : ExK (fun g => g < B ∨ g = b3) wr d (.slice a m c) x.ks
  rt : RdTo R T E s w wr
  is : sumsT E tm n x s = z
  len : s.l.length ≤ n ∧ s.l.length ≤ M
  ok : DeepOk s
  b2 : w.heap.size ≤ b2 ∧ b2 < B
  b3 : B ≤ b3
  big : B ≤ wr.heap.size

theorem amongT_nil {E : Nat} {s : RS} {k : Nat} (hk : k ≠ 0) (hs : s.l = []) (l : List (List UInt8)) (n : Nat) : amongT E s k n l = (0, s) := amongT_none k l n (fun b _ => by
  unfold isT nextT
  rw [hs]
  simp
  intro e
  exact absurd e.symm hk)
theorem sumsT_end {E : Nat} {tm : RS → PEx × RS} {n : Nat} {x : PEx} {s : RS} (h : (amongT E s 4 0 sumsL).1 = 0) (hn : s.l.length ≤ n) : sumsT E tm n x s = (x, (amongT E s 4 0 sumsL).2) := by
  cases n with
  | zero =>
    have hs : s.l = [] := List.eq_nil_of_length_eq_zero (by omega)
    rw [amongT_nil (by decide) hs]
    rfl
  | succ n => rw [sumsT, if_pos h]
theorem sumsT_more {E : Nat} {tm : RS → PEx × RS} {n : Nat} {x : PEx} {s : RS} (h : (amongT E s 4 0 sumsL).1 ≠ 0) : sumsT E tm (n + 1) x s = sumsT E tm n (.mk ((amongT E s 4 0 sumsL).1 : Int) noV [] [] [x, (tm (amongT E s 4 0 sumsL).2).1]) (tm (amongT E s 4 0 sumsL).2).2 := by
  rw [sumsT, if_neg h]

theorem ExTo.plain {R T E : Nat} {p : PEx × RS} {x : PEx} {s : RS} (hp : p = (x, s)) {f : Nat} {v : Array Value} {w : World} (h : Calls Tryz.prog f v w (ExTo R T E p w)) : Calls Tryz.prog f v w fun e w' => ∃ kv d, e = .returned (exV x kv) ∧ ExK (· < w.heap.size) w' d kv x.ks ∧ RdTo R T E s w w' := by
  subst hp
  exact h
set_option maxHeartbeats 1000000 in
set_option maxRecDepth 100000 in
theorem expr_calls {w : World} {R T E : Nat} {s : RS} {tm : RS → PEx × RS} {m n : Nat} (hterm : ∀ (w : World) (s : RS), RdR w R T E s → DeepOk s → s.l.length ≤ m → Calls Tryz.prog 240 #[.pointer (some ⟨R, 0, none⟩)] w (ExTo R T E (tm s) w))
    (hle : ∀ s, (tm s).2.l.length ≤ s.l.length) (hdp : ∀ s, (tm s).2.deep = s.deep) (h : RdR w R T E s) (hok : DeepOk s) (hm : s.l.length ≤ m) (hn : s.l.length ≤ n) : Calls Tryz.prog 184 #[.pointer (some ⟨R, 0, none⟩)] w (ExTo R T E (exprT E tm n s) w) := by
  have hR := h.lt
  obtain ⟨z, hz⟩ : ∃ z, exprT E tm n s = z := ⟨_, rfl⟩
  rw [hz]
  have hb0 := (Below.refl w.heap.size w).alloc (Nat.le_refl _) (.cells #[.int .i64 0, .int .i64 0, .int .i64 0, .string ⟨#[]⟩, .string ⟨#[]⟩, .string ⟨#[]⟩, .slice none 0 0] 38)
  have hx2 := XBlk.new w (.int .i64 0) (.int .i64 0) (.int .i64 0) (.string ⟨#[]⟩) (.string ⟨#[]⟩) (.string ⟨#[]⟩) (.slice none 0 0)
  obtain ⟨⟨x1, s1⟩, hxs⟩ : ∃ z, tm s = z := ⟨_, rfl⟩
  have HT := Lib.hid (ExTo.plain hxs (hterm _ s (h.keep hb0) hok hm))
  have HB0 := Lib.hid hb0
  have HX2 := Lib.hid hx2
  have HTM := Lib.hid hterm
  have hsz0 : (w.alloc (.cells #[.int .i64 0, .int .i64 0, .int .i64 0, .string ⟨#[]⟩, .string ⟨#[]⟩, .string ⟨#[]⟩, .slice none 0 0] 38)).heap.size = w.heap.size + 1 := by simp
  clear h hb0 hx2 hterm
  go_enter Tryz.func184, Tryz.ntmps184
  go_wp2_with fail
  with_reducible refine HT.out.mono ?_
  rintro e w1 ⟨kv, d, rfl, hkv, hd1⟩
  have hz1 : sumsT E tm n x1 s1 = z := by rw [← hz]; unfold exprT; rw [hxs]
  have hl1 := hle s
  have hp1 := hdp s
  rw [hxs] at hl1 hp1
  obtain ⟨a1, m1, rfl⟩ := hkv.slice
  obtain ⟨q1, hq1⟩ : ∃ q, x1.ks.length = q := ⟨_, rfl⟩
  have hkids := hkv
  rw [hq1] at hkids ⊢
  dsimp only at hl1 hp1
  have hbz := hd1.fr.size
  rw [hsz0] at hbz
  have HI : Hid (ExIn R T E (w.heap.size + 1) w.heap.size w1.heap.size m tm z w (w1.alloc (.cells #[.int .i64 x1.k, .int .i64 x1.v.k, .int .i64 x1.v.n, .string (strB x1.v.s), .string (strB x1.x), .string (strB x1.f), .slice a1 q1 m1] 38)) n x1 s1 d a1 q1 m1) := by
    have hb1 := (Below.refl w1.heap.size w1).alloc (Nat.le_refl _) (.cells #[.int .i64 x1.k, .int .i64 x1.v.k, .int .i64 x1.v.n, .string (strB x1.v.s), .string (strB x1.x), .string (strB x1.f), .slice a1 q1 m1] 38)
    refine ⟨(HX2.out.keep hd1.fr (by omega)).keep (TFr.of_below (K := fun _ => False) hb1) id, XBlk.new _ _ _ _ _ _ _ _, ?_, (RdTo.after HB0.out hd1).then hb1, hz1, ⟨by omega, by omega⟩, hok.le hp1 hl1, ⟨Nat.le_refl _, by omega⟩, hbz, ?_⟩
    · rw [hsz0] at hkids
      exact (ExK.ne (Nat.le_refl _) hkids).keepR (TFr.of_below (K := (· = R)) hb1) (.inl (by omega))
    · have := hb1.size
      omega
  clear hz1 hl1 hp1 hd1 hkv hkids hxs hq1 hz HX2 HB0
  simp only [xexV]
  go_wp2
  go_loopw [4] (fun _ wr => ∃ (n : Nat) (x : PEx) (s : RS) (d : Nat) (a : Option Addr) (q c : Nat), Hid (ExIn R T E (w.heap.size + 1) w.heap.size w1.heap.size m tm z w wr n x s d a q c)) (fun _ wr => leftN R wr)
  case atStart => exact ⟨n, x1, s1, d, a1, q1, m1, HI⟩
  case round =>
    obtain ⟨n2, x, s2, d2, a2, q2, cc, HE⟩ := hrel
    have hE := HE.out
    have HL := Lib.hid (leftN_is hE.rt.rd)
    have HS := Lib.hid (fun W => sums_calls W)
    obtain ⟨⟨kk, s3⟩, hk⟩ : ∃ z, amongT E s2 4 0 sumsL = z := ⟨_, rfl⟩
    have HA : Hid (∀ W, Below wr.heap.size wr W → Calls Tryz.prog 182 #[.pointer (some ⟨R, 0, none⟩), .int .i64 4, textsV sumsL] W fun e w' => e = .returned (.int .i64 kk) ∧ RdTo R T E s3 W w') := fun W hW => by
      have h := amongS_calls (hE.rt.rd.keep hW) sumsL rfl
      rw [hk] at h
      exact h
    have HK := Lib.hid hk
    clear hk hE
    go_wp2_with fail
    with_reducible refine (HS.out _).mono ?_
    rintro e w2 ⟨rfl, hb2⟩
    have HA2 := Lib.hid (HA.out w2 hb2)
    have HB2 := Lib.hid hb2
    clear hb2
    go_wp2_with fail
    with_reducible refine HA2.out.mono ?_
    rintro e w3 ⟨rfl, hd3⟩
    have hE := HE.out
    have D3 := Lib.hid ((hE.rt.then HB2.out).trans hd3)
    have O3 := Lib.hid ((hE.own.keep (TFr.of_below (K := fun _ => False) HB2.out) id).keep hd3.fr (by have := hE.b3; omega))
    have R3 := Lib.hid ((hE.res.keep (TFr.of_below (K := fun _ => False) HB2.out) id).keep hd3.fr (by omega))
    have K3 := Lib.hid ((hE.kids.keepR (TFr.of_below (K := (· = R)) HB2.out) (.inl (by omega))).keepR hd3.fr (.inl (by omega)))
    have HI := Lib.hid (And.intro hE.is (And.intro hE.len hE.ok))
    have HZ := Lib.hid (And.intro hE.b3 (Nat.le_trans hE.big (Nat.le_trans HB2.out.size hd3.fr.size)))
    clear hE hd3 HE HA HA2 HS HB2
    by_cases hk0 : kk = 0
    · subst hk0
      have hz : z = (x, s3) := by
        rw [← HI.out.1, sumsT_end (by rw [HK.out]) HI.out.2.1.1, HK.out]
      subst hz
      obtain ⟨c0, c1, c2, c3, c4, c5, c6, _, _, _, _, _, _, _⟩ := O3.out.all
      obtain ⟨r0, r1, r2, r3, r4, r5, r6, h0, h1, h2, h3, h4, h5, h6⟩ := R3.out.all
      clear HK HI
      go_wp2
      refine bodyPost_ret (v := exV x (.slice a2 q2 cc)) (by simp [results, Tryz.results184, go_sem, r0, r1, r2, r3, r4, r5, r6]; rfl) rfl ⟨_, d2, rfl, ?_, D3.out.set7 hR (Nat.le_refl _) _ _ _ _ _ _ _⟩
      exact (K3.out.set7 (.inl (by omega)) _ _ _ _ _ _ _).mono (fun k hk => .inl (Nat.lt_of_lt_of_le hk (Nat.le_succ _)))
    · obtain ⟨n3, rfl⟩ : ∃ n3, n2 = n3 + 1 := by
        have h1 := amongT_nz (E := E) (s := s2) (k := 4) (by decide) (l := sumsL) (n := 0) (by rw [HK.out]; exact hk0)
        have h2 := HI.out.2.1.1
        exact ⟨n2 - 1, by omega⟩
      have hlt := amongT_nz (E := E) (s := s2) (k := 4) (by decide) (l := sumsL) (n := 0) (by rw [HK.out]; exact hk0)
      rw [HK.out] at hlt
      have hdp3 := amongT_deep (E := E) (s := s2) 4 sumsL 0
      rw [HK.out] at hdp3
      dsimp only at hlt hdp3
      have ht : ((kk : Int) == 0) = false := by rw [beq_eq_false_iff_ne]; omega
      obtain ⟨⟨y, s4⟩, hys⟩ : ∃ z, tm s3 = z := ⟨_, rfl⟩
      have hok3 : DeepOk s3 := HI.out.2.2.le hdp3 (Nat.le_of_lt hlt)
      have hle4 := hle s3
      have hdp4 := hdp s3
      rw [hys] at hle4 hdp4
      dsimp only at hle4 hdp4
      have his : sumsT E tm n3 (.mk (kk : Int) noV [] [] [x, y]) s4 = z := by
        rw [← HI.out.1, sumsT_more (by rw [HK.out]; exact hk0), HK.out, hys]
      have HN := Lib.hid (And.intro his (And.intro (show s4.l.length ≤ n3 ∧ s4.l.length ≤ m by have := HI.out.2.1; omega) (hok3.le hdp4 hle4)))
      have HLT := Lib.hid (show s4.l.length < s2.l.length by omega)
      have HT2 := Lib.hid (ExTo.plain hys (HTM.out w3 s3 D3.out.rd hok3 (by have := HI.out.2.1.2; omega)))
      clear hlt hdp3 hok3 hle4 hdp4 hys his HI HK
      go_wp2_with fail
      with_reducible refine HT2.out.mono ?_
      rintro e w4 ⟨kv, dy, rfl, hkv, hd4⟩
      obtain ⟨a4, m4, rfl⟩ := hkv.slice
      obtain ⟨q4, hq4⟩ : ∃ q, y.ks.length = q := ⟨_, rfl⟩
      rw [hq4] at hkv ⊢
      have D4 := Lib.hid (D3.out.trans hd4)
      have o4 := O3.out.keep hd4.fr (by have := HZ.out.1; omega)
      have r4' := R3.out.keep hd4.fr (by omega)
      have k4 := K3.out.keepR hd4.fr (.inl (by omega))
      have hb5 := (Below.refl w4.heap.size w4).alloc (Nat.le_refl _) (.cells #[.int .i64 y.k, .int .i64 y.v.k, .int .i64 y.v.n, .string (strB y.v.s), .string (strB y.x), .string (strB y.f), .slice a4 q4 m4] 38)
      have hb6 := hb5.alloc hb5.size (.cells #[.int .i64 x.k, .int .i64 x.v.k, .int .i64 x.v.n, .string (strB x.v.s), .string (strB x.x), .string (strB x.f), .slice a2 q2 cc, .int .i64 y.k, .int .i64 y.v.k, .int .i64 y.v.n, .string (strB y.v.s), .string (strB y.x), .string (strB y.f), .slice a4 q4 m4] 38)
      have o5 := o4.keep (TFr.of_below (K := fun _ => False) hb5) id
      have o6 := o4.keep (TFr.of_below (K := fun _ => False) hb6) id
      have hz4 : w.heap.size + 1 ≤ w4.heap.size := Nat.le_trans HZ.out.2 hd4.fr.size
      have hb3lt : w1.heap.size < w3.heap.size := O3.out.lt
      have R6 := Lib.hid ((r4'.keep (TFr.of_below (K := fun _ => False) hb6) id).past (b' := w1.heap.size) (by omega) (.int .i64 kk) (.int .i64 0) (.int .i64 0) (.string ⟨#[]⟩) (.string ⟨#[]⟩) (.string ⟨#[]⟩) (.slice (some ⟨w4.heap.size + 1, 0, none⟩) 2 2))
      have O7 := Lib.hid (o6.setAll (.int .i64 kk) (.int .i64 0) (.int .i64 0) (.string ⟨#[]⟩) (.string ⟨#[]⟩) (.string ⟨#[]⟩) (.slice (some ⟨w4.heap.size + 1, 0, none⟩) 2 2))
      have D7 := Lib.hid ((D4.out.then hb6).set7 hR (b := w1.heap.size) (by have := HZ.out.1; omega) (.int .i64 kk) (.int .i64 0) (.int .i64 0) (.string ⟨#[]⟩) (.string ⟨#[]⟩) (.string ⟨#[]⟩) (.slice (some ⟨w4.heap.size + 1, 0, none⟩) 2 2))
      have KK : Hid (ExK (fun g => g < w.heap.size + 1 ∨ g = w1.heap.size) (((((((((w4.alloc (.cells #[.int .i64 y.k, .int .i64 y.v.k, .int .i64 y.v.n, .string (strB y.v.s), .string (strB y.x), .string (strB y.f), .slice a4 q4 m4] 38)).alloc (.cells #[.int .i64 x.k, .int .i64 x.v.k, .int .i64 x.v.n, .string (strB x.v.s), .string (strB x.x), .string (strB x.f), .slice a2 q2 cc, .int .i64 y.k, .int .i64 y.v.k, .int .i64 y.v.n, .string (strB y.v.s), .string (strB y.x), .string (strB y.f), .slice a4 q4 m4] 38)).setCell ⟨w1.heap.size, 0, none⟩ (.int .i64 kk)).setCell ⟨w1.heap.size, 1, none⟩ (.int .i64 0)).setCell ⟨w1.heap.size, 2, none⟩ (.int .i64 0)).setCell ⟨w1.heap.size, 3, none⟩ (.string ⟨#[]⟩)).setCell ⟨w1.heap.size, 4, none⟩ (.string ⟨#[]⟩)).setCell ⟨w1.heap.size, 5, none⟩ (.string ⟨#[]⟩)).setCell ⟨w1.heap.size, 6, none⟩ (.slice (some ⟨w4.heap.size + 1, 0, none⟩) 2 2)) (max d2 dy + 1) (.slice (some ⟨w4.heap.size + 1, 0, none⟩) 2 2) [x, y]) := by
        have hx := (k4.keepR (TFr.of_below (K := (· = R)) hb6) (.inl (by omega))).le (Nat.le_max_left d2 dy)
        have hy := ((hkv.mono (K' := fun g => g < w.heap.size + 1 ∨ g = w1.heap.size) (fun k hk => hk.elim (fun h => Nat.lt_of_lt_of_le h HZ.out.2) (fun h => h ▸ hb3lt))).keepR (TFr.of_below (K := (· = R)) hb6) (.inl (by omega))).le (Nat.le_max_right d2 dy)
        have hg : ¬ (w4.heap.size + 1 < w.heap.size + 1 ∨ w4.heap.size + 1 = w1.heap.size) := by have := hd4.fr.size; omega
        have hblk : ((w4.alloc (.cells #[.int .i64 y.k, .int .i64 y.v.k, .int .i64 y.v.n, .string (strB y.v.s), .string (strB y.x), .string (strB y.f), .slice a4 q4 m4] 38)).alloc (.cells #[.int .i64 x.k, .int .i64 x.v.k, .int .i64 x.v.n, .string (strB x.v.s), .string (strB x.x), .string (strB x.f), .slice a2 q2 cc, .int .i64 y.k, .int .i64 y.v.k, .int .i64 y.v.n, .string (strB y.v.s), .string (strB y.x), .string (strB y.f), .slice a4 q4 m4] 38)).heap[w4.heap.size + 1]? = some (.cells #[.int .i64 x.k, .int .i64 x.v.k, .int .i64 x.v.n, .string (strB x.v.s), .string (strB x.x), .string (strB x.f), .slice a2 q2 cc, .int .i64 y.k, .int .i64 y.v.k, .int .i64 y.v.n, .string (strB y.v.s), .string (strB y.x), .string (strB y.f), .slice a4 q4 m4] 38 (0, 0)) := by
          have := heap_alloc_new (w4.alloc (.cells #[.int .i64 y.k, .int .i64 y.v.k, .int .i64 y.v.n, .string (strB y.v.s), .string (strB y.x), .string (strB y.f), .slice a4 q4 m4] 38)) (.cells #[.int .i64 x.k, .int .i64 x.v.k, .int .i64 x.v.n, .string (strB x.v.s), .string (strB x.x), .string (strB x.f), .slice a2 q2 cc, .int .i64 y.k, .int .i64 y.v.k, .int .i64 y.v.n, .string (strB y.v.s), .string (strB y.x), .string (strB y.f), .slice a4 q4 m4] 38 (0, 0))
          simpa using this
        exact (ExK.pair hx hy hg hblk).set7 (.inr rfl) _ _ _ _ _ _ _
      have HBIG := Lib.hid (show w.heap.size + 1 ≤ w4.heap.size + 1 + 1 by omega)
      obtain ⟨c0, c1, c2, c3, c4, c5, c6, _, _, _, _, _, _, _⟩ := o5.all
      obtain ⟨e0, e1, e2, e3, e4, e5, e6, f0, f1, f2, f3, f4, f5, f6⟩ := o6.all
      clear o4 o5 o6 r4' k4 hkv hd4 hb5 hb6 hq4 O3 R3 K3 D3 D4 HT2
      simp only [xexV]
      go_wp2
      clear c0 c1 c2 c3 c4 c5 c6 e0 e1 e2 e3 e4 e5 e6 f0 f1 f2 f3 f4 f5 f6
      refine ⟨⟨n3, .mk (kk : Int) noV [] [] [x, y], s4, max d2 dy + 1, some ⟨w4.heap.size + 1, 0, none⟩, 2, 2, ?_⟩, ?_⟩
      · exact ⟨R6.out, O7.out, KK.out, D7.out, HN.out.1, HN.out.2.1, HN.out.2.2, ⟨Nat.le_refl _, Nat.lt_succ_self _⟩, HZ.out.1, by simpa using HBIG.out⟩
      · rw [leftN_is D7.out.rd, HL.out]
        exact HLT.out

end Go.Proofs.YtifacoompbngaaaGreatDoor
namespace Go.Proofs.YtifacoompbngaaaGreatDoor
open Go.RowKit Go.Lib Go.Op

section
variable {w : World} {R T E : Nat} {s : RS}

/-- Behind the bracket that opens. -/
theorem inner_from {tm : RS → PEx × RS} {m n : Nat} (hterm : ∀ (w : World) (s : RS), RdR w R T E s → DeepOk s → s.l.length ≤ m → Calls Tryz.prog 240 #[.pointer (some ⟨R, 0, none⟩)] w (ExTo R T E (tm s) w))
    (hle : ∀ s, (tm s).2.l.length ≤ s.l.length) (hdp : ∀ s, (tm s).2.deep = s.deep) {s : RS} (hok : DeepOk s) (hm : s.l.length ≤ m) (hn : s.l.length ≤ n) : ∀ (w : World), RdR w R T E s → Calls Tryz.prog 184 #[.pointer (some ⟨R, 0, none⟩)] w (ExTo R T E (exprT E tm n s) w) :=
  fun _ h => expr_calls hterm hle hdp h hok hm hn

theorem innerT_is {E : Nat} {tm : RS → PEx × RS} {n : Nat} {s s1 : RS} (hs1 : needT E (if s.deep = 6 then failT E s else s) 4 [40] = s1) {x : PEx} {s2 : RS} (hx : exprT E tm n ⟨s1.l, s1.deep + 1, s1.wrong⟩ = (x, s2)) : innerT E tm n s = (x, needT E ⟨s2.l, s2.deep - 1, s2.wrong⟩ 4 [41]) := by
  unfold innerT
  rw [hs1]
  dsimp only
  rw [hx]

set_option maxHeartbeats 1000000 in
set_option maxRecDepth 100000 in
theorem inner_calls {tm : RS → PEx × RS} {n : Nat} (hexp : ∀ (s1 : RS), needT E (if s.deep = 6 then failT E s else s) 4 [40] = s1 → ∀ (w : World), RdR w R T E ⟨s1.l, s1.deep + 1, s1.wrong⟩ → Calls Tryz.prog 184 #[.pointer (some ⟨R, 0, none⟩)] w (ExTo R T E (exprT E tm n ⟨s1.l, s1.deep + 1, s1.wrong⟩) w))
    (hxd : ∀ s1 : RS, (exprT E tm n s1).2.deep = s1.deep) (h : RdR w R T E s) (hd6 : s.deep ≤ 6) : Calls Tryz.prog 275 #[.pointer (some ⟨R, 0, none⟩)] w (ExTo R T E (innerT E tm n s) w) := by
  have hR := h.lt
  obtain ⟨s1, hs1⟩ : ∃ s1, needT E (if s.deep = 6 then failT E s else s) 4 [40] = s1 := ⟨_, rfl⟩
  obtain ⟨⟨x, s2⟩, hx⟩ : ∃ z, exprT E tm n ⟨s1.l, s1.deep + 1, s1.wrong⟩ = z := ⟨_, rfl⟩
  have hdp1 : s1.deep = s.deep := by
    rw [← hs1, needT_deep]
    split <;> rfl
  have hdp2 : s2.deep = s1.deep + 1 := by
    have := hxd ⟨s1.l, s1.deep + 1, s1.wrong⟩
    rw [hx] at this
    exact this
  rw [innerT_is hs1 hx]
  have hb0 := (Below.refl w.heap.size w).alloc (Nat.le_refl _) (.cells #[.int .i64 0, .int .i64 0, .int .i64 0, .string ⟨#[]⟩, .string ⟨#[]⟩, .string ⟨#[]⟩, .slice none 0 0] 38)
  have Y0 := Lib.hid (XBlk.new w (.int .i64 0) (.int .i64 0) (.int .i64 0) (.string ⟨#[]⟩) (.string ⟨#[]⟩) (.string ⟨#[]⟩) (.slice none 0 0))
  have HM := Lib.hid (fun W => sign_mark ⟨#[40]⟩ W)
  have HM2 := Lib.hid (fun W => sign_mark ⟨#[41]⟩ W)
  have HS1 := Lib.hid hs1
  have HXS := Lib.hid hx
  have HDP := Lib.hid hdp1
  have HDP2 := Lib.hid hdp2
  have HEXP := Lib.hid (hexp s1 hs1)
  have D0 := Lib.hid (RdTo.of_below h hb0)
  obtain ⟨a0, c0, k0⟩ := h.keep hb0
  have u2 := k0.c2
  clear hb0 k0 hexp hxd h hs1 hx hdp1 hdp2
  have HE : Hid (∀ (w1 : World), RdTo R T E (if s.deep = 6 then failT E s else s) w w1 → XBlk w1 w.heap.size (.int .i64 0) (.int .i64 0) (.int .i64 0) (.string ⟨#[]⟩) (.string ⟨#[]⟩) (.string ⟨#[]⟩) (.slice none 0 0) → True) := fun _ _ _ => trivial
  by_cases h6 : s.deep = 6
  · rw [if_pos h6] at HS1
    rw [h6] at u2
    have ht : (((6 : Nat) : Int) == 6) = true := rfl
    have HF := Lib.hid (fail_calls D0.out.rd)
    clear HE
    go_enter Tryz.func275, Tryz.ntmps275
    go_wp2_with fail
    with_reducible refine HF.out.mono ?_
    rintro e w1 ⟨rfl, hd1⟩
    have D1 := Lib.hid (D0.out.trans hd1)
    have Y1 := Lib.hid (Y0.out.keep hd1.fr (by omega))
    clear hd1 D0 Y0 HF
    go_wp2_with fail
    with_reducible refine (HM.out _).mono ?_
    rintro e w2 ⟨rfl, hb2⟩
    have HND : Hid (Calls Tryz.prog 97 #[.pointer (some ⟨R, 0, none⟩), .agg #[.int .i64 4, .string ⟨#[40]⟩]] w2 fun e w' => e = .returned (.tuple #[]) ∧ RdTo R T E s1 w2 w') := by
      show Calls _ _ _ _ _
      rw [← HS1.out]
      exact needS_calls (D1.out.then hb2).rd [40]
    have D2 := Lib.hid (D1.out.then hb2)
    have Y2 := Lib.hid (Y1.out.keep (TFr.of_below (K := fun _ => False) hb2) id)
    clear hb2 D1 Y1
    go_wp2_with fail
    with_reducible refine HND.out.mono ?_
    rintro e w3 ⟨rfl, hd3⟩
    have D3 := Lib.hid (D2.out.trans hd3)
    have Y3 := Lib.hid (Y2.out.keep hd3.fr (by omega))
    obtain ⟨a, c, k3⟩ := hd3.rd
    have v2 := k3.c2
    have g2 := k3.f 2
    have hdp : s1.deep ≤ 7 := Nat.le_trans (Nat.le_of_eq HDP.out) (by omega)
    obtain ⟨q, hq⟩ : ∃ q, s1.deep = q := ⟨_, rfl⟩
    have HEXP1 := HEXP.out
    rw [hq] at HEXP1
    have HXS1 := HXS.out
    rw [hq] at HXS1
    have k4 := k3.setDeep' (x := q + 1) (by omega) (v := (q : Int) + 1) (by omega)
    have D4 : Hid (RdTo R T E ⟨s1.l, q + 1, s1.wrong⟩ w (w3.setCell ⟨R, 2, none⟩ (.int .i64 ((q : Int) + 1)))) := ⟨⟨a, c, k4⟩, D3.out.fr.trans (TFr.at R 2 _)⟩
    have Y4 := Lib.hid (Y3.out.keep (TFr.at R 2 (.int .i64 ((q : Int) + 1))) (by omega))
    have hsz4 : w.heap.size < (w3.setCell ⟨R, 2, none⟩ (.int .i64 ((q : Int) + 1))).heap.size := by have := Y3.out.lt; simpa using this
    have HEX := Lib.hid (ExTo.plain HXS1 (HEXP1 _ ⟨a, c, k4⟩))
    have hwr : IntKind.i64.wrap ((q : Int) + 1) = (q : Int) + 1 := IntWalk.i64_in _ (by omega)
    rw [hq] at v2
    have HQ := Lib.hid (And.intro hq hdp)
    clear hd3 k3 k4 D2 D3 Y2 Y3 HND hq hdp HEXP1 HXS1 HEXP HXS HM HS1
    go_wp2_with fail
    with_reducible refine HEX.out.mono ?_
    rintro e w5 ⟨kv, dx, rfl, hkv, hd5⟩
    obtain ⟨a4, m4, rfl⟩ := hkv.slice
    obtain ⟨q4, hq4⟩ : ∃ q, x.ks.length = q := ⟨_, rfl⟩
    rw [hq4] at hkv ⊢
    have D5 := D4.out.trans hd5
    have Y5 := Y4.out.keep hd5.fr (by omega)
    have hb6 := (Below.refl w5.heap.size w5).alloc (Nat.le_refl _) (.cells #[.int .i64 x.k, .int .i64 x.v.k, .int .i64 x.v.n, .string (strB x.v.s), .string (strB x.x), .string (strB x.f), .slice a4 q4 m4] 38)
    have D6 := D5.then hb6
    have X6 := XBlk.new w5 (.int .i64 x.k) (.int .i64 x.v.k) (.int .i64 x.v.n) (.string (strB x.v.s)) (.string (strB x.x)) (.string (strB x.f)) (.slice a4 q4 m4)
    have Y6 := Y5.keep (TFr.of_below (K := fun _ => False) hb6) id
    have hlt5 : R < w5.heap.size := Nat.lt_of_lt_of_le hR (Nat.le_trans D4.out.fr.size hd5.fr.size)
    have hw5 : w.heap.size < w5.heap.size := Y5.lt
    have K6 := hkv.keepR (TFr.of_below (K := (· = R)) hb6) (by show R < _; omega)
    obtain ⟨a6, c6, k6⟩ := D6.rd
    have d2 := k6.c2
    have g6 := k6.f 2
    have hs2 : s2.deep = q + 1 := by rw [HDP2.out, HQ.out.1]
    have hq7 := HQ.out.2
    have hq8 : q ≤ 7 := by have := HQ.out.1; omega
    have k7 := k6.setDeep' (x := s2.deep - 1) (by omega) (v := ((q + 1 : Nat) : Int) - 1) (by omega)
    rw [hs2] at d2
    have D7 : RdTo R T E ⟨s2.l, s2.deep - 1, s2.wrong⟩ w ((w5.alloc (.cells #[.int .i64 x.k, .int .i64 x.v.k, .int .i64 x.v.n, .string (strB x.v.s), .string (strB x.x), .string (strB x.f), .slice a4 q4 m4] 38)).setCell ⟨R, 2, none⟩ (.int .i64 (((q + 1 : Nat) : Int) - 1))) := ⟨⟨a6, c6, k7⟩, D6.fr.trans (TFr.at R 2 _)⟩
    have X7 := Lib.hid (X6.keep (TFr.at R 2 (.int .i64 (((q + 1 : Nat) : Int) - 1))) (by omega))
    have Y7 := Lib.hid (Y6.keep (TFr.at R 2 (.int .i64 (((q + 1 : Nat) : Int) - 1))) (by omega))
    have K7 := Lib.hid (K6.keepR (TFr.at R 2 (.int .i64 (((q + 1 : Nat) : Int) - 1))) (by show R < _; omega))
    have hwr2 : IntKind.i64.wrap (((q + 1 : Nat) : Int) - 1) = ((q + 1 : Nat) : Int) - 1 := IntWalk.i64_in _ (by omega)
    obtain ⟨q1, hq1⟩ : ∃ q1, q + 1 = q1 := ⟨_, rfl⟩
    rw [hq1] at d2 D7 X7 Y7 K7 hwr2
    have D8 := Lib.hid D7
    have HW5 := Lib.hid hlt5
    have HSZ := Lib.hid hsz4
    clear hkv hd5 D5 Y5 hb6 D6 X6 Y6 K6 k6 k7 D7 hq4 hs2 hq7 hq8 hq1 Y4 D4 hsz4 HEX HQ hwr HDP2 hlt5 hw5
    simp only [xexV]
    go_wp2_with fail
    with_reducible refine (HM2.out _).mono ?_
    rintro e w8 ⟨rfl, hb8⟩
    have HNE := Lib.hid (show Calls Tryz.prog 97 #[.pointer (some ⟨R, 0, none⟩), .agg #[.int .i64 4, .string ⟨#[41]⟩]] w8 fun e w' => e = .returned (.tuple #[]) ∧ RdTo R T E (needT E ⟨s2.l, s2.deep - 1, s2.wrong⟩ 4 [41]) w8 w' from needS_calls (D8.out.then hb8).rd [41])
    have D9 := Lib.hid (D8.out.then hb8)
    have X8 := Lib.hid (X7.out.keep (TFr.of_below (K := fun _ => False) hb8) id)
    have Y8 := Lib.hid (Y7.out.keep (TFr.of_below (K := fun _ => False) hb8) id)
    have K8 := Lib.hid (K7.out.keepR (TFr.of_below (K := (· = R)) hb8) (Nat.lt_trans hR HSZ.out))
    clear hb8 D8 X7 Y7 K7 HM2
    go_wp2_with fail
    with_reducible refine HNE.out.mono ?_
    rintro e w9 ⟨rfl, hd9⟩
    obtain ⟨e0, e1, e2, e3, e4, e5, e6, _, _, _, _, _, _, _⟩ := (X8.out.keep hd9.fr (by have := HW5.out; omega)).all
    obtain ⟨r0, r1, r2, r3, r4, r5, r6, h0, h1, h2, h3, h4, h5, h6'⟩ := (Y8.out.keep hd9.fr (by omega)).all
    have D10 := Lib.hid (D9.out.trans hd9)
    have K9 := Lib.hid (K8.out.keepR hd9.fr (Nat.lt_trans hR HSZ.out))
    clear hd9 D9 X8 Y8 K8 HNE
    go_wp2
    refine bodyPost_ret (v := exV x (.slice a4 q4 m4)) (by simp [results, Tryz.results275, go_sem, r0, r1, r2, r3, r4, r5, r6]; rfl) rfl ⟨_, dx, rfl, ?_, D10.out.set7 hR (Nat.le_refl _) _ _ _ _ _ _ _⟩
    exact (K9.out.set7 (b := w.heap.size) HSZ.out _ _ _ _ _ _ _).after (Nat.le_of_lt HSZ.out)
  · rw [if_neg h6] at HS1
    have ht : ((s.deep : Int) == 6) = false := by rw [beq_eq_false_iff_ne]; omega
    clear HE
    have D1 := D0
    have Y1 := Y0
    clear D0 Y0
    go_enter Tryz.func275, Tryz.ntmps275
    go_wp2_with fail
    with_reducible refine (HM.out _).mono ?_
    rintro e w2 ⟨rfl, hb2⟩
    have HND : Hid (Calls Tryz.prog 97 #[.pointer (some ⟨R, 0, none⟩), .agg #[.int .i64 4, .string ⟨#[40]⟩]] w2 fun e w' => e = .returned (.tuple #[]) ∧ RdTo R T E s1 w2 w') := by
      show Calls _ _ _ _ _
      rw [← HS1.out]
      exact needS_calls (D1.out.then hb2).rd [40]
    have D2 := Lib.hid (D1.out.then hb2)
    have Y2 := Lib.hid (Y1.out.keep (TFr.of_below (K := fun _ => False) hb2) id)
    clear hb2 D1 Y1
    go_wp2_with fail
    with_reducible refine HND.out.mono ?_
    rintro e w3 ⟨rfl, hd3⟩
    have D3 := Lib.hid (D2.out.trans hd3)
    have Y3 := Lib.hid (Y2.out.keep hd3.fr (by omega))
    obtain ⟨a, c, k3⟩ := hd3.rd
    have v2 := k3.c2
    have g2 := k3.f 2
    have hdp : s1.deep ≤ 7 := Nat.le_trans (Nat.le_of_eq HDP.out) (by omega)
    obtain ⟨q, hq⟩ : ∃ q, s1.deep = q := ⟨_, rfl⟩
    have HEXP1 := HEXP.out
    rw [hq] at HEXP1
    have HXS1 := HXS.out
    rw [hq] at HXS1
    have k4 := k3.setDeep' (x := q + 1) (by omega) (v := (q : Int) + 1) (by omega)
    have D4 : Hid (RdTo R T E ⟨s1.l, q + 1, s1.wrong⟩ w (w3.setCell ⟨R, 2, none⟩ (.int .i64 ((q : Int) + 1)))) := ⟨⟨a, c, k4⟩, D3.out.fr.trans (TFr.at R 2 _)⟩
    have Y4 := Lib.hid (Y3.out.keep (TFr.at R 2 (.int .i64 ((q : Int) + 1))) (by omega))
    have hsz4 : w.heap.size < (w3.setCell ⟨R, 2, none⟩ (.int .i64 ((q : Int) + 1))).heap.size := by have := Y3.out.lt; simpa using this
    have HEX := Lib.hid (ExTo.plain HXS1 (HEXP1 _ ⟨a, c, k4⟩))
    have hwr : IntKind.i64.wrap ((q : Int) + 1) = (q : Int) + 1 := IntWalk.i64_in _ (by omega)
    rw [hq] at v2
    have HQ := Lib.hid (And.intro hq hdp)
    clear hd3 k3 k4 D2 D3 Y2 Y3 HND hq hdp HEXP1 HXS1 HEXP HXS HM HS1
    go_wp2_with fail
    with_reducible refine HEX.out.mono ?_
    rintro e w5 ⟨kv, dx, rfl, hkv, hd5⟩
    obtain ⟨a4, m4, rfl⟩ := hkv.slice
    obtain ⟨q4, hq4⟩ : ∃ q, x.ks.length = q := ⟨_, rfl⟩
    rw [hq4] at hkv ⊢
    have D5 := D4.out.trans hd5
    have Y5 := Y4.out.keep hd5.fr (by omega)
    have hb6 := (Below.refl w5.heap.size w5).alloc (Nat.le_refl _) (.cells #[.int .i64 x.k, .int .i64 x.v.k, .int .i64 x.v.n, .string (strB x.v.s), .string (strB x.x), .string (strB x.f), .slice a4 q4 m4] 38)
    have D6 := D5.then hb6
    have X6 := XBlk.new w5 (.int .i64 x.k) (.int .i64 x.v.k) (.int .i64 x.v.n) (.string (strB x.v.s)) (.string (strB x.x)) (.string (strB x.f)) (.slice a4 q4 m4)
    have Y6 := Y5.keep (TFr.of_below (K := fun _ => False) hb6) id
    have hlt5 : R < w5.heap.size := Nat.lt_of_lt_of_le hR (Nat.le_trans D4.out.fr.size hd5.fr.size)
    have hw5 : w.heap.size < w5.heap.size := Y5.lt
    have K6 := hkv.keepR (TFr.of_below (K := (· = R)) hb6) (by show R < _; omega)
    obtain ⟨a6, c6, k6⟩ := D6.rd
    have d2 := k6.c2
    have g6 := k6.f 2
    have hs2 : s2.deep = q + 1 := by rw [HDP2.out, HQ.out.1]
    have hq7 := HQ.out.2
    have hq8 : q ≤ 7 := by have := HQ.out.1; omega
    have k7 := k6.setDeep' (x := s2.deep - 1) (by omega) (v := ((q + 1 : Nat) : Int) - 1) (by omega)
    rw [hs2] at d2
    have D7 : RdTo R T E ⟨s2.l, s2.deep - 1, s2.wrong⟩ w ((w5.alloc (.cells #[.int .i64 x.k, .int .i64 x.v.k, .int .i64 x.v.n, .string (strB x.v.s), .string (strB x.x), .string (strB x.f), .slice a4 q4 m4] 38)).setCell ⟨R, 2, none⟩ (.int .i64 (((q + 1 : Nat) : Int) - 1))) := ⟨⟨a6, c6, k7⟩, D6.fr.trans (TFr.at R 2 _)⟩
    have X7 := Lib.hid (X6.keep (TFr.at R 2 (.int .i64 (((q + 1 : Nat) : Int) - 1))) (by omega))
    have Y7 := Lib.hid (Y6.keep (TFr.at R 2 (.int .i64 (((q + 1 : Nat) : Int) - 1))) (by omega))
    have K7 := Lib.hid (K6.keepR (TFr.at R 2 (.int .i64 (((q + 1 : Nat) : Int) - 1))) (by show R < _; omega))
    have hwr2 : IntKind.i64.wrap (((q + 1 : Nat) : Int) - 1) = ((q + 1 : Nat) : Int) - 1 := IntWalk.i64_in _ (by omega)
    obtain ⟨q1, hq1⟩ : ∃ q1, q + 1 = q1 := ⟨_, rfl⟩
    rw [hq1] at d2 D7 X7 Y7 K7 hwr2
    have D8 := Lib.hid D7
    have HW5 := Lib.hid hlt5
    have HSZ := Lib.hid hsz4
    clear hkv hd5 D5 Y5 hb6 D6 X6 Y6 K6 k6 k7 D7 hq4 hs2 hq7 hq8 hq1 Y4 D4 hsz4 HEX HQ hwr HDP2 hlt5 hw5
    simp only [xexV]
    go_wp2_with fail
    with_reducible refine (HM2.out _).mono ?_
    rintro e w8 ⟨rfl, hb8⟩
    have HNE := Lib.hid (show Calls Tryz.prog 97 #[.pointer (some ⟨R, 0, none⟩), .agg #[.int .i64 4, .string ⟨#[41]⟩]] w8 fun e w' => e = .returned (.tuple #[]) ∧ RdTo R T E (needT E ⟨s2.l, s2.deep - 1, s2.wrong⟩ 4 [41]) w8 w' from needS_calls (D8.out.then hb8).rd [41])
    have D9 := Lib.hid (D8.out.then hb8)
    have X8 := Lib.hid (X7.out.keep (TFr.of_below (K := fun _ => False) hb8) id)
    have Y8 := Lib.hid (Y7.out.keep (TFr.of_below (K := fun _ => False) hb8) id)
    have K8 := Lib.hid (K7.out.keepR (TFr.of_below (K := (· = R)) hb8) (Nat.lt_trans hR HSZ.out))
    clear hb8 D8 X7 Y7 K7 HM2
    go_wp2_with fail
    with_reducible refine HNE.out.mono ?_
    rintro e w9 ⟨rfl, hd9⟩
    obtain ⟨e0, e1, e2, e3, e4, e5, e6, _, _, _, _, _, _, _⟩ := (X8.out.keep hd9.fr (by have := HW5.out; omega)).all
    obtain ⟨r0, r1, r2, r3, r4, r5, r6, h0, h1, h2, h3, h4, h5, h6'⟩ := (Y8.out.keep hd9.fr (by omega)).all
    have D10 := Lib.hid (D9.out.trans hd9)
    have K9 := Lib.hid (K8.out.keepR hd9.fr (Nat.lt_trans hR HSZ.out))
    clear hd9 D9 X8 Y8 K8 HNE
    go_wp2
    refine bodyPost_ret (v := exV x (.slice a4 q4 m4)) (by simp [results, Tryz.results275, go_sem, r0, r1, r2, r3, r4, r5, r6]; rfl) rfl ⟨_, dx, rfl, ?_, D10.out.set7 hR (Nat.le_refl _) _ _ _ _ _ _ _⟩
    exact (K9.out.set7 (b := w.heap.size) HSZ.out _ _ _ _ _ _ _).after (Nat.le_of_lt HSZ.out)
end

end Go.Proofs.YtifacoompbngaaaGreatDoor
namespace Go.Proofs.YtifacoompbngaaaGreatDoor
open Go.RowKit Go.Lib Go.Op

section
variable {w : World} {R T E : Nat} {s : RS}

set_option maxHeartbeats 1000000 in
set_option maxRecDepth 100000 in
theorem term_val (h : RdR w R T E s) (hz : (valT E s).2.1 = true) : Calls Tryz.prog 240 #[.pointer (some ⟨R, 0, none⟩)] w (ExTo R T E (.mk 1 (valT E s).1 [] [] [], (valT E s).2.2) w) := by
  have hR := h.lt
  have hb0 := (Below.refl w.heap.size w).alloc (Nat.le_refl _) (.cells #[.int .i64 0, .int .i64 0, .int .i64 0, .string ⟨#[]⟩, .string ⟨#[]⟩, .string ⟨#[]⟩, .slice none 0 0] 38)
  have Y0 := Lib.hid (XBlk.new w (.int .i64 0) (.int .i64 0) (.int .i64 0) (.string ⟨#[]⟩) (.string ⟨#[]⟩) (.string ⟨#[]⟩) (.slice none 0 0))
  have D0 := Lib.hid (RdTo.of_below h hb0)
  have hval := val_calls D0.out.rd
  obtain ⟨⟨v, bb, s1⟩, hv⟩ : ∃ z, valT E s = z := ⟨_, rfl⟩
  rw [hv] at hz hval
  dsimp only at hz
  subst hz
  have HV : Hid (Calls Tryz.prog 273 #[.pointer (some ⟨R, 0, none⟩)] (w.alloc (.cells #[.int .i64 0, .int .i64 0, .int .i64 0, .string ⟨#[]⟩, .string ⟨#[]⟩, .string ⟨#[]⟩, .slice none 0 0] 38)) fun e w' => e = .returned (.tuple #[.agg #[.int .i64 v.k, .int .i64 v.n, .string (strB v.s)], .bool true]) ∧ RdTo R T E s1 (w.alloc (.cells #[.int .i64 0, .int .i64 0, .int .i64 0, .string ⟨#[]⟩, .string ⟨#[]⟩, .string ⟨#[]⟩, .slice none 0 0] 38)) w') := hval
  rw [hv]
  dsimp only
  clear h hb0 hv hval
  go_enter Tryz.func240, Tryz.ntmps240
  go_wp2_with fail
  with_reducible refine HV.out.mono ?_
  rintro e w1 ⟨rfl, hd1⟩
  have hb2 := (Below.refl w1.heap.size w1).alloc (Nat.le_refl _) (.cells #[.int .i64 v.k, .int .i64 v.n, .string (strB v.s)] 35)
  have Y2 := Lib.hid ((Y0.out.keep hd1.fr (by omega)).keep (TFr.of_below (K := fun _ => False) hb2) id)
  have D2 := Lib.hid ((D0.out.trans hd1).then hb2)
  clear hd1 hb2 Y0 D0 HV
  obtain ⟨r0, r1, r2, r3, r4, r5, r6, h0, h1, h2, h3, h4, h5, h6⟩ := Y2.out.all
  go_wp2
  refine bodyPost_ret (v := exV (.mk 1 v [] [] []) (.slice none 0 0)) (by simp [results, Tryz.results240, go_sem, r0, r1, r2, r3, r4, r5, r6]; rfl) rfl ⟨_, 0, rfl, ExK.nil _ _, ?_⟩
  exact D2.out.set7 hR (Nat.le_refl _) _ _ _ _ _ _ _

set_option maxHeartbeats 1000000 in
set_option maxRecDepth 100000 in
theorem term_inner (h : RdR w R T E s) (hz : (valT E s).2.1 = false) (hp : isT E s 4 [40] = true) (hd6 : s.deep ≤ 6) {tm : RS → PEx × RS} {n : Nat} (hin : ∀ W, RdR W R T E s → Calls Tryz.prog 275 #[.pointer (some ⟨R, 0, none⟩)] W (ExTo R T E (innerT E tm n s) W)) : Calls Tryz.prog 240 #[.pointer (some ⟨R, 0, none⟩)] w (ExTo R T E (innerT E tm n s) w) := by
  have hno := valT_no hz
  have hR := h.lt
  have hb0 := (Below.refl w.heap.size w).alloc (Nat.le_refl _) (.cells #[.int .i64 0, .int .i64 0, .int .i64 0, .string ⟨#[]⟩, .string ⟨#[]⟩, .string ⟨#[]⟩, .slice none 0 0] 38)
  have Y0 := Lib.hid (XBlk.new w (.int .i64 0) (.int .i64 0) (.int .i64 0) (.string ⟨#[]⟩) (.string ⟨#[]⟩) (.string ⟨#[]⟩) (.slice none 0 0))
  have D0 := Lib.hid (RdTo.of_below h hb0)
  have hval := val_calls D0.out.rd
  obtain ⟨⟨v, bb, s1⟩, hv⟩ : ∃ z, valT E s = z := ⟨_, rfl⟩
  rw [hv] at hz hval
  dsimp only at hz
  subst hz
  have HV : Hid (Calls Tryz.prog 273 #[.pointer (some ⟨R, 0, none⟩)] (w.alloc (.cells #[.int .i64 0, .int .i64 0, .int .i64 0, .string ⟨#[]⟩, .string ⟨#[]⟩, .string ⟨#[]⟩, .slice none 0 0] 38)) fun e w' => e = .returned (.tuple #[.agg #[.int .i64 v.k, .int .i64 v.n, .string (strB v.s)], .bool false]) ∧ RdTo R T E s1 (w.alloc (.cells #[.int .i64 0, .int .i64 0, .int .i64 0, .string ⟨#[]⟩, .string ⟨#[]⟩, .string ⟨#[]⟩, .slice none 0 0] 38)) w') := hval
  rw [hv] at hno
  dsimp only at hno
  subst hno
  obtain ⟨x, hx⟩ : ∃ x, innerT E tm n s1 = x := ⟨_, rfl⟩
  rw [hx] at hin ⊢
  have HP := Lib.hid hp
  have HD6 := Lib.hid hd6
  clear hp hd6 hx
  have HM := Lib.hid (fun W => sign_mark ⟨#[40]⟩ W)
  clear h hb0 hv hval
  go_enter Tryz.func240, Tryz.ntmps240
  go_wp2_with fail
  with_reducible refine HV.out.mono ?_
  rintro e w1 ⟨rfl, hd1⟩
  have hb2 := (Below.refl w1.heap.size w1).alloc (Nat.le_refl _) (.cells #[.int .i64 v.k, .int .i64 v.n, .string (strB v.s)] 35)
  have Y2 := Lib.hid ((Y0.out.keep hd1.fr (by omega)).keep (TFr.of_below (K := fun _ => False) hb2) id)
  have D2 := Lib.hid ((D0.out.trans hd1).then hb2)
  clear hd1 hb2 Y0 D0 HV
  go_wp2_with fail
  with_reducible refine (HM.out _).mono ?_
  rintro e w3 ⟨rfl, hb3⟩
  have Y3 := Lib.hid (Y2.out.keep (TFr.of_below (K := fun _ => False) hb3) id)
  have D3 := Lib.hid (D2.out.then hb3)
  have his := isS_calls D3.out.rd [40]
  rw [HP.out] at his
  have HI : Hid (Calls Tryz.prog 183 #[.pointer (some ⟨R, 0, none⟩), .agg #[.int .i64 4, .string ⟨#[40]⟩]] w3 fun e w' => e = .returned (.bool true) ∧ Below w3.heap.size w3 w') := his
  clear hb3 his Y2 D2 HM HP
  go_wp2_with fail
  with_reducible refine HI.out.mono ?_
  rintro e w4 ⟨rfl, hb4⟩
  have Y4 := Lib.hid (Y3.out.keep (TFr.of_below (K := fun _ => False) hb4) id)
  have D4 := Lib.hid (D3.out.then hb4)
  clear hb4 Y3 D3 HI
  have HX := Lib.hid (hin _ D4.out.rd)
  clear hin HD6
  go_wp2_with fail
  with_reducible refine HX.out.mono ?_
  rintro e w9 ⟨kv, dx, rfl, hkv, hd9⟩
  obtain ⟨a4, m4, rfl⟩ := hkv.slice
  obtain ⟨q4, hq4⟩ : ∃ q, x.1.ks.length = q := ⟨_, rfl⟩
  rw [hq4] at hkv ⊢
  obtain ⟨r0, r1, r2, r3, r4, r5, r6, h0, h1, h2, h3, h4, h5, h6⟩ := (Y4.out.keep hd9.fr (by omega)).all
  have D10 := Lib.hid (D4.out.trans hd9)
  have KV := Lib.hid hkv
  have HSZ := Lib.hid Y4.out.lt
  clear hkv hd9 hq4 Y4 D4 HX
  simp only [xexV]
  go_wp2
  refine bodyPost_ret (v := exV x.1 (.slice a4 q4 m4)) (by simp [results, Tryz.results240, go_sem, r0, r1, r2, r3, r4, r5, r6]; rfl) rfl ⟨_, dx, rfl, ?_, D10.out.set7 hR (Nat.le_refl _) _ _ _ _ _ _ _⟩
  exact (KV.out.set7 (b := w.heap.size) HSZ.out _ _ _ _ _ _ _).after (Nat.le_of_lt HSZ.out)

set_option maxHeartbeats 1000000 in
set_option maxRecDepth 100000 in
theorem term_field (h : RdR w R T E s) (hz : (valT E s).2.1 = false) (hp : isT E s 4 [40] = false) {s2 : RS} (ha : amongT E s 1 0 callsL = (0, s2)) : Calls Tryz.prog 240 #[.pointer (some ⟨R, 0, none⟩)] w (ExTo R T E (fieldT E s2 2) w) := by
  have hno := valT_no hz
  have hR := h.lt
  have hb0 := (Below.refl w.heap.size w).alloc (Nat.le_refl _) (.cells #[.int .i64 0, .int .i64 0, .int .i64 0, .string ⟨#[]⟩, .string ⟨#[]⟩, .string ⟨#[]⟩, .slice none 0 0] 38)
  have Y0 := Lib.hid (XBlk.new w (.int .i64 0) (.int .i64 0) (.int .i64 0) (.string ⟨#[]⟩) (.string ⟨#[]⟩) (.string ⟨#[]⟩) (.slice none 0 0))
  have D0 := Lib.hid (RdTo.of_below h hb0)
  have hval := val_calls D0.out.rd
  obtain ⟨⟨v, bb, s1⟩, hv⟩ : ∃ z, valT E s = z := ⟨_, rfl⟩
  rw [hv] at hz hval
  dsimp only at hz
  subst hz
  have HV : Hid (Calls Tryz.prog 273 #[.pointer (some ⟨R, 0, none⟩)] (w.alloc (.cells #[.int .i64 0, .int .i64 0, .int .i64 0, .string ⟨#[]⟩, .string ⟨#[]⟩, .string ⟨#[]⟩, .slice none 0 0] 38)) fun e w' => e = .returned (.tuple #[.agg #[.int .i64 v.k, .int .i64 v.n, .string (strB v.s)], .bool false]) ∧ RdTo R T E s1 (w.alloc (.cells #[.int .i64 0, .int .i64 0, .int .i64 0, .string ⟨#[]⟩, .string ⟨#[]⟩, .string ⟨#[]⟩, .slice none 0 0] 38)) w') := hval
  rw [hv] at hno
  dsimp only at hno
  subst hno
  obtain ⟨x, hx⟩ : ∃ x, fieldT E s2 2 = x := ⟨_, rfl⟩
  rw [hx]
  have HP := Lib.hid hp
  have HAM := Lib.hid ha
  have HQ := Lib.hid hx
  clear hp hx ha
  have HM := Lib.hid (fun W => sign_mark ⟨#[40]⟩ W)
  clear h hb0 hv hval
  go_enter Tryz.func240, Tryz.ntmps240
  go_wp2_with fail
  with_reducible refine HV.out.mono ?_
  rintro e w1 ⟨rfl, hd1⟩
  have hb2 := (Below.refl w1.heap.size w1).alloc (Nat.le_refl _) (.cells #[.int .i64 v.k, .int .i64 v.n, .string (strB v.s)] 35)
  have Y2 := Lib.hid ((Y0.out.keep hd1.fr (by omega)).keep (TFr.of_below (K := fun _ => False) hb2) id)
  have D2 := Lib.hid ((D0.out.trans hd1).then hb2)
  clear hd1 hb2 Y0 D0 HV
  go_wp2_with fail
  with_reducible refine (HM.out _).mono ?_
  rintro e w3 ⟨rfl, hb3⟩
  have Y3 := Lib.hid (Y2.out.keep (TFr.of_below (K := fun _ => False) hb3) id)
  have D3 := Lib.hid (D2.out.then hb3)
  have his := isS_calls D3.out.rd [40]
  rw [HP.out] at his
  have HI : Hid (Calls Tryz.prog 183 #[.pointer (some ⟨R, 0, none⟩), .agg #[.int .i64 4, .string ⟨#[40]⟩]] w3 fun e w' => e = .returned (.bool false) ∧ Below w3.heap.size w3 w') := his
  clear hb3 his Y2 D2 HM HP
  go_wp2_with fail
  with_reducible refine HI.out.mono ?_
  rintro e w4 ⟨rfl, hb4⟩
  have Y4 := Lib.hid (Y3.out.keep (TFr.of_below (K := fun _ => False) hb4) id)
  have D4 := Lib.hid (D3.out.then hb4)
  clear hb4 Y3 D3 HI
  have HCL := Lib.hid (fun W => calls_calls W)
  go_wp2_with fail
  with_reducible refine (HCL.out _).mono ?_
  rintro e w5 ⟨rfl, hb5⟩
  have Y5 := Lib.hid (Y4.out.keep (TFr.of_below (K := fun _ => False) hb5) id)
  have D5 := Lib.hid (D4.out.then hb5)
  have ham := amongW_calls D5.out.rd callsL rfl
  rw [HAM.out] at ham
  have HA := Lib.hid ham
  clear hb5 ham Y4 D4 HCL HAM
  go_wp2_with fail
  with_reducible refine HA.out.mono ?_
  rintro e w6 ⟨rfl, hd6⟩
  have Y6 := Lib.hid (Y5.out.keep hd6.fr (by omega))
  have D6 := Lib.hid (D5.out.trans hd6)
  clear hd6 Y5 D5 HA
  have HX := Lib.hid (show Calls Tryz.prog 277 #[.pointer (some ⟨R, 0, none⟩), .int .i64 2] w6 (ExTo R T E x w6) from HQ.out ▸ fieldX_calls D6.out.rd 2)
  clear HQ
  go_wp2_with fail
  with_reducible refine HX.out.mono ?_
  rintro e w9 ⟨kv, dx, rfl, hkv, hd9⟩
  obtain ⟨a4, m4, rfl⟩ := hkv.slice
  obtain ⟨q4, hq4⟩ : ∃ q, x.1.ks.length = q := ⟨_, rfl⟩
  rw [hq4] at hkv ⊢
  obtain ⟨r0, r1, r2, r3, r4, r5, r6, h0, h1, h2, h3, h4, h5, h6⟩ := (Y6.out.keep hd9.fr (by omega)).all
  have D10 := Lib.hid (D6.out.trans hd9)
  have KV := Lib.hid hkv
  have HSZ := Lib.hid Y6.out.lt
  clear hkv hd9 hq4 Y6 D6 HX
  simp only [xexV]
  go_wp2
  refine bodyPost_ret (v := exV x.1 (.slice a4 q4 m4)) (by simp [results, Tryz.results240, go_sem, r0, r1, r2, r3, r4, r5, r6]; rfl) rfl ⟨_, dx, rfl, ?_, D10.out.set7 hR (Nat.le_refl _) _ _ _ _ _ _ _⟩
  exact (KV.out.set7 (b := w.heap.size) HSZ.out _ _ _ _ _ _ _).after (Nat.le_of_lt HSZ.out)

set_option maxHeartbeats 1000000 in
set_option maxRecDepth 100000 in
theorem term_call (h : RdR w R T E s) (hz : (valT E s).2.1 = false) (hp : isT E s 4 [40] = false) {s2 : RS} {kk : Nat} (hk : kk ≠ 0) (ha : amongT E s 1 0 callsL = (kk, s2)) : Calls Tryz.prog 240 #[.pointer (some ⟨R, 0, none⟩)] w (ExTo R T E (callT E s2 kk) w) := by
  have hno := valT_no hz
  have hR := h.lt
  have hb0 := (Below.refl w.heap.size w).alloc (Nat.le_refl _) (.cells #[.int .i64 0, .int .i64 0, .int .i64 0, .string ⟨#[]⟩, .string ⟨#[]⟩, .string ⟨#[]⟩, .slice none 0 0] 38)
  have Y0 := Lib.hid (XBlk.new w (.int .i64 0) (.int .i64 0) (.int .i64 0) (.string ⟨#[]⟩) (.string ⟨#[]⟩) (.string ⟨#[]⟩) (.slice none 0 0))
  have D0 := Lib.hid (RdTo.of_below h hb0)
  have hval := val_calls D0.out.rd
  obtain ⟨⟨v, bb, s1⟩, hv⟩ : ∃ z, valT E s = z := ⟨_, rfl⟩
  rw [hv] at hz hval
  dsimp only at hz
  subst hz
  have HV : Hid (Calls Tryz.prog 273 #[.pointer (some ⟨R, 0, none⟩)] (w.alloc (.cells #[.int .i64 0, .int .i64 0, .int .i64 0, .string ⟨#[]⟩, .string ⟨#[]⟩, .string ⟨#[]⟩, .slice none 0 0] 38)) fun e w' => e = .returned (.tuple #[.agg #[.int .i64 v.k, .int .i64 v.n, .string (strB v.s)], .bool false]) ∧ RdTo R T E s1 (w.alloc (.cells #[.int .i64 0, .int .i64 0, .int .i64 0, .string ⟨#[]⟩, .string ⟨#[]⟩, .string ⟨#[]⟩, .slice none 0 0] 38)) w') := hval
  rw [hv] at hno
  dsimp only at hno
  subst hno
  obtain ⟨x, hx⟩ : ∃ x, callT E s2 kk = x := ⟨_, rfl⟩
  rw [hx]
  have HP := Lib.hid hp
  have HAM := Lib.hid ha
  have HQ := Lib.hid hx
  have ht : ((kk : Int) != 0) = true := by rw [bne_iff_ne]; omega
  clear hp hx ha
  have HM := Lib.hid (fun W => sign_mark ⟨#[40]⟩ W)
  clear h hb0 hv hval
  go_enter Tryz.func240, Tryz.ntmps240
  go_wp2_with fail
  with_reducible refine HV.out.mono ?_
  rintro e w1 ⟨rfl, hd1⟩
  have hb2 := (Below.refl w1.heap.size w1).alloc (Nat.le_refl _) (.cells #[.int .i64 v.k, .int .i64 v.n, .string (strB v.s)] 35)
  have Y2 := Lib.hid ((Y0.out.keep hd1.fr (by omega)).keep (TFr.of_below (K := fun _ => False) hb2) id)
  have D2 := Lib.hid ((D0.out.trans hd1).then hb2)
  clear hd1 hb2 Y0 D0 HV
  go_wp2_with fail
  with_reducible refine (HM.out _).mono ?_
  rintro e w3 ⟨rfl, hb3⟩
  have Y3 := Lib.hid (Y2.out.keep (TFr.of_below (K := fun _ => False) hb3) id)
  have D3 := Lib.hid (D2.out.then hb3)
  have his := isS_calls D3.out.rd [40]
  rw [HP.out] at his
  have HI : Hid (Calls Tryz.prog 183 #[.pointer (some ⟨R, 0, none⟩), .agg #[.int .i64 4, .string ⟨#[40]⟩]] w3 fun e w' => e = .returned (.bool false) ∧ Below w3.heap.size w3 w') := his
  clear hb3 his Y2 D2 HM HP
  go_wp2_with fail
  with_reducible refine HI.out.mono ?_
  rintro e w4 ⟨rfl, hb4⟩
  have Y4 := Lib.hid (Y3.out.keep (TFr.of_below (K := fun _ => False) hb4) id)
  have D4 := Lib.hid (D3.out.then hb4)
  clear hb4 Y3 D3 HI
  have HCL := Lib.hid (fun W => calls_calls W)
  go_wp2_with fail
  with_reducible refine (HCL.out _).mono ?_
  rintro e w5 ⟨rfl, hb5⟩
  have Y5 := Lib.hid (Y4.out.keep (TFr.of_below (K := fun _ => False) hb5) id)
  have D5 := Lib.hid (D4.out.then hb5)
  have ham := amongW_calls D5.out.rd callsL rfl
  rw [HAM.out] at ham
  have HA := Lib.hid ham
  clear hb5 ham Y4 D4 HCL HAM
  go_wp2_with fail
  with_reducible refine HA.out.mono ?_
  rintro e w6 ⟨rfl, hd6⟩
  have Y6 := Lib.hid (Y5.out.keep hd6.fr (by omega))
  have D6 := Lib.hid (D5.out.trans hd6)
  clear hd6 Y5 D5 HA
  have HX := Lib.hid (show Calls Tryz.prog 276 #[.pointer (some ⟨R, 0, none⟩), .int .i64 kk] w6 (ExTo R T E x w6) from HQ.out ▸ callX_calls D6.out.rd kk)
  clear HQ
  go_wp2_with fail
  with_reducible refine HX.out.mono ?_
  rintro e w9 ⟨kv, dx, rfl, hkv, hd9⟩
  obtain ⟨a4, m4, rfl⟩ := hkv.slice
  obtain ⟨q4, hq4⟩ : ∃ q, x.1.ks.length = q := ⟨_, rfl⟩
  rw [hq4] at hkv ⊢
  obtain ⟨r0, r1, r2, r3, r4, r5, r6, h0, h1, h2, h3, h4, h5, h6⟩ := (Y6.out.keep hd9.fr (by omega)).all
  have D10 := Lib.hid (D6.out.trans hd9)
  have KV := Lib.hid hkv
  have HSZ := Lib.hid Y6.out.lt
  clear hkv hd9 hq4 Y6 D6 HX
  simp only [xexV]
  go_wp2
  refine bodyPost_ret (v := exV x.1 (.slice a4 q4 m4)) (by simp [results, Tryz.results240, go_sem, r0, r1, r2, r3, r4, r5, r6]; rfl) rfl ⟨_, dx, rfl, ?_, D10.out.set7 hR (Nat.le_refl _) _ _ _ _ _ _ _⟩
  exact (KV.out.set7 (b := w.heap.size) HSZ.out _ _ _ _ _ _ _).after (Nat.le_of_lt HSZ.out)
end

/-- A term, and all that it is made of. -/
theorem term_calls {R T E : Nat} : ∀ (n : Nat) (w : World) (s : RS), RdR w R T E s → DeepOk s → s.l.length < n → Calls Tryz.prog 240 #[.pointer (some ⟨R, 0, none⟩)] w (ExTo R T E (termT E n s) w)
  | 0, w, s, h, hok, hn => absurd hn (Nat.not_lt_zero _)
  | n + 1, w, s, h, hok, hn => by
    rw [termT]
    cases hz : (valT E s).2.1 with
    | true => exact term_val h hz
    | false =>
      rw [if_neg (by simp)]
      cases hp : isT E s 4 [40] with
      | true =>
        rw [if_pos rfl]
        have hd6 : s.deep ≤ 6 := by
          rcases hok with h6 | h0
          · exact h6
          · obtain ⟨t, r, hl⟩ := isT_cons hp (by decide)
            rw [hl] at h0
            cases h0
        refine term_inner h hz hp hd6 (fun W hW => ?_)
        refine inner_calls (fun s1 hs1 w1 hw1 => ?_) (exprT_deep (termT_deep n) n) hW hd6
        have hl1 : s1.l.length < s.l.length := by
          have hpos : 0 < s.l.length := by
            obtain ⟨t, r, hl⟩ := isT_cons hp (by decide)
            rw [hl]; simp
          rw [← hs1]
          split
          · refine Nat.lt_of_le_of_lt (needT_le _ _) ?_
            unfold failT
            simpa using hpos
          · unfold needT
            rw [show (takeT E s 4 [40]).1 = true by unfold takeT; rw [hp]; rfl, if_pos rfl]
            exact takeT_lt hp (by decide)
        have hok1 : DeepOk ⟨s1.l, s1.deep + 1, s1.wrong⟩ := by
          by_cases h6 : s.deep = 6
          · right
            rw [if_pos h6] at hs1
            rw [← hs1]
            have h0 := needT_le (E := E) (s := failT E s) 4 [40]
            exact List.eq_nil_of_length_eq_zero (by show (needT E (failT E s) 4 [40]).l.length = 0; have : (failT E s).l.length = 0 := rfl; omega)
          · left
            rw [if_neg h6] at hs1
            show s1.deep + 1 ≤ 6
            rw [← hs1, needT_deep]
            omega
        exact expr_calls (m := n - 1) (fun w s h hok hm => term_calls n w s h hok (by omega)) (termT_le n) (termT_deep n) hw1 hok1 (by show s1.l.length ≤ _; omega) (by show s1.l.length ≤ _; omega)
      | false =>
        rw [if_neg (by simp)]
        obtain ⟨⟨kk, s2⟩, ha⟩ : ∃ z, amongT E s 1 0 callsL = z := ⟨_, rfl⟩
        rw [ha]
        by_cases hk : kk = 0
        · subst hk
          rw [if_pos rfl]
          exact term_field h hz hp ha
        · rw [if_neg hk]
          exact term_call h hz hp hk ha

end Go.Proofs.YtifacoompbngaaaGreatDoor
namespace Go.Proofs.YtifacoompbngaaaGreatDoor
open Go.RowKit Go.Lib Go.Op

/-- What an element of a row is: how many cells, and what they say. -/
structure RowD (α : Type) where
  k : Nat
  P : (Nat → Prop) → World → List Value → α → Prop
  len : ∀ {K w cs x}, P K w cs x → cs.length = k
  one : ∀ {K w cs x}, P K w cs x → ∀ u ∈ cs, u.oneCell' = true
  keep : ∀ {K w w' cs x}, TFr K w w' → P K w cs x → P K w' cs x
  mono : ∀ {K K' w cs x}, (∀ g, K' g → K g) → P K w cs x → P K' w cs x
  ne : ∀ {K w cs x} {b : Nat}, w.heap.size ≤ b → P K w cs x → P (fun g => K g ∨ g = b) w cs x

theorem RowD.ne' {α : Type} {D : RowD α} {w w1 : World} {cs : List Value} {x : α} {o : Obj} (hb : Below w1.heap.size w1 (w1.alloc o)) (h : D.P (· < w.heap.size) w1 cs x) : D.P (fun g => g < w.heap.size ∨ g = w1.heap.size) (w1.alloc o) cs x :=
  D.keep (TFr.of_below hb) (D.ne (Nat.le_refl _) h)
theorem RowD.at' {α : Type} {D : RowD α} {w3 w4 : World} {cs : List Value} {x : α} {o : Obj} {B : Nat} {v : Value} (hb : Below w4.heap.size w4 (w4.alloc o)) (hv : ∀ g, v.ownBlock = some g → B ≤ g ∧ g < w3.heap.size) (hB : B ≤ w3.heap.size) (h : D.P (· < w3.heap.size) w4 cs x) : D.P (fun g => g < B ∨ v.ownBlock = some g) (w4.alloc o) cs x :=
  D.keep (TFr.of_below hb) (D.mono (fun _ hg => hg.elim (fun h => Nat.lt_of_lt_of_le h hB) (fun h => (hv _ h).2)) h)
theorem flat_at {k : Nat} : ∀ {css : List (List Value)} {j : Nat} {cs : List Value}, (∀ c ∈ css, c.length = k) → css[j]? = some cs → ∀ r u, cs[r]? = some u → css.flatten[j * k + r]? = some u
  | [], j, cs, _, h, _, _, _ => by simp at h
  | c :: l, 0, cs, hk, h, r, u, hu => by
    obtain rfl : c = cs := by simpa using h
    rw [List.flatten_cons, Nat.zero_mul, Nat.zero_add, List.getElem?_append_left (List.getElem?_eq_some_iff.1 hu).1]
    exact hu
  | c :: l, j + 1, cs, hk, h, r, u, hu => by
    have hc := hk c List.mem_cons_self
    rw [List.flatten_cons, List.getElem?_append_right (by rw [hc, Nat.succ_mul]; omega), hc, show (j + 1) * k + r - k = j * k + r by rw [Nat.succ_mul]; omega]
    exact flat_at (fun c hc => hk c (List.mem_cons_of_mem _ hc)) (by simpa using h) r u hu
theorem flat_len {k : Nat} : ∀ {css : List (List Value)}, (∀ c ∈ css, c.length = k) → css.flatten.length = css.length * k
  | [], _ => by simp
  | c :: l, hk => by
    rw [List.flatten_cons, List.length_append, hk c List.mem_cons_self, flat_len (fun c hc => hk c (List.mem_cons_of_mem _ hc)), List.length_cons, Nat.succ_mul]
    omega

variable {α : Type}

/-- A row that is read only. -/
def RowK (D : RowD α) (K : Nat → Prop) (w : World) (v : Value) (l : List α) : Prop := ∃ a c, v = .slice a l.length c ∧ l.length ≤ c ∧ ∀ (j : Nat) (x : α), l[j]? = some x → ∃ g o cs, a = some ⟨g, o, none⟩ ∧ ¬ K g ∧ D.P K w cs x ∧ ∀ r u, cs[r]? = some u → w.cell? ⟨g, o + j * D.k + r, none⟩ = some u
theorem RowK.slice {D : RowD α} {K : Nat → Prop} {w : World} {v : Value} {l : List α} (h : RowK D K w v l) : ∃ a c, v = .slice a l.length c := by
  obtain ⟨a, c, e, _⟩ := h
  exact ⟨a, c, e⟩
theorem RowK.keep {D : RowD α} {K : Nat → Prop} {w w' : World} {v : Value} {l : List α} (h : RowK D K w v l) (hf : TFr K w w') : RowK D K w' v l := by
  obtain ⟨a, c, e, hcap, h⟩ := h
  refine ⟨a, c, e, hcap, fun j x hj => ?_⟩
  obtain ⟨g, o, cs, ea, hg, hp, hc⟩ := h j x hj
  exact ⟨g, o, cs, ea, hg, D.keep hf hp, fun r u hu => hf.cell (hc r u hu) hg⟩
theorem RowK.keepR {D : RowD α} {K : Nat → Prop} {R : Nat} {w w' : World} {v : Value} {l : List α} (h : RowK D K w v l) (hf : TFr (· = R) w w') (hR : K R) : RowK D K w' v l := h.keep (hf.mono (fun _ _ e => e ▸ hR))
theorem RowK.mono {D : RowD α} {K K' : Nat → Prop} (hs : ∀ k, K' k → K k) {w : World} {v : Value} {l : List α} (h : RowK D K w v l) : RowK D K' w v l := by
  obtain ⟨a, c, e, hcap, h⟩ := h
  refine ⟨a, c, e, hcap, fun j x hj => ?_⟩
  obtain ⟨g, o, cs, ea, hg, hp, hc⟩ := h j x hj
  exact ⟨g, o, cs, ea, fun hn => hg (hs g hn), D.mono hs hp, hc⟩
theorem RowK.nil (D : RowD α) (K : Nat → Prop) (w : World) : RowK D K w (.slice none 0 0) [] := ⟨none, 0, rfl, Nat.le_refl _, fun j x hj => by simp at hj⟩
theorem RowK.ne {D : RowD α} {K : Nat → Prop} {w : World} {v : Value} {l : List α} {b : Nat} (h : RowK D K w v l) (hk : 0 < D.k) (hb : w.heap.size ≤ b) : RowK D (fun g => K g ∨ g = b) w v l := by
  obtain ⟨a, c, e, hcap, h⟩ := h
  refine ⟨a, c, e, hcap, fun j x hj => ?_⟩
  obtain ⟨g, o, cs, ea, hg, hp, hc⟩ := h j x hj
  have hl := D.len hp
  have h0 := hc 0 (cs[0]'(by omega)) (List.getElem?_eq_getElem _)
  have hlt : g < w.heap.size := World.block_lt_of_cell? _ _ h0
  exact ⟨g, o, cs, ea, fun hn => hn.elim hg (fun e => by omega), D.ne hb hp, hc⟩

theorem RowK.cap {D : RowD α} {K : Nat → Prop} {w : World} {a : Option Addr} {n c : Nat} {l : List α} (h : RowK D K w (.slice a n c) l) : l.length ≤ c := by
  obtain ⟨a', c', e, hc, _⟩ := h
  injection e with e1 e2 e3
  omega

/-- A row of one's own. -/
def OwnP (D : RowD α) (w : World) (B : Nat) (t : TypeId) (v : Value) (l : List α) : Prop := ∃ css : List (List Value), css.length = l.length ∧ w.ownsRow B t D.k v l.length css.flatten ∧ (∀ c ∈ css, c.length = D.k) ∧ ∀ (j : Nat) (x : α), l[j]? = some x → ∃ cs, css[j]? = some cs ∧ D.P (fun g => g < B ∨ v.ownBlock = some g) w cs x
theorem OwnP.slice {D : RowD α} {w : World} {B : Nat} {t : TypeId} {v : Value} {l : List α} (h : OwnP D w B t v l) : ∃ a c, v = .slice a l.length c := by
  obtain ⟨css, h1, h2, h3, h4⟩ := h
  rcases h2.2 with ⟨rfl, h0⟩ | ⟨g, cap, cur, rfl, _⟩
  · exact ⟨none, 0, by rw [h0]⟩
  · exact ⟨_, cap, rfl⟩
theorem OwnP.first {D : RowD α} {w : World} {B b : Nat} {t : TypeId} {cs : List Value} {x : α} (hb : B ≤ b) (hw : w.heap[b]? = some (.cells cs.toArray t (0, 0))) (hx : D.P (fun g => g < B ∨ g = b) w cs x) : OwnP D w B t (.slice (some ⟨b, 0, none⟩) 1 1) [x] := by
  have hl := D.len hx
  refine ⟨[cs], rfl, ⟨by simp [hl], .inr ⟨b, 1, cs.toArray, rfl, hb, hw, Nat.le_refl _, by unfold maxLen; omega, by simp [hl], by simp [← hl]⟩⟩, fun c hc => by rw [List.mem_singleton.1 hc]; exact hl, fun j y hj => ?_⟩
  match j, hj with
  | 0, hj =>
    obtain rfl : x = y := by simpa using hj
    exact ⟨cs, rfl, D.mono (fun g hg => hg.imp id (fun e => (Option.some.inj e).symm)) hx⟩
  | n + 1, hj => simp at hj
theorem OwnP.own {D : RowD α} {w : World} {B : Nat} {t : TypeId} {v : Value} {l : List α} (h : OwnP D w B t v l) : ∀ g, v.ownBlock = some g → B ≤ g ∧ g < w.heap.size := by
  obtain ⟨css, h1, h2, h3, h4⟩ := h
  intro g hg
  rcases h2.2 with ⟨rfl, h0⟩ | ⟨g', cap, cur, rfl, hb, hh, _⟩
  · cases hg
  · obtain rfl : g' = g := Option.some.inj hg
    exact ⟨hb, (Array.getElem?_eq_some_iff.1 hh).1⟩
/-- What is done to other blocks leaves it. -/
theorem OwnP.keep {D : RowD α} {w w' : World} {B : Nat} {t : TypeId} {v : Value} {l : List α} (h : OwnP D w B t v l) {K : Nat → Prop} (hf : TFr K w w') (hK : ∀ g, K g → g < B) : OwnP D w' B t v l := by
  have ho := h.own
  obtain ⟨css, h1, h2, h3, h4⟩ := h
  refine ⟨css, h1, ⟨h2.1, ?_⟩, h3, fun j x hj => ?_⟩
  · rcases h2.2 with h0 | ⟨g, cap, cur, e, hb, hh, r⟩
    · exact .inl h0
    · exact .inr ⟨g, cap, cur, e, hb, (hf.block g (Array.getElem?_eq_some_iff.1 hh).1 (fun hk => by have := hK g hk; omega)).trans hh, r⟩
  · obtain ⟨cs, hc, hp⟩ := h4 j x hj
    exact ⟨cs, hc, D.keep (hf.mono (fun k _ hk => .inl (hK k hk))) hp⟩
theorem OwnP.append {D : RowD α} {w : World} {B : Nat} {t ts ty : TypeId} {z : Value} {bytes : Nat} (hu : Tryz.prog.underlying ts = some (.slice t)) (hi : (Tryz.prog.info? t).map (fun i => (i.zero, i.size, i.bytes)) = some (some z, D.k, bytes)) (hzs : z.cells.size = D.k) (hk : 0 < D.k) (hby : bytes ≤ 1000)
    {v : Value} {l : List α} (h : OwnP D w B t v l) (hB : B ≤ w.heap.size) (hl : l.length ≤ 1000) {x : α} {cs : List Value} (hx : D.P (fun g => g < B ∨ v.ownBlock = some g) w cs x) {vb : Nat} (hvb : w.heap[vb]? = some (.cells cs.toArray t (0, 0))) :
    ∃ v' w', (Builtin.append_ #[ts, ts] ty #[v, .slice (some ⟨vb, 0, none⟩) 1 1]).run Tryz.prog w = .ok v' w' ∧ OwnP D w' B t v' (l ++ [x]) ∧ w.grownBy w' v.ownBlock := by
  have hown := h.own
  obtain ⟨css, h1, h2, h3, h4⟩ := h
  obtain ⟨i0, hi, hz0, hz1, hz2⟩ := info_parts hi
  have hcl := D.len hx
  have hsrc : ∀ j u, cs[j]? = some u → w.cell? ((⟨vb, 0, none⟩ : Addr).add j) = some u := fun j u hj => by
    have e : (⟨vb, 0, none⟩ : Addr).add j = ⟨vb, j, none⟩ := by unfold Addr.add; split <;> simp_all
    rw [e, cell_of_row w vb j _ t (0, 0) hvb]
    simpa using hj
  obtain ⟨v', w', hr, g2, g3, _, g5⟩ := run_append_own_at (P := Tryz.prog) w B ts ty t i0 _ D.k bytes hu hi hz0 hz1 hz2 hzs hk v l.length css.flatten h2 ⟨vb, 0, none⟩ 1 1 cs (by omega) hsrc (D.one hx) (by unfold maxLen; omega) (by
    have : (l.length + 1) * bytes ≤ 1001 * 1000 := Nat.mul_le_mul (by omega) hby
    omega) hB
  refine ⟨v', w', hr, ⟨css ++ [cs], by simp [h1], ?_, fun c hc => ?_, fun j y hj => ?_⟩, g3⟩
  · rw [List.length_append, List.flatten_append]
    simpa using g2
  · rcases List.mem_append.1 hc with hc | hc
    · exact h3 c hc
    · rw [List.mem_singleton.1 hc]; exact hcl
  · have key : ∀ {cs : List Value} {y : α}, D.P (fun g => g < B ∨ v.ownBlock = some g) w cs y → D.P (fun g => g < B ∨ v'.ownBlock = some g) w' cs y := fun {cs y} hp => by
      rcases g5 with e | e
      · rw [e]
        exact D.keep (TFr.of_grown g3 (fun k hk => .inr hk)) hp
      · rw [e]
        exact D.mono (fun g hg => hg.elim (fun h => .inl (.inl h)) (fun h => .inr (Option.some.inj h).symm)) (D.keep (TFr.of_grown g3 (fun k hk => .inl (.inr hk))) (D.ne (Nat.le_refl _) hp))
    by_cases hlt : j < l.length
    · rw [List.getElem?_append_left hlt] at hj
      obtain ⟨c, hc, hp⟩ := h4 j y hj
      exact ⟨c, by rw [List.getElem?_append_left (by omega)]; exact hc, key hp⟩
    · have hj2 : j = l.length := by
        have := (List.getElem?_eq_some_iff.1 hj).1
        simp at this
        omega
      subst hj2
      obtain rfl : x = y := by simpa using hj
      exact ⟨cs, by rw [← h1]; simp, key hx⟩
theorem OwnP.row {D : RowD α} {w : World} {B : Nat} {t : TypeId} {v : Value} {l : List α} (h : OwnP D w B t v l) : RowK D (· < B) w v l := by
  obtain ⟨css, h1, h2, h3, h4⟩ := h
  rcases h2.2 with ⟨rfl, h0⟩ | ⟨g, cap, cur, rfl, hb, hh, hn, hc, hs, ht⟩
  · exact ⟨none, 0, by rw [h0], by omega, fun j x hj => by have := (List.getElem?_eq_some_iff.1 hj).1; omega⟩
  · refine ⟨_, cap, rfl, hn, fun j x hj => ?_⟩
    obtain ⟨cs, hcs, hp⟩ := h4 j x hj
    refine ⟨g, 0, cs, rfl, Nat.not_lt.2 hb, D.mono (fun k hk => .inl hk) hp, fun r u hu => ?_⟩
    have e1 := flat_at h3 hcs r u hu
    have e2 := (List.getElem?_eq_some_iff.1 e1).1
    rw [cell_of_row w g _ cur t (0, 0) hh, Nat.zero_add]
    rw [← ht, List.getElem?_take, if_pos (by rw [← h1, ← flat_len h3]; exact e2)] at e1
    simpa using e1

theorem RdTo.grown {w W W' : World} {R T E : Nat} {s : RS} (h : RdTo R T E s w W) (hR : R < w.heap.size) {row : Option Nat} (hg : W.grownBy W' row) (hb : ∀ k, row = some k → w.heap.size ≤ k) : RdTo R T E s w W' := by
  have hf : TFr (fun k => row = some k) W W' := TFr.of_grown hg (fun k hk => hk)
  exact ⟨h.rd.other hf (fun k hk e => by have := hb k e; omega), ⟨hf.os.trans h.fr.os, hf.tape.trans h.fr.tape, hf.output.trans h.fr.output, Nat.le_trans h.fr.size hf.size, fun i hi hn => (hf.block i (Nat.lt_of_lt_of_le hi h.fr.size) (fun e => by have := hb i e; omega)).trans (h.fr.block i hi hn)⟩⟩

end Go.Proofs.YtifacoompbngaaaGreatDoor

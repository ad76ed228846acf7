/- The live question of the layer's statements is answered true. -/
import Derived.Test.YtfllemgoldicpaaDoorV9
import Derived.Lib.SlBytesConst
namespace Go.Proofs.YtfllemgoldicpaaDoor
open Go.RowKit Go.Lib Go.Op

set_option maxRecDepth 100000 in
theorem num_calls (n : Int) (w : World) : Calls Tryd.prog 22 #[.int .i64 n] w fun e w' => e = .returned (.agg #[.int .i64 1, .int .i64 n, .string ⟨#[]⟩]) ∧ w' = w.alloc (.cells #[.int .i64 1, .int .i64 n, .string ⟨#[]⟩] 23) := by
  go_enter Tryd.func22, Tryd.ntmps22
  go_wp2
  exact bodyPost_ret (v := .agg #[.int .i64 1, .int .i64 n, .string ⟨#[]⟩]) (by simp [results, Tryd.results22, go_sem]) rfl ⟨rfl, rfl⟩

set_option maxRecDepth 100000 in
theorem text_calls (s : ByteArray) (w : World) : Calls Tryd.prog 23 #[.string s] w fun e w' => e = .returned (.agg #[.int .i64 2, .int .i64 0, .string s]) ∧ w' = w.alloc (.cells #[.int .i64 2, .int .i64 0, .string s] 23) := by
  go_enter Tryd.func23, Tryd.ntmps23
  go_wp2
  exact bodyPost_ret (v := .agg #[.int .i64 2, .int .i64 0, .string s]) (by simp [results, Tryd.results23, go_sem]) rfl ⟨rfl, rfl⟩

theorem size_small {s : ByteArray} (h : s.size ≤ 100) : s.size ≤ maxLen := by unfold maxLen; omega

theorem vadd_of (k1 n1 : Int) (s1 : ByteArray) (k2 n2 : Int) (s2 : ByteArray) {z : PVal × Int} (h1 : s1.size ≤ maxLen) (h2 : s2.size ≤ maxLen) (hz : sumV ⟨k1, n1, s1.data.toList⟩ ⟨k2, n2, s2.data.toList⟩ 1 = z) (w : World) :
    Calls Tryd.prog 10 #[.agg #[.int .i64 k1, .int .i64 n1, .string s1], .agg #[.int .i64 k2, .int .i64 n2, .string s2]] w (SumPost w z) := hz ▸ vadd_calls k1 n1 s1 k2 n2 s2 w h1 h2
theorem vsub_of (k1 n1 : Int) (s1 : ByteArray) (k2 n2 : Int) (s2 : ByteArray) {z : PVal × Int} (h1 : s1.size ≤ maxLen) (h2 : s2.size ≤ maxLen) (hz : sumV ⟨k1, n1, s1.data.toList⟩ ⟨k2, n2, s2.data.toList⟩ (-1) = z) (w : World) :
    Calls Tryd.prog 12 #[.agg #[.int .i64 k1, .int .i64 n1, .string s1], .agg #[.int .i64 k2, .int .i64 n2, .string s2]] w (SumPost w z) := hz ▸ vsub_calls k1 n1 s1 k2 n2 s2 w h1 h2
theorem vcmp_of (op k1 n1 : Int) (s1 : ByteArray) (k2 n2 : Int) (s2 : ByteArray) {z : Bool × Int} (h1 : s1.size ≤ maxLen) (h2 : s2.size ≤ maxLen) (hz : cmpV op ⟨k1, n1, s1.data.toList⟩ ⟨k2, n2, s2.data.toList⟩ = z) (w : World) (hT : HoldsTab w) :
    Calls Tryd.prog 14 #[.int .i64 op, .agg #[.int .i64 k1, .int .i64 n1, .string s1], .agg #[.int .i64 k2, .int .i64 n2, .string s2]] w (CmpPost w z) := hz ▸ vcompare_calls k1 n1 s1 k2 n2 s2 w op h1 h2 hT

theorem cells3 {W w' : World} (hb : Below W.heap.size W w') {b : Nat} {x y z : Value} (h0 : W.cell? ⟨b, 0, none⟩ = some x) (h1 : W.cell? ⟨b, 1, none⟩ = some y) (h2 : W.cell? ⟨b, 2, none⟩ = some z) :
    w'.cell? ⟨b, 0, none⟩ = some x ∧ w'.cell? ⟨b, 1, none⟩ = some y ∧ w'.cell? ⟨b, 2, none⟩ = some z ∧ b < w'.heap.size :=
  ⟨(hb.cell (World.block_lt_of_cell? _ _ h0)).trans h0, (hb.cell (World.block_lt_of_cell? _ _ h1)).trans h1, (hb.cell (World.block_lt_of_cell? _ _ h2)).trans h2, Nat.lt_of_lt_of_le (World.block_lt_of_cell? _ _ h0) hb.size⟩

theorem cellsN {w1 w2 : World} {x y z : Value} (hb : Below (w1.heap.size + 1) (w1.alloc (.cells #[x, y, z] 23)) w2) :
    w2.cell? ⟨w1.heap.size, 0, none⟩ = some x ∧ w2.cell? ⟨w1.heap.size, 1, none⟩ = some y ∧ w2.cell? ⟨w1.heap.size, 2, none⟩ = some z ∧ w1.heap.size < w2.heap.size := by
  have hs : w1.heap.size < (w1.alloc (.cells #[x, y, z] 23)).heap.size := by simp
  refine ⟨(hb.cell (p := ⟨w1.heap.size, 0, none⟩) (Nat.lt_succ_self _)).trans (by simp), (hb.cell (p := ⟨w1.heap.size, 1, none⟩) (Nat.lt_succ_self _)).trans (by simp), (hb.cell (p := ⟨w1.heap.size, 2, none⟩) (Nat.lt_succ_self _)).trans (by simp), Nat.lt_of_lt_of_le hs hb.size⟩

theorem brow_new (w : World) (bs : List UInt8) (cs : Array Value) (t : TypeId) (fr : Nat × Nat) (h : cs.toList = byteCells bs) (c : Nat) (h1 : bs.length ≤ c) (h2 : c ≤ maxLen) : BRow (w.alloc (.cells cs t fr)) (.slice (some ⟨w.heap.size, 0, none⟩) bs.length c) bs :=
  ⟨_, c, rfl, h1, h2, (fun e => by cases e), fun j x hj => ⟨_, rfl, cells_new w bs cs t fr h j _ (by simp [byteCells, hj])⟩⟩

/-- What is owned, at its block. -/
theorem owns_at {w : World} {B : Nat} {v : Value} {n : Nat} {bs : List UInt8} (h : w.ownsRow B 5 1 v n (byteCells bs)) (hn : 0 < n) : ∃ g c, v = .slice (some ⟨g, 0, none⟩) n c ∧ n ≤ c ∧ c ≤ maxLen ∧ B ≤ g ∧ g < w.heap.size ∧ ∀ j x, bs[j]? = some x → w.cell? ⟨g, j, none⟩ = some (.int .u8 x.toNat) := by
  have hc := fun g hg => h.cells (g := g) hg
  have hl := fun g hg => h.lt g hg
  rcases h.2 with ⟨rfl, h0⟩ | ⟨g, cap, cur, rfl, hB, _, h1, h2, _⟩
  · omega
  · refine ⟨g, cap, rfl, h1, h2, hB, (hl g rfl).2, fun j x hj => ?_⟩
    have h3 := hc g rfl j (.int .u8 x.toNat) (by simp [byteCells, hj])
    rw [show ((⟨g, 0, none⟩ : Addr).add j) = ⟨g, j, none⟩ by unfold Addr.add; split <;> simp_all] at h3
    exact h3

theorem vget_some {w : World} {v : Value} {bs : List UInt8} (h : BRow w v bs) {k n : Int} {s : List UInt8} {m : Nat} {sB : ByteArray} (hg : getV bs = some (⟨k, n, s⟩, m)) (hs : strB s = sB) :
    Calls Tryd.prog 20 #[v] w fun e w' => e = .returned (.tuple #[.agg #[.int .i64 k, .int .i64 n, .string sB], .int .i64 m, .bool true]) ∧ Below w.heap.size w w' :=
  (vget_calls w v bs h).mono fun e w' ⟨h1, h2⟩ => ⟨by rw [h1, hg, ← hs]; rfl, h2⟩
theorem vget_none {w : World} {v : Value} {bs : List UInt8} (h : BRow w v bs) (hg : getV bs = none) :
    Calls Tryd.prog 20 #[v] w fun e w' => e = .returned (.tuple #[.agg #[.int .i64 0, .int .i64 0, .string ⟨#[]⟩], .int .i64 0, .bool false]) ∧ Below w.heap.size w w' :=
  (vget_calls w v bs h).mono fun e w' ⟨h1, h2⟩ => ⟨by rw [h1, hg]; rfl, h2⟩

set_option maxHeartbeats 4000000 in
set_option maxRecDepth 100000 in
theorem vhead_calls (w : World) (hT : HoldsTab w) : Calls Tryd.prog 9 #[] w fun e w' => e = .returned (.bool true) ∧ Below w.heap.size w w' := by
  have HT := Lib.hid hT
  have ha1 := Lib.hid (vadd_of 1 2 ⟨#[]⟩ 1 3 ⟨#[]⟩ (z := (⟨1, 5, []⟩, 0)) (size_small (by decide)) (size_small (by decide)) (by decide))
  have ha2 := Lib.hid (vadd_of 1 1099511627776 ⟨#[]⟩ 1 1 ⟨#[]⟩ (z := (⟨0, 0, []⟩, 41)) (size_small (by decide)) (size_small (by decide)) (by decide))
  have ha3 := Lib.hid (vsub_of 1 1 ⟨#[]⟩ 2 0 ⟨#[120]⟩ (z := (⟨0, 0, []⟩, 42)) (size_small (by decide)) (size_small (by decide)) (by decide))
  have hc1 := Lib.hid (vcmp_of 3 2 0 ⟨#[97]⟩ 2 0 ⟨#[97, 98]⟩ (z := (true, 0)) (size_small (by decide)) (size_small (by decide)) (by decide))
  have hc2 := Lib.hid (vcmp_of 3 1 1 ⟨#[]⟩ 2 0 ⟨#[97, 98]⟩ (z := (false, 42)) (size_small (by decide)) (size_small (by decide)) (by decide))
  have hr5 : rightV 1 5 ⟨#[]⟩ = true := by decide
  have hr0 : rightV 0 0 ⟨#[]⟩ = false := by decide
  have hg1 : getV [1, 1, 9] = some (⟨1, -1, []⟩, 2) := by decide
  have hp1 : putV ⟨1, -1, []⟩ = [1, 1] := by rw [putV_1 (by decide) (by decide), show zigN (-1) = 1 from rfl, digsN_lt (by decide)]; rfl
  have hse : (⟨#[]⟩ : ByteArray).size ≤ maxLen := size_small (by decide)
  have Hse := Lib.hid hse
  have Hr5 := Lib.hid hr5
  have Hr0 := Lib.hid hr0
  clear hT hse hr5 hr0
  go_enter Tryd.func9, Tryd.ntmps9
  go_wp2_with (first | (go_at_call 22; refine (num_calls _ _).mono ?_; rintro e wq ⟨rfl, rfl⟩) | (go_at_call 23; refine (text_calls _ _).mono ?_; rintro e wq ⟨rfl, rfl⟩))
  refine (ha1.out _).mono ?_
  rintro e w1 ⟨rfl, hb1⟩
  have HB1 : Hid (Below w.heap.size w w1) := (((Below.refl _ _).alloc (Nat.le_refl _) _).alloc (by simp) _).trans (hb1.mono (by simp <;> omega))
  have HY1 : Hid (Below (w1.heap.size + 1) (w1.alloc (.cells #[.int .i64 1, .int .i64 5, .string ⟨#[]⟩] 23)) (w1.alloc (.cells #[.int .i64 1, .int .i64 5, .string ⟨#[]⟩] 23))) := Below.refl _ _
  clear hb1
  go_wp2_with (first | (go_at_call 22; refine (num_calls _ _).mono ?_; rintro e wq ⟨rfl, rfl⟩) | (go_at_call 23; refine (text_calls _ _).mono ?_; rintro e wq ⟨rfl, rfl⟩))
  refine (ha2.out _).mono ?_
  rintro e w2 ⟨rfl, hb2⟩
  have HB2 : Hid (Below w.heap.size w w2) := (Below.trans (by repeat' (first | exact HB1.out | refine Below.alloc ?_ (by have := HB1.out.size; simp at this ⊢; omega) _)) (hb2.mono (by have := HB1.out.size; simp at this ⊢; omega)))
  have HY2 : Hid (Below (w1.heap.size + 1) (w1.alloc (.cells #[.int .i64 1, .int .i64 5, .string ⟨#[]⟩] 23)) w2) := (Below.trans (((Below.refl _ (w1.alloc (.cells #[.int .i64 1, .int .i64 5, .string ⟨#[]⟩] 23))).alloc (by simp) _).alloc (by simp) _) (hb2.mono (by simp <;> omega)))
  clear hb2 HY1
  go_wp2_with (first | (go_at_call 22; refine (num_calls _ _).mono ?_; rintro e wq ⟨rfl, rfl⟩) | (go_at_call 23; refine (text_calls _ _).mono ?_; rintro e wq ⟨rfl, rfl⟩))
  refine (ha3.out _).mono ?_
  rintro e w3 ⟨rfl, hb3⟩
  have HB3 : Hid (Below w.heap.size w w3) := (Below.trans (by repeat' (first | exact HB2.out | refine Below.alloc ?_ (by have := HB2.out.size; simp at this ⊢; omega) _)) (hb3.mono (by have := HB2.out.size; simp at this ⊢; omega)))
  have HY3 : Hid (Below (w1.heap.size + 1) (w1.alloc (.cells #[.int .i64 1, .int .i64 5, .string ⟨#[]⟩] 23)) w3) := (Below.trans (by repeat' (first | exact HY2.out | refine Below.alloc ?_ (by have := HY2.out.size; simp at this ⊢; omega) _)) (hb3.mono (by have := HY2.out.size; simp at this ⊢; omega)))
  clear hb3
  go_wp2_with (first | (go_at_call 22; refine (num_calls _ _).mono ?_; rintro e wq ⟨rfl, rfl⟩) | (go_at_call 23; refine (text_calls _ _).mono ?_; rintro e wq ⟨rfl, rfl⟩))
  refine (hc1.out _ (HT.out.below (by repeat' (first | exact HB3.out | refine Below.alloc ?_ (by have := HB3.out.size; simp at this ⊢; omega) _)))).mono ?_
  rintro e w4 ⟨rfl, hb4⟩
  have HB4 : Hid (Below w.heap.size w w4) := (Below.trans (by repeat' (first | exact HB3.out | refine Below.alloc ?_ (by have := HB3.out.size; simp at this ⊢; omega) _)) (hb4.mono (by have := HB3.out.size; simp at this ⊢; omega)))
  have HY4 : Hid (Below (w1.heap.size + 1) (w1.alloc (.cells #[.int .i64 1, .int .i64 5, .string ⟨#[]⟩] 23)) w4) := (Below.trans (by repeat' (first | exact HY3.out | refine Below.alloc ?_ (by have := HY3.out.size; simp at this ⊢; omega) _)) (hb4.mono (by have := HY3.out.size; simp at this ⊢; omega)))
  clear hb4
  go_wp2_with (first | (go_at_call 22; refine (num_calls _ _).mono ?_; rintro e wq ⟨rfl, rfl⟩) | (go_at_call 23; refine (text_calls _ _).mono ?_; rintro e wq ⟨rfl, rfl⟩))
  refine (hc2.out _ (HT.out.below (by repeat' (first | exact HB4.out | refine Below.alloc ?_ (by have := HB4.out.size; simp at this ⊢; omega) _)))).mono ?_
  rintro e w5 ⟨rfl, hb5⟩
  have HB5 : Hid (Below w.heap.size w w5) := (Below.trans (by repeat' (first | exact HB4.out | refine Below.alloc ?_ (by have := HB4.out.size; simp at this ⊢; omega) _)) (hb5.mono (by have := HB4.out.size; simp at this ⊢; omega)))
  have HY5 : Hid (Below (w1.heap.size + 1) (w1.alloc (.cells #[.int .i64 1, .int .i64 5, .string ⟨#[]⟩] 23)) w5) := (Below.trans (by repeat' (first | exact HY4.out | refine Below.alloc ?_ (by have := HY4.out.size; simp at this ⊢; omega) _)) (hb5.mono (by have := HY4.out.size; simp at this ⊢; omega)))
  have hg := vget_some (brow_new w5 [1, 1, 9] #[.int .u8 1, .int .u8 1, .int .u8 9] 5 (0, 0) rfl 3 (by decide) (by unfold maxLen; decide)) hg1 (sB := ⟨#[]⟩) rfl
  clear hb5 hg1
  go_wp2_with fail
  refine hg.mono ?_
  rintro e w6 ⟨rfl, hb6⟩
  have HB6 : Hid (Below w.heap.size w w6) := (Below.trans (by repeat' (first | exact HB5.out | refine Below.alloc ?_ (by have := HB5.out.size; simp at this ⊢; omega) _)) (hb6.mono (by have := HB5.out.size; simp at this ⊢; omega)))
  have HY6 : Hid (Below (w1.heap.size + 1) (w1.alloc (.cells #[.int .i64 1, .int .i64 5, .string ⟨#[]⟩] 23)) w6) := (Below.trans (by repeat' (first | exact HY5.out | refine Below.alloc ?_ (by have := HY5.out.size; simp at this ⊢; omega) _)) (hb6.mono (by have := HY5.out.size; simp at this ⊢; omega)))
  clear hb6 hg
  go_wp2_with (first | (go_at_call 22; refine (num_calls _ _).mono ?_; rintro e wq ⟨rfl, rfl⟩) | (go_at_call 23; refine (text_calls _ _).mono ?_; rintro e wq ⟨rfl, rfl⟩))
  have hp := vput_calls 1 (-1) ⟨#[]⟩ ((w6.alloc (.cells #[.int .i64 1, .int .i64 (-1), .string ⟨#[]⟩] 23)).alloc (.cells #[.int .i64 1, .int .i64 (-1), .string ⟨#[]⟩] 23)) Hse.out
  rw [show (⟨#[]⟩ : ByteArray).data.toList = [] from rfl, hp1] at hp
  refine hp.mono ?_
  rintro e w7 ⟨v7, rfl, hown7, hb7⟩
  have HB7 : Hid (Below w.heap.size w w7) := (Below.trans (by repeat' (first | exact HB6.out | refine Below.alloc ?_ (by have := HB6.out.size; simp at this ⊢; omega) _)) (hb7.mono (by have := HB6.out.size; simp at this ⊢; omega)))
  have HY7 : Hid (Below (w1.heap.size + 1) (w1.alloc (.cells #[.int .i64 1, .int .i64 5, .string ⟨#[]⟩] 23)) w7) := (Below.trans (by repeat' (first | exact HY6.out | refine Below.alloc ?_ (by have := HY6.out.size; simp at this ⊢; omega) _)) (hb7.mono (by have := HY6.out.size; simp at this ⊢; omega)))
  have HZ7 : Hid (Below (w6.heap.size + 1) (w6.alloc (.cells #[.int .i64 1, .int .i64 (-1), .string ⟨#[]⟩] 23)) w7) := (((Below.refl _ _).alloc (by simp) _).trans (hb7.mono (by simp <;> omega)))
  obtain ⟨g, c, rfl, hc1, hc2, hg1, hg2, hgc⟩ := owns_at hown7 (by decide)
  have k0 : w7.cell? ⟨g, 0, none⟩ = some (.int .u8 1) := hgc 0 1 rfl
  have k1 : w7.cell? ⟨g, 1, none⟩ = some (.int .u8 1) := hgc 1 1 rfl
  obtain ⟨y0, y1, y2, y3⟩ := cellsN HY7.out
  obtain ⟨z0, z1, z2, z3⟩ := cellsN HZ7.out
  clear hb7 hp hp1 hown7 hgc hg1
  have hr5 := Hr5.out
  have hr0 := Hr0.out
  have hlen : ([1, 1] : List UInt8).length = 2 := rfl
  rw [hlen]
  clear hlen
  have hB7d := Lib.hid (vbelow_drew HB7.out)
  have HN : Hid (∀ (n : Int) (W : World), W.cell? ⟨w1.heap.size, 0, none⟩ = some (.int .i64 1) → W.cell? ⟨w1.heap.size, 1, none⟩ = some (.int .i64 5) → W.cell? ⟨w1.heap.size, 2, none⟩ = some (.string ⟨#[]⟩) → W.cell? ⟨w6.heap.size, 0, none⟩ = some (.int .i64 1) → W.cell? ⟨w6.heap.size, 1, none⟩ = some (.int .i64 (-1)) → W.cell? ⟨w6.heap.size, 2, none⟩ = some (.string ⟨#[]⟩) → W.cell? ⟨g, 0, none⟩ = some (.int .u8 1) → W.cell? ⟨g, 1, none⟩ = some (.int .u8 1) → Hid (Below w.heap.size w W) → Calls Tryd.prog 22 #[.int .i64 n] W fun e w' => e = .returned (.agg #[.int .i64 1, .int .i64 n, .string ⟨#[]⟩]) ∧ w'.cell? ⟨w1.heap.size, 0, none⟩ = some (.int .i64 1) ∧ w'.cell? ⟨w1.heap.size, 1, none⟩ = some (.int .i64 5) ∧ w'.cell? ⟨w1.heap.size, 2, none⟩ = some (.string ⟨#[]⟩) ∧ w'.cell? ⟨w6.heap.size, 0, none⟩ = some (.int .i64 1) ∧ w'.cell? ⟨w6.heap.size, 1, none⟩ = some (.int .i64 (-1)) ∧ w'.cell? ⟨w6.heap.size, 2, none⟩ = some (.string ⟨#[]⟩) ∧ w'.cell? ⟨g, 0, none⟩ = some (.int .u8 1) ∧ w'.cell? ⟨g, 1, none⟩ = some (.int .u8 1) ∧ Hid (Below w.heap.size w w')) := fun n W q0 q1 q2 q3 q4 q5 q6 q7 hB => (num_calls n W).mono fun e w' ⟨e1, e2⟩ => by
    have hb2 : Below W.heap.size W w' := by rw [e2]; exact (Below.refl _ _).alloc (Nat.le_refl _) _
    have k : ∀ {p : Addr} {v : Value}, W.cell? p = some v → w'.cell? p = some v := fun hp => (hb2.cell (World.block_lt_of_cell? _ _ hp)).trans hp
    exact ⟨e1, k q0, k q1, k q2, k q3, k q4, k q5, k q6, k q7, hB.out.trans (hb2.mono hB.out.size)⟩
  have HR5 : Hid (∀ (W : World), W.cell? ⟨w1.heap.size, 0, none⟩ = some (.int .i64 1) → W.cell? ⟨w1.heap.size, 1, none⟩ = some (.int .i64 5) → W.cell? ⟨w1.heap.size, 2, none⟩ = some (.string ⟨#[]⟩) → W.cell? ⟨w6.heap.size, 0, none⟩ = some (.int .i64 1) → W.cell? ⟨w6.heap.size, 1, none⟩ = some (.int .i64 (-1)) → W.cell? ⟨w6.heap.size, 2, none⟩ = some (.string ⟨#[]⟩) → W.cell? ⟨g, 0, none⟩ = some (.int .u8 1) → W.cell? ⟨g, 1, none⟩ = some (.int .u8 1) → Hid (Below w.heap.size w W) → Calls Tryd.prog 16 #[.agg #[.int .i64 1, .int .i64 5, .string ⟨#[]⟩]] W fun e w' => e = .returned (.bool true) ∧ w'.cell? ⟨w1.heap.size, 0, none⟩ = some (.int .i64 1) ∧ w'.cell? ⟨w1.heap.size, 1, none⟩ = some (.int .i64 5) ∧ w'.cell? ⟨w1.heap.size, 2, none⟩ = some (.string ⟨#[]⟩) ∧ w'.cell? ⟨w6.heap.size, 0, none⟩ = some (.int .i64 1) ∧ w'.cell? ⟨w6.heap.size, 1, none⟩ = some (.int .i64 (-1)) ∧ w'.cell? ⟨w6.heap.size, 2, none⟩ = some (.string ⟨#[]⟩) ∧ w'.cell? ⟨g, 0, none⟩ = some (.int .u8 1) ∧ w'.cell? ⟨g, 1, none⟩ = some (.int .u8 1) ∧ Hid (Below w.heap.size w w')) := fun W q0 q1 q2 q3 q4 q5 q6 q7 hB => (hr5 ▸ vright_calls 1 5 ⟨#[]⟩ W Hse.out).mono fun e w' ⟨e1, e2⟩ => by
    have hb2 : Below W.heap.size W w' := by rw [e2]; exact (Below.refl _ _).alloc (Nat.le_refl _) _
    have k : ∀ {p : Addr} {v : Value}, W.cell? p = some v → w'.cell? p = some v := fun hp => (hb2.cell (World.block_lt_of_cell? _ _ hp)).trans hp
    exact ⟨e1, k q0, k q1, k q2, k q3, k q4, k q5, k q6, k q7, hB.out.trans (hb2.mono hB.out.size)⟩
  have HR0 : Hid (∀ (W : World), W.cell? ⟨w1.heap.size, 0, none⟩ = some (.int .i64 1) → W.cell? ⟨w1.heap.size, 1, none⟩ = some (.int .i64 5) → W.cell? ⟨w1.heap.size, 2, none⟩ = some (.string ⟨#[]⟩) → W.cell? ⟨w6.heap.size, 0, none⟩ = some (.int .i64 1) → W.cell? ⟨w6.heap.size, 1, none⟩ = some (.int .i64 (-1)) → W.cell? ⟨w6.heap.size, 2, none⟩ = some (.string ⟨#[]⟩) → W.cell? ⟨g, 0, none⟩ = some (.int .u8 1) → W.cell? ⟨g, 1, none⟩ = some (.int .u8 1) → Hid (Below w.heap.size w W) → Calls Tryd.prog 16 #[.agg #[.int .i64 0, .int .i64 0, .string ⟨#[]⟩]] W fun e w' => e = .returned (.bool false) ∧ w'.cell? ⟨w1.heap.size, 0, none⟩ = some (.int .i64 1) ∧ w'.cell? ⟨w1.heap.size, 1, none⟩ = some (.int .i64 5) ∧ w'.cell? ⟨w1.heap.size, 2, none⟩ = some (.string ⟨#[]⟩) ∧ w'.cell? ⟨w6.heap.size, 0, none⟩ = some (.int .i64 1) ∧ w'.cell? ⟨w6.heap.size, 1, none⟩ = some (.int .i64 (-1)) ∧ w'.cell? ⟨w6.heap.size, 2, none⟩ = some (.string ⟨#[]⟩) ∧ w'.cell? ⟨g, 0, none⟩ = some (.int .u8 1) ∧ w'.cell? ⟨g, 1, none⟩ = some (.int .u8 1) ∧ Hid (Below w.heap.size w w')) := fun W q0 q1 q2 q3 q4 q5 q6 q7 hB => (hr0 ▸ vright_calls 0 0 ⟨#[]⟩ W Hse.out).mono fun e w' ⟨e1, e2⟩ => by
    have hb2 : Below W.heap.size W w' := by rw [e2]; exact (Below.refl _ _).alloc (Nat.le_refl _) _
    have k : ∀ {p : Addr} {v : Value}, W.cell? p = some v → w'.cell? p = some v := fun hp => (hb2.cell (World.block_lt_of_cell? _ _ hp)).trans hp
    exact ⟨e1, k q0, k q1, k q2, k q3, k q4, k q5, k q6, k q7, hB.out.trans (hb2.mono hB.out.size)⟩
  clear hr5 hr0
  go_wp2
  simp only [List.append]
  go_region_held3 (fun W => W.cell? ⟨w1.heap.size, 0, none⟩ = some (.int .i64 1) ∧ W.cell? ⟨w1.heap.size, 1, none⟩ = some (.int .i64 5) ∧ W.cell? ⟨w1.heap.size, 2, none⟩ = some (.string ⟨#[]⟩) ∧ W.cell? ⟨w6.heap.size, 0, none⟩ = some (.int .i64 1) ∧ W.cell? ⟨w6.heap.size, 1, none⟩ = some (.int .i64 (-1)) ∧ W.cell? ⟨w6.heap.size, 2, none⟩ = some (.string ⟨#[]⟩) ∧ W.cell? ⟨g, 0, none⟩ = some (.int .u8 1) ∧ W.cell? ⟨g, 1, none⟩ = some (.int .u8 1) ∧ Hid (Below w.heap.size w W))
    ((refine ⟨?_, ?_, ?_, ?_, ?_, ?_, ?_, ?_, ?_⟩ <;> assumption))
    (first
      | (go_at_call 22; (with_reducible refine (HN.out _ _ ?_ ?_ ?_ ?_ ?_ ?_ ?_ ?_ ?_).mono ?_); (iterate 9 assumption); rintro e w8 ⟨rfl, q0, q1, q2, q3, q4, q5, q6, q7, q8⟩)
      | (go_at_call 16; (with_reducible refine (HR5.out _ ?_ ?_ ?_ ?_ ?_ ?_ ?_ ?_ ?_).mono ?_); (iterate 9 assumption); rintro e w8 ⟨rfl, q0, q1, q2, q3, q4, q5, q6, q7, q8⟩)
      | (go_at_call 16; (with_reducible refine (HR0.out _ ?_ ?_ ?_ ?_ ?_ ?_ ?_ ?_ ?_).mono ?_); (iterate 9 assumption); rintro e w8 ⟨rfl, q0, q1, q2, q3, q4, q5, q6, q7, q8⟩))
  all_goals
    go_wp2
    go_ret
    exact ⟨rfl, by apply Hid.out; assumption⟩

end Go.Proofs.YtfllemgoldicpaaDoor

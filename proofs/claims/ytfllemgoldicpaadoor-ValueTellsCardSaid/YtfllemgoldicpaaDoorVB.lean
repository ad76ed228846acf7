/- The statement ValueSums, its walk. -/
import Derived.Test.YtfllemgoldicpaaDoorVA
import Derived.Deep.DeepCutAuto
import Derived.Deep.RegionHeld
namespace Go.Proofs.YtfllemgoldicpaaDoor
open Go.RowKit Go.Lib Go.Op

/-- What a law's call leaves. -/
def SFine (w : World) (e : Ending) (w' : World) : Prop := e = .returned (.bool true) ∧ Below w.heap.size w w'

theorem rightB_num {n : Int} : rightB ⟨1, n, []⟩ = true ↔ -1099511627776 ≤ n ∧ n ≤ 1099511627776 := by
  rw [rightB_1]; simp
theorem rightB_numf {n : Int} (h : ¬ (-1099511627776 ≤ n ∧ n ≤ 1099511627776)) : rightB ⟨1, n, []⟩ = false := by
  cases e : rightB ⟨1, n, []⟩ with
  | false => rfl
  | true => exact absurd (rightB_num.1 e) h

theorem sum_comm (a b : Int) : sumV ⟨1, a, []⟩ ⟨1, b, []⟩ 1 = sumV ⟨1, b, []⟩ ⟨1, a, []⟩ 1 := by
  unfold sumV
  simp only [Int.one_mul]
  rw [Int.add_comm b a]
  cases rightB ⟨1, a, []⟩ <;> cases rightB ⟨1, b, []⟩ <;> simp

/-- A sum of two numbers, whole or not. -/
theorem sum_cases (a b : Int) : (∃ e, e ≠ 0 ∧ sumV ⟨1, a, []⟩ ⟨1, b, []⟩ 1 = (⟨0, 0, []⟩, e)) ∨
    (rightB ⟨1, a, []⟩ = true ∧ rightB ⟨1, b, []⟩ = true ∧ rightB ⟨1, a + b, []⟩ = true ∧ sumV ⟨1, a, []⟩ ⟨1, b, []⟩ 1 = (⟨1, a + b, []⟩, 0)) := by
  cases h1 : rightB ⟨1, a, []⟩ with
  | false => exact .inl ⟨1, by decide, sumV_arg (.inl h1)⟩
  | true =>
  cases h2 : rightB ⟨1, b, []⟩ with
  | false => exact .inl ⟨1, by decide, sumV_arg (.inr h2)⟩
  | true =>
  cases h3 : rightB ⟨1, a + b, []⟩ with
  | false => exact .inl ⟨41, by decide, sumV_big h1 h2 rfl rfl (by simpa using h3)⟩
  | true => exact .inr ⟨rfl, rfl, rfl, by rw [sumV_ok h1 h2 rfl rfl (by simpa using h3)]; simp⟩

theorem sub_of {x b : Int} (h1 : rightB ⟨1, x, []⟩ = true) (h2 : rightB ⟨1, b, []⟩ = true) {a : Int} (h3 : rightB ⟨1, a, []⟩ = true) (h : x - b = a) : sumV ⟨1, x, []⟩ ⟨1, b, []⟩ (-1) = (⟨1, a, []⟩, 0) := by
  have e : x + -1 * b = a := by omega
  rw [sumV_ok h1 h2 rfl rfl (by rw [e]; exact h3)]
  simp only [e]

theorem keepAl {W : World} {p : Addr} {v : Value} (o : Obj) (h : W.cell? p = some v) : (W.alloc o).cell? p = some v := (World.cell?_alloc_lt _ _ _ (World.block_lt_of_cell? _ _ h)).trans h

/-- A number's cells. -/
def trip (b : Nat) (n : Int) : List (Nat × Nat × Value) := [(b, 0, .int .i64 1), (b, 1, .int .i64 n), (b, 2, .string ⟨#[]⟩)]

/-- Cells that are held. -/
structure SL (w : World) (L : List (Nat × Nat × Value)) (W : World) : Prop where
  cs : ∀ b i v, (b, i, v) ∈ L → W.cell? ⟨b, i, none⟩ = some v
  hb : Below w.heap.size w W

theorem SL.below {w : World} {L : List (Nat × Nat × Value)} {W W' : World} (h : SL w L W) (hb : Below W.heap.size W W') : SL w L W' :=
  ⟨fun b i v hm => (hb.cell (World.block_lt_of_cell? _ _ (h.cs b i v hm))).trans (h.cs b i v hm), h.hb.trans (hb.mono h.hb.size)⟩
theorem SL.alloc {w : World} {L : List (Nat × Nat × Value)} {W : World} (o : Obj) (h : Hid (SL w L W)) : Hid (SL w L (W.alloc o)) := h.out.below ((Below.refl _ _).alloc (Nat.le_refl _) o)
theorem SL.drew {w : World} {L : List (Nat × Nat × Value)} {W : World} (h : Hid (SL w L W)) : Hid (SL w L W.drew) := h.out.below (vbelow_drew (Below.refl _ _))
theorem SL.set {w : World} {L : List (Nat × Nat × Value)} {W : World} {Y : Nat} (hY : ∀ b i v, (b, i, v) ∈ L → b ≠ Y) (hw : w.heap.size ≤ Y) (h : Hid (SL w L W)) (a b c : Value) : Hid (SL w L (((W.setCell ⟨Y, 0, none⟩ a).setCell ⟨Y, 1, none⟩ b).setCell ⟨Y, 2, none⟩ c)) :=
  ⟨fun q i v hm => keep3n (h.out.cs q i v hm) (hY q i v hm) _ _ _, by repeat' (first | exact h.out.hb | refine Below.setCell ?_ hw _)⟩
theorem SL.lt {w : World} {L : List (Nat × Nat × Value)} {W : World} (h : Hid (SL w L W)) : ∀ b i v, (b, i, v) ∈ L → b < W.heap.size := fun b i v hm => World.block_lt_of_cell? _ _ (h.out.cs b i v hm)
theorem SL.conj {w : World} {L : List (Nat × Nat × Value)} {W : World} {X : Nat} {x : Int} (h : Hid (SL w (trip X x ++ L) W)) : W.cell? ⟨X, 0, none⟩ = some (.int .i64 1) ∧ W.cell? ⟨X, 1, none⟩ = some (.int .i64 x) ∧ W.cell? ⟨X, 2, none⟩ = some (.string ⟨#[]⟩) ∧ Hid (SL w (trip X x ++ L) W) :=
  ⟨h.out.cs _ _ _ (by simp [trip]), h.out.cs _ _ _ (by simp [trip]), h.out.cs _ _ _ (by simp [trip]), h⟩
theorem SL.add {w : World} {L : List (Nat × Nat × Value)} {W : World} {Y : Nat} {y : Int} (h : Hid (SL w L W)) (h0 : W.cell? ⟨Y, 0, none⟩ = some (.int .i64 1)) (h1 : W.cell? ⟨Y, 1, none⟩ = some (.int .i64 y)) (h2 : W.cell? ⟨Y, 2, none⟩ = some (.string ⟨#[]⟩)) : Hid (SL w (L ++ trip Y y) W) :=
  ⟨fun b i v hm => by
    rcases List.mem_append.1 hm with h3 | h3
    · exact h.out.cs b i v h3
    · simp only [trip, List.mem_cons, Prod.mk.injEq, List.not_mem_nil, or_false] at h3
      rcases h3 with ⟨rfl, rfl, rfl⟩ | ⟨rfl, rfl, rfl⟩ | ⟨rfl, rfl, rfl⟩
      · exact h0
      · exact h1
      · exact h2, h.out.hb⟩

theorem SL.four {w : World} {W : World} {X Y V U : Nat} {x y v : Int} (h : Hid (SL w ((trip X x ++ ([] ++ trip Y y ++ trip V v)) ++ trip U 0) W)) : W.cell? ⟨X, 1, none⟩ = some (.int .i64 x) ∧ (W.cell? ⟨Y, 0, none⟩ = some (.int .i64 1) ∧ W.cell? ⟨Y, 1, none⟩ = some (.int .i64 y) ∧ W.cell? ⟨Y, 2, none⟩ = some (.string ⟨#[]⟩)) ∧ (W.cell? ⟨V, 0, none⟩ = some (.int .i64 1) ∧ W.cell? ⟨V, 1, none⟩ = some (.int .i64 v) ∧ W.cell? ⟨V, 2, none⟩ = some (.string ⟨#[]⟩)) ∧ (W.cell? ⟨U, 0, none⟩ = some (.int .i64 1) ∧ W.cell? ⟨U, 1, none⟩ = some (.int .i64 0) ∧ W.cell? ⟨U, 2, none⟩ = some (.string ⟨#[]⟩)) :=
  ⟨h.out.cs _ _ _ (by simp [trip]), ⟨h.out.cs _ _ _ (by simp [trip]), h.out.cs _ _ _ (by simp [trip]), h.out.cs _ _ _ (by simp [trip])⟩, ⟨h.out.cs _ _ _ (by simp [trip]), h.out.cs _ _ _ (by simp [trip]), h.out.cs _ _ _ (by simp [trip])⟩, ⟨h.out.cs _ _ _ (by simp [trip]), h.out.cs _ _ _ (by simp [trip]), h.out.cs _ _ _ (by simp [trip])⟩⟩
theorem SL.eleven {w : World} {W : World} {X Y V U : Nat} {x y v : Int} (h : Hid (SL w ((trip X x ++ ([] ++ trip Y y ++ trip V v)) ++ trip U 0) W)) : W.cell? ⟨X, 1, none⟩ = some (.int .i64 x) ∧ W.cell? ⟨Y, 0, none⟩ = some (.int .i64 1) ∧ W.cell? ⟨Y, 1, none⟩ = some (.int .i64 y) ∧ W.cell? ⟨Y, 2, none⟩ = some (.string ⟨#[]⟩) ∧ W.cell? ⟨V, 0, none⟩ = some (.int .i64 1) ∧ W.cell? ⟨V, 1, none⟩ = some (.int .i64 v) ∧ W.cell? ⟨V, 2, none⟩ = some (.string ⟨#[]⟩) ∧ W.cell? ⟨U, 0, none⟩ = some (.int .i64 1) ∧ W.cell? ⟨U, 1, none⟩ = some (.int .i64 0) ∧ W.cell? ⟨U, 2, none⟩ = some (.string ⟨#[]⟩) ∧ Hid (SL w ((trip X x ++ ([] ++ trip Y y ++ trip V v)) ++ trip U 0) W) := by
  obtain ⟨a, ⟨b, c, d⟩, ⟨e, f, g⟩, i, j, k⟩ := SL.four h
  exact ⟨a, b, c, d, e, f, g, i, j, k, h⟩

set_option maxHeartbeats 4000000 in
set_option maxRecDepth 100000 in
theorem sums_walk (w : World) (hT : HoldsTab w) (a b : Int) (_ha : -9223372036854775808 ≤ a ∧ a ≤ 9223372036854775807) (_hb : -9223372036854775808 ≤ b ∧ b ≤ 9223372036854775807) :
    Calls Tryd.prog 7 #[.int .i64 a, .int .i64 b] w (SFine w) := by
  have hse : (⟨#[]⟩ : ByteArray).size ≤ maxLen := size_small (by decide)
  rcases sum_cases a b with ⟨e, he, hsum⟩ | ⟨r1, r2, r3, hsum⟩
  · have HA := Lib.hid (vadd_of 1 a ⟨#[]⟩ 1 b ⟨#[]⟩ hse hse hsum)
    have HB := Lib.hid (vadd_of 1 b ⟨#[]⟩ 1 a ⟨#[]⟩ hse hse ((sum_comm b a).trans hsum))
    have he2 : (e != 0) = true := by rw [bne_iff_ne]; exact he
    clear he hsum hse
    go_enter Tryd.func7, Tryd.ntmps7
    go_wp2_with fail
    refine (vhead_calls w hT).mono ?_
    rintro _ w1 ⟨rfl, hb1⟩
    have HB1 := Lib.hid hb1
    clear hb1
    go_wp2_with (first | (go_at_call 22; refine (num_calls _ _).mono ?_; rintro e wq ⟨rfl, rfl⟩))
    refine (HA.out _).mono ?_
    rintro _ w2 ⟨rfl, hb2⟩
    have HB2 : Hid (Below w.heap.size w w2) := (Below.trans (by repeat' (first | exact HB1.out | refine Below.alloc ?_ (by have := HB1.out.size; simp at this ⊢; omega) _)) (hb2.mono (by have := HB1.out.size; simp at this ⊢; omega)))
    have HY2 : Hid (Below (w2.heap.size + 1) (w2.alloc (.cells #[.int .i64 0, .int .i64 0, .string ⟨#[]⟩] 23)) (w2.alloc (.cells #[.int .i64 0, .int .i64 0, .string ⟨#[]⟩] 23))) := Below.refl _ _
    clear hb2
    go_wp2_with (first | (go_at_call 22; refine (num_calls _ _).mono ?_; rintro e wq ⟨rfl, rfl⟩))
    refine (HB.out _).mono ?_
    rintro _ w3 ⟨rfl, hb3⟩
    have HB3 : Hid (Below w.heap.size w w3) := (Below.trans (by repeat' (first | exact HB2.out | refine Below.alloc ?_ (by have := HB2.out.size; simp at this ⊢; omega) _)) (hb3.mono (by have := HB2.out.size; simp at this ⊢; omega)))
    have HY3 : Hid (Below (w2.heap.size + 1) (w2.alloc (.cells #[.int .i64 0, .int .i64 0, .string ⟨#[]⟩] 23)) w3) := (Below.trans (((Below.refl _ (w2.alloc (.cells #[.int .i64 0, .int .i64 0, .string ⟨#[]⟩] 23))).alloc (by simp) _).alloc (by simp) _) (hb3.mono (by simp <;> omega)))
    obtain ⟨y0, y1, y2, y3⟩ := cellsN HY3.out
    clear hb3
    go_wp2
    go_ret
    exact ⟨rfl, by repeat' (first | exact HB3.out | refine Below.alloc ?_ (by have := HB3.out.size; simp at this ⊢; omega) _)⟩
  · have HA := Lib.hid (vadd_of 1 a ⟨#[]⟩ 1 b ⟨#[]⟩ hse hse hsum)
    have HB := Lib.hid (vadd_of 1 b ⟨#[]⟩ 1 a ⟨#[]⟩ hse hse ((sum_comm b a).trans hsum))
    have HSb := Lib.hid (vsub_of 1 (a + b) ⟨#[]⟩ 1 b ⟨#[]⟩ (z := (⟨1, a, []⟩, 0)) hse hse (sub_of r3 r2 r1 (by omega)))
    have HSa := Lib.hid (vsub_of 1 (a + b) ⟨#[]⟩ 1 a ⟨#[]⟩ (z := (⟨1, b, []⟩, 0)) hse hse (sub_of r3 r1 r2 (by omega)))
    have HSx := Lib.hid (vsub_of 1 (a + b) ⟨#[]⟩ 1 (a + b) ⟨#[]⟩ (z := (⟨1, 0, []⟩, 0)) hse hse (sub_of r3 r3 (by decide) (by omega)))
    obtain ⟨a1, a2⟩ := rightB_num.1 r1
    obtain ⟨b1, b2⟩ := rightB_num.1 r2
    clear hsum hse r1 r2 r3 _ha _hb
    go_enter Tryd.func7, Tryd.ntmps7
    go_wp2_with fail
    refine (vhead_calls w hT).mono ?_
    rintro _ w1 ⟨rfl, hb1⟩
    have HB1 := Lib.hid hb1
    clear hb1 hT
    go_wp2_with (first | (go_at_call 22; refine (num_calls _ _).mono ?_; rintro e wq ⟨rfl, rfl⟩))
    refine (HA.out _).mono ?_
    rintro _ w2 ⟨rfl, hb2⟩
    have HB2 : Hid (Below w.heap.size w w2) := (Below.trans (by repeat' (first | exact HB1.out | refine Below.alloc ?_ (by have := HB1.out.size; simp at this ⊢; omega) _)) (hb2.mono (by have := HB1.out.size; simp at this ⊢; omega)))
    clear hb2
    go_wp2_with (first | (go_at_call 22; refine (num_calls _ _).mono ?_; rintro e wq ⟨rfl, rfl⟩))
    refine (HB.out _).mono ?_
    rintro _ w3 ⟨rfl, hb3⟩
    have HB3 : Hid (Below w.heap.size w w3) := (Below.trans (by repeat' (first | exact HB2.out | refine Below.alloc ?_ (by have := HB2.out.size; simp at this ⊢; omega) _)) (hb3.mono (by have := HB2.out.size; simp at this ⊢; omega)))
    have HY3 : Hid (Below (w2.heap.size + 1) (w2.alloc (.cells #[.int .i64 1, .int .i64 (a + b), .string ⟨#[]⟩] 23)) w3) := (Below.trans (((Below.refl _ (w2.alloc (.cells #[.int .i64 1, .int .i64 (a + b), .string ⟨#[]⟩] 23))).alloc (by simp) _).alloc (by simp) _) (hb3.mono (by simp <;> omega)))
    obtain ⟨y0, y1, y2, y3⟩ := cellsN HY3.out
    clear hb3
    go_upto_region 8 with fail
    obtain ⟨W4, hW4⟩ : ∃ W4, W4 = w3.alloc (.cells #[.int .i64 1, .int .i64 (a + b), .string ⟨#[]⟩] 23) := ⟨_, rfl⟩
    have k0 : W4.cell? ⟨w2.heap.size, 0, none⟩ = some (.int .i64 1) := by rw [hW4]; exact keepAl _ y0
    have k1 : W4.cell? ⟨w2.heap.size, 1, none⟩ = some (.int .i64 (a + b)) := by rw [hW4]; exact keepAl _ y1
    have k2 : W4.cell? ⟨w2.heap.size, 2, none⟩ = some (.string ⟨#[]⟩) := by rw [hW4]; exact keepAl _ y2
    have HB4 : Hid (Below w.heap.size w W4) := by show Below _ _ _; rw [hW4]; exact HB3.out.alloc HB3.out.size _
    rw [← hW4]
    clear hW4 y0 y1 y2 y3 HY3 HB3 HB2 HB1 HA HB
    generalize w2.heap.size = X at *
    have HL0 : Hid (SL w (trip X (a + b) ++ []) W4) := ⟨fun q i v hm => by
      simp only [trip, List.append_nil, List.mem_cons, Prod.mk.injEq, List.not_mem_nil, or_false] at hm
      rcases hm with ⟨rfl, rfl, rfl⟩ | ⟨rfl, rfl, rfl⟩ | ⟨rfl, rfl, rfl⟩
      · exact k0
      · exact k1
      · exact k2, HB4.out⟩
    clear k0 k1 k2 HB4
    go_cut [10, 11] (fun s10 s11 wx => ∃ Y : Nat, s10 = .pointer (some ⟨Y, 0, none⟩) ∧ s11 = .int .i64 0 ∧ Hid (SL w ((trip X (a + b) ++ []) ++ trip Y a) wx))
    case first =>
      have neA : ∀ (g i : Nat) (v : Value), (g, i, v) ∈ trip X (a + b) ++ [] → g ≠ W4.heap.size := fun g i v hm => Nat.ne_of_lt (SL.lt HL0 g i v hm)
      have neB : ∀ (g i : Nat) (v : Value), (g, i, v) ∈ trip X (a + b) ++ [] → g ≠ W4.heap.size + 1 := fun g i v hm => by have := SL.lt HL0 g i v hm; omega
      have leA : w.heap.size ≤ W4.heap.size := HL0.out.hb.size
      have leB : w.heap.size ≤ W4.heap.size + 1 := Nat.le_succ_of_le leA
      have HSub : Hid (∀ W, Hid (SL w (trip X (a + b) ++ []) W) → Calls Tryd.prog 12 #[.agg #[.int .i64 1, .int .i64 (a + b), .string ⟨#[]⟩], .agg #[.int .i64 1, .int .i64 b, .string ⟨#[]⟩]] W fun e w' => e = .returned (.tuple #[.agg #[.int .i64 1, .int .i64 a, .string ⟨#[]⟩], .int .i64 0]) ∧ Hid (SL w (trip X (a + b) ++ []) w') ∧ (∀ b o, b < W.heap.size → w'.cell? ⟨b, o, none⟩ = W.cell? ⟨b, o, none⟩) ∧ (∀ b o, b < W.heap.size → w'.frozen? ⟨b, o, none⟩ = W.frozen? ⟨b, o, none⟩) ∧ W.heap.size ≤ w'.heap.size) :=
        fun W hW => (HSb.out W).mono fun e w' ⟨e1, hb2⟩ => ⟨e1, hW.out.below hb2, (vbcell hb2).1, (vbcell hb2).2, hb2.size⟩
      have HE0 : Hid (SL w (trip X (a + b) ++ []) (W4.drew)) := SL.drew HL0
      obtain ⟨e00, e01, e02, _⟩ := SL.conj HE0
      have HE1 : Hid (SL w (trip X (a + b) ++ []) (W4.alloc (.cells #[.int .i64 1, .int .i64 b, .string ⟨#[]⟩] 23)).drew) := SL.drew (SL.alloc _ HL0)
      obtain ⟨e10, e11, e12, _⟩ := SL.conj HE1
      have HE2 : Hid (SL w (trip X (a + b) ++ []) (W4.alloc (.cells #[.int .i64 0, .int .i64 0, .string ⟨#[]⟩] 23)).drew) := SL.drew (SL.alloc _ HL0)
      obtain ⟨e20, e21, e22, _⟩ := SL.conj HE2
      have HE3 : Hid (SL w (trip X (a + b) ++ []) ((W4.alloc (.cells #[.int .i64 0, .int .i64 0, .string ⟨#[]⟩] 23)).alloc (.cells #[.int .i64 1, .int .i64 b, .string ⟨#[]⟩] 23)).drew) := SL.drew (SL.alloc _ (SL.alloc _ HL0))
      obtain ⟨e30, e31, e32, _⟩ := SL.conj HE3
      have HE4 : Hid (SL w (trip X (a + b) ++ []) ((W4.alloc (.cells #[.int .i64 1, .int .i64 b, .string ⟨#[]⟩] 23)).alloc (.cells #[.int .i64 0, .int .i64 0, .string ⟨#[]⟩] 23)).drew) := SL.drew (SL.alloc _ (SL.alloc _ HL0))
      obtain ⟨e40, e41, e42, _⟩ := SL.conj HE4
      clear HSb HSa HSx
      go_region_held3 (fun W => W.cell? ⟨X, 0, none⟩ = some (.int .i64 1) ∧ W.cell? ⟨X, 1, none⟩ = some (.int .i64 (a + b)) ∧ W.cell? ⟨X, 2, none⟩ = some (.string ⟨#[]⟩) ∧ Hid (SL w (trip X (a + b) ++ []) W))
        (((with_reducible refine SL.conj ?_); first | with_reducible assumption | (with_reducible refine SL.alloc _ ?_; with_reducible assumption) | (with_reducible refine SL.set neA leA ?_ _ _ _; with_reducible assumption) | (with_reducible refine SL.set neB leB ?_ _ _ _; with_reducible assumption)))
        (first
          | (go_at_call 22; refine (num_calls _ _).mono ?_; rintro e wq ⟨rfl, rfl⟩)
          | (go_at_call 12; (with_reducible refine (HSub.out _ ?_).mono ?_); (with_reducible assumption); rintro e w8 ⟨rfl, HX8, hc8, hf8, hz8⟩; obtain ⟨p0, p1, p2, _⟩ := SL.conj HX8))
      · have hF : Hid (SL w (trip X (a + b) ++ [] ++ trip w8.heap.size a) (w8.alloc (.cells #[.int .i64 1, .int .i64 a, .string ⟨#[]⟩] 23))) := SL.add (SL.alloc _ HX8) (by simp) (by simp) (by simp)
        go_wp2_with fail
        go_meet
        exact ⟨_, rfl, rfl, hF⟩
      · have q0 : w8.cell? ⟨W4.heap.size + 1, 0, none⟩ = some (.int .i64 0) := (hc8 _ 0 (by simp <;> omega)).trans (by show ((W4.alloc (.cells #[.int .i64 1, .int .i64 b, .string ⟨#[]⟩] 23)).alloc (.cells #[.int .i64 0, .int .i64 0, .string ⟨#[]⟩] 23)).cell? _ = _; simp)
        have q1 : w8.cell? ⟨W4.heap.size + 1, 1, none⟩ = some (.int .i64 0) := (hc8 _ 1 (by simp <;> omega)).trans (by show ((W4.alloc (.cells #[.int .i64 1, .int .i64 b, .string ⟨#[]⟩] 23)).alloc (.cells #[.int .i64 0, .int .i64 0, .string ⟨#[]⟩] 23)).cell? _ = _; simp)
        have q2 : w8.cell? ⟨W4.heap.size + 1, 2, none⟩ = some (.string ⟨#[]⟩) := (hc8 _ 2 (by simp <;> omega)).trans (by show ((W4.alloc (.cells #[.int .i64 1, .int .i64 b, .string ⟨#[]⟩] 23)).alloc (.cells #[.int .i64 0, .int .i64 0, .string ⟨#[]⟩] 23)).cell? _ = _; simp)
        clear hc8 hf8
        obtain ⟨s0, s1, s2⟩ := set3 (a := .int .i64 1) (b := .int .i64 a) (c := .string ⟨#[]⟩) q0 q1 q2
        have hF := SL.add (SL.set neB leB HX8 (.int .i64 1) (.int .i64 a) (.string ⟨#[]⟩)) s0 s1 s2
        go_wp2_with fail
        go_meet
        exact ⟨_, rfl, rfl, hF⟩
      · have q0 : w8.cell? ⟨W4.heap.size, 0, none⟩ = some (.int .i64 0) := (hc8 _ 0 (by simp <;> omega)).trans (by show ((W4.alloc (.cells #[.int .i64 0, .int .i64 0, .string ⟨#[]⟩] 23)).alloc (.cells #[.int .i64 1, .int .i64 b, .string ⟨#[]⟩] 23)).cell? _ = _; simp)
        have q1 : w8.cell? ⟨W4.heap.size, 1, none⟩ = some (.int .i64 0) := (hc8 _ 1 (by simp <;> omega)).trans (by show ((W4.alloc (.cells #[.int .i64 0, .int .i64 0, .string ⟨#[]⟩] 23)).alloc (.cells #[.int .i64 1, .int .i64 b, .string ⟨#[]⟩] 23)).cell? _ = _; simp)
        have q2 : w8.cell? ⟨W4.heap.size, 2, none⟩ = some (.string ⟨#[]⟩) := (hc8 _ 2 (by simp <;> omega)).trans (by show ((W4.alloc (.cells #[.int .i64 0, .int .i64 0, .string ⟨#[]⟩] 23)).alloc (.cells #[.int .i64 1, .int .i64 b, .string ⟨#[]⟩] 23)).cell? _ = _; simp)
        clear hc8 hf8
        obtain ⟨s0, s1, s2⟩ := set3 (a := .int .i64 1) (b := .int .i64 a) (c := .string ⟨#[]⟩) q0 q1 q2
        have hF := SL.add (SL.set neA leA HX8 (.int .i64 1) (.int .i64 a) (.string ⟨#[]⟩)) s0 s1 s2
        go_wp2_with fail
        go_meet
        exact ⟨_, rfl, rfl, hF⟩
    case rest =>
      obtain ⟨Y, rfl, rfl, HLY⟩ := hcut
      generalize wc = W5 at *
      rw [List.append_assoc] at HLY
      have HL0 := HLY
      clear HLY
      go_upto_region 9 with fail
      go_cut [12, 13] (fun s12 s13 wx => ∃ Y2 : Nat, s12 = .pointer (some ⟨Y2, 0, none⟩) ∧ s13 = .int .i64 0 ∧ Hid (SL w ((trip X (a + b) ++ ([] ++ trip Y a)) ++ trip Y2 b) wx))
      case first =>
        have neA : ∀ (g i : Nat) (v : Value), (g, i, v) ∈ trip X (a + b) ++ ([] ++ trip Y a) → g ≠ W5.heap.size := fun g i v hm => Nat.ne_of_lt (SL.lt HL0 g i v hm)
        have neB : ∀ (g i : Nat) (v : Value), (g, i, v) ∈ trip X (a + b) ++ ([] ++ trip Y a) → g ≠ W5.heap.size + 1 := fun g i v hm => by have := SL.lt HL0 g i v hm; omega
        have leA : w.heap.size ≤ W5.heap.size := HL0.out.hb.size
        have leB : w.heap.size ≤ W5.heap.size + 1 := Nat.le_succ_of_le leA
        have HSub : Hid (∀ W, Hid (SL w (trip X (a + b) ++ ([] ++ trip Y a)) W) → Calls Tryd.prog 12 #[.agg #[.int .i64 1, .int .i64 (a + b), .string ⟨#[]⟩], .agg #[.int .i64 1, .int .i64 a, .string ⟨#[]⟩]] W fun e w' => e = .returned (.tuple #[.agg #[.int .i64 1, .int .i64 b, .string ⟨#[]⟩], .int .i64 0]) ∧ Hid (SL w (trip X (a + b) ++ ([] ++ trip Y a)) w') ∧ (∀ b o, b < W.heap.size → w'.cell? ⟨b, o, none⟩ = W.cell? ⟨b, o, none⟩) ∧ (∀ b o, b < W.heap.size → w'.frozen? ⟨b, o, none⟩ = W.frozen? ⟨b, o, none⟩) ∧ W.heap.size ≤ w'.heap.size) :=
          fun W hW => (HSa.out W).mono fun e w' ⟨e1, hb2⟩ => ⟨e1, hW.out.below hb2, (vbcell hb2).1, (vbcell hb2).2, hb2.size⟩
        have HE0 : Hid (SL w (trip X (a + b) ++ ([] ++ trip Y a)) (W5.drew)) := SL.drew HL0
        obtain ⟨e00, e01, e02, _⟩ := SL.conj HE0
        have HE1 : Hid (SL w (trip X (a + b) ++ ([] ++ trip Y a)) (W5.alloc (.cells #[.int .i64 1, .int .i64 a, .string ⟨#[]⟩] 23)).drew) := SL.drew (SL.alloc _ HL0)
        obtain ⟨e10, e11, e12, _⟩ := SL.conj HE1
        have HE2 : Hid (SL w (trip X (a + b) ++ ([] ++ trip Y a)) (W5.alloc (.cells #[.int .i64 0, .int .i64 0, .string ⟨#[]⟩] 23)).drew) := SL.drew (SL.alloc _ HL0)
        obtain ⟨e20, e21, e22, _⟩ := SL.conj HE2
        have HE3 : Hid (SL w (trip X (a + b) ++ ([] ++ trip Y a)) ((W5.alloc (.cells #[.int .i64 0, .int .i64 0, .string ⟨#[]⟩] 23)).alloc (.cells #[.int .i64 1, .int .i64 a, .string ⟨#[]⟩] 23)).drew) := SL.drew (SL.alloc _ (SL.alloc _ HL0))
        obtain ⟨e30, e31, e32, _⟩ := SL.conj HE3
        have HE4 : Hid (SL w (trip X (a + b) ++ ([] ++ trip Y a)) ((W5.alloc (.cells #[.int .i64 1, .int .i64 a, .string ⟨#[]⟩] 23)).alloc (.cells #[.int .i64 0, .int .i64 0, .string ⟨#[]⟩] 23)).drew) := SL.drew (SL.alloc _ (SL.alloc _ HL0))
        obtain ⟨e40, e41, e42, _⟩ := SL.conj HE4
        clear HSb HSa HSx
        go_region_held3 (fun W => W.cell? ⟨X, 0, none⟩ = some (.int .i64 1) ∧ W.cell? ⟨X, 1, none⟩ = some (.int .i64 (a + b)) ∧ W.cell? ⟨X, 2, none⟩ = some (.string ⟨#[]⟩) ∧ Hid (SL w (trip X (a + b) ++ ([] ++ trip Y a)) W))
          (((with_reducible refine SL.conj ?_); first | with_reducible assumption | (with_reducible refine SL.alloc _ ?_; with_reducible assumption) | (with_reducible refine SL.set neA leA ?_ _ _ _; with_reducible assumption) | (with_reducible refine SL.set neB leB ?_ _ _ _; with_reducible assumption)))
          (first
            | (go_at_call 22; refine (num_calls _ _).mono ?_; rintro e wq ⟨rfl, rfl⟩)
            | (go_at_call 12; (with_reducible refine (HSub.out _ ?_).mono ?_); (with_reducible assumption); rintro e w8 ⟨rfl, HX8, hc8, hf8, hz8⟩; obtain ⟨p0, p1, p2, _⟩ := SL.conj HX8))
        · have hF : Hid (SL w (trip X (a + b) ++ ([] ++ trip Y a) ++ trip w8.heap.size b) (w8.alloc (.cells #[.int .i64 1, .int .i64 b, .string ⟨#[]⟩] 23))) := SL.add (SL.alloc _ HX8) (by simp) (by simp) (by simp)
          go_wp2_with fail
          go_meet
          exact ⟨_, rfl, rfl, hF⟩
        · have q0 : w8.cell? ⟨W5.heap.size + 1, 0, none⟩ = some (.int .i64 0) := (hc8 _ 0 (by simp <;> omega)).trans (by show ((W5.alloc (.cells #[.int .i64 1, .int .i64 a, .string ⟨#[]⟩] 23)).alloc (.cells #[.int .i64 0, .int .i64 0, .string ⟨#[]⟩] 23)).cell? _ = _; simp)
          have q1 : w8.cell? ⟨W5.heap.size + 1, 1, none⟩ = some (.int .i64 0) := (hc8 _ 1 (by simp <;> omega)).trans (by show ((W5.alloc (.cells #[.int .i64 1, .int .i64 a, .string ⟨#[]⟩] 23)).alloc (.cells #[.int .i64 0, .int .i64 0, .string ⟨#[]⟩] 23)).cell? _ = _; simp)
          have q2 : w8.cell? ⟨W5.heap.size + 1, 2, none⟩ = some (.string ⟨#[]⟩) := (hc8 _ 2 (by simp <;> omega)).trans (by show ((W5.alloc (.cells #[.int .i64 1, .int .i64 a, .string ⟨#[]⟩] 23)).alloc (.cells #[.int .i64 0, .int .i64 0, .string ⟨#[]⟩] 23)).cell? _ = _; simp)
          clear hc8 hf8
          obtain ⟨s0, s1, s2⟩ := set3 (a := .int .i64 1) (b := .int .i64 b) (c := .string ⟨#[]⟩) q0 q1 q2
          have hF := SL.add (SL.set neB leB HX8 (.int .i64 1) (.int .i64 b) (.string ⟨#[]⟩)) s0 s1 s2
          go_wp2_with fail
          go_meet
          exact ⟨_, rfl, rfl, hF⟩
        · have q0 : w8.cell? ⟨W5.heap.size, 0, none⟩ = some (.int .i64 0) := (hc8 _ 0 (by simp <;> omega)).trans (by show ((W5.alloc (.cells #[.int .i64 0, .int .i64 0, .string ⟨#[]⟩] 23)).alloc (.cells #[.int .i64 1, .int .i64 a, .string ⟨#[]⟩] 23)).cell? _ = _; simp)
          have q1 : w8.cell? ⟨W5.heap.size, 1, none⟩ = some (.int .i64 0) := (hc8 _ 1 (by simp <;> omega)).trans (by show ((W5.alloc (.cells #[.int .i64 0, .int .i64 0, .string ⟨#[]⟩] 23)).alloc (.cells #[.int .i64 1, .int .i64 a, .string ⟨#[]⟩] 23)).cell? _ = _; simp)
          have q2 : w8.cell? ⟨W5.heap.size, 2, none⟩ = some (.string ⟨#[]⟩) := (hc8 _ 2 (by simp <;> omega)).trans (by show ((W5.alloc (.cells #[.int .i64 0, .int .i64 0, .string ⟨#[]⟩] 23)).alloc (.cells #[.int .i64 1, .int .i64 a, .string ⟨#[]⟩] 23)).cell? _ = _; simp)
          clear hc8 hf8
          obtain ⟨s0, s1, s2⟩ := set3 (a := .int .i64 1) (b := .int .i64 b) (c := .string ⟨#[]⟩) q0 q1 q2
          have hF := SL.add (SL.set neA leA HX8 (.int .i64 1) (.int .i64 b) (.string ⟨#[]⟩)) s0 s1 s2
          go_wp2_with fail
          go_meet
          exact ⟨_, rfl, rfl, hF⟩
      case rest =>
        obtain ⟨Y2, rfl, rfl, HLZ⟩ := hcut
        generalize wc = W6 at *
        rw [List.append_assoc] at HLZ
        obtain ⟨x0, x1, x2, _⟩ := SL.conj HLZ
        go_wp2_with fail
        refine (HSx.out _).mono ?_
        rintro _ w7 ⟨rfl, hb7⟩
        have HB7 : Hid (SL w (trip X (a + b) ++ ([] ++ trip Y a ++ trip Y2 b)) w7) := HLZ.out.below hb7
        have HL8 : Hid (SL w ((trip X (a + b) ++ ([] ++ trip Y a ++ trip Y2 b)) ++ trip w7.heap.size 0) (w7.alloc (.cells #[.int .i64 1, .int .i64 0, .string ⟨#[]⟩] 23))) := SL.add (SL.alloc _ HB7) (by simp) (by simp) (by simp)
        clear hb7 HB7 HLZ x0 x1 x2 HL0
        go_upto_region 11 with fail
        obtain ⟨W8, hW8⟩ : ∃ W8, W8 = w7.alloc (.cells #[.int .i64 1, .int .i64 0, .string ⟨#[]⟩] 23) := ⟨_, rfl⟩
        rw [← hW8] at HL8 ⊢
        clear hW8
        generalize w7.heap.size = U at *
        have HLd := SL.drew HL8
        obtain ⟨q0, q1, q2, q3, q4, q5, q6, q7, q8, q9, _⟩ := SL.eleven HLd
        have HNum : Hid (∀ (n : Int) (W : World), Hid (SL w ((trip X (a + b) ++ ([] ++ trip Y a ++ trip Y2 b)) ++ trip U 0) W) → Calls Tryd.prog 22 #[.int .i64 n] W fun e w' => e = .returned (.agg #[.int .i64 1, .int .i64 n, .string ⟨#[]⟩]) ∧ Hid (SL w ((trip X (a + b) ++ ([] ++ trip Y a ++ trip Y2 b)) ++ trip U 0) w')) :=
          fun n W hW => (num_calls n W).mono fun e w' ⟨e1, e2⟩ => ⟨e1, by rw [e2]; exact SL.alloc _ hW⟩
        clear HSb HSa HSx HL8
        go_region_held3 (fun W => W.cell? ⟨X, 1, none⟩ = some (.int .i64 (a + b)) ∧ W.cell? ⟨Y, 0, none⟩ = some (.int .i64 1) ∧ W.cell? ⟨Y, 1, none⟩ = some (.int .i64 a) ∧ W.cell? ⟨Y, 2, none⟩ = some (.string ⟨#[]⟩) ∧ W.cell? ⟨Y2, 0, none⟩ = some (.int .i64 1) ∧ W.cell? ⟨Y2, 1, none⟩ = some (.int .i64 b) ∧ W.cell? ⟨Y2, 2, none⟩ = some (.string ⟨#[]⟩) ∧ W.cell? ⟨U, 0, none⟩ = some (.int .i64 1) ∧ W.cell? ⟨U, 1, none⟩ = some (.int .i64 0) ∧ W.cell? ⟨U, 2, none⟩ = some (.string ⟨#[]⟩) ∧ Hid (SL w ((trip X (a + b) ++ ([] ++ trip Y a ++ trip Y2 b)) ++ trip U 0) W))
          (((with_reducible refine SL.eleven ?_); with_reducible assumption))
          (first
            | (go_at_call 22; (with_reducible refine (HNum.out _ _ ?_).mono ?_); (with_reducible assumption); rintro e wq ⟨rfl, HQ⟩; obtain ⟨p0, p1, p2, p3, p4, p5, p6, p7, p8, p9, _⟩ := SL.eleven HQ))
        all_goals
          go_wp2
          go_ret
          refine ⟨vret_bool (by rw [IntWalk.i64_in _ (by omega)]; simp), SL.hb (L := (trip X (a + b) ++ ([] ++ trip Y a ++ trip Y2 b)) ++ trip U 0) ?_⟩
          apply Hid.out
          assumption

end Go.Proofs.YtfllemgoldicpaaDoor

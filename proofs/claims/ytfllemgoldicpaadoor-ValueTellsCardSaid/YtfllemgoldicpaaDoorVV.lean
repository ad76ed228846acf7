/- The statement ValueTells, its walk. -/
import Derived.Test.YtfllemgoldicpaaDoorVB
import Derived.Test.YtfllemgoldicpaaDoorVC
import Derived.Test.YtfllemgoldicpaaDoorVS
import Derived.Test.YtfllemgoldicpaaDoorVU
namespace Go.Proofs.YtfllemgoldicpaaDoor
open Go.RowKit Go.Lib Go.Op

/-- A value's cells. -/
def tC (b : Nat) (k n : Int) (s : ByteArray) : List (Nat × Nat × Value) := [(b, 0, .int .i64 k), (b, 1, .int .i64 n), (b, 2, .string s)]

section
variable {w w' W : World} {L M : List (Nat × Nat × Value)}
theorem SL.append (h : Hid (SL w L W)) (hM : ∀ b i v, (b, i, v) ∈ M → W.cell? ⟨b, i, none⟩ = some v) : Hid (SL w (L ++ M) W) :=
  ⟨fun b i v hm => by
    rcases List.mem_append.1 hm with h3 | h3
    · exact h.out.cs b i v h3
    · exact hM b i v h3, h.out.hb⟩
theorem SL.box (h : Hid (SL w L W)) (k n : Int) (s : ByteArray) : Hid (SL w (L ++ tC W.heap.size k n s) (W.alloc (.cells #[.int .i64 k, .int .i64 n, .string s] 23))) :=
  SL.append (SL.alloc _ h) fun b i u hm => by
    simp only [tC, List.mem_cons, Prod.mk.injEq, List.not_mem_nil, or_false] at hm
    rcases hm with ⟨rfl, rfl, rfl⟩ | ⟨rfl, rfl, rfl⟩ | ⟨rfl, rfl, rfl⟩ <;> exact vnew_cell _ _ _ rfl rfl
theorem tC.conj {X : Nat} {k n : Int} {s : ByteArray} (h : Hid (SL w' L W)) (hs : ∀ q, q ∈ tC X k n s → q ∈ L) : W.cell? ⟨X, 0, none⟩ = some (.int .i64 k) ∧ W.cell? ⟨X, 1, none⟩ = some (.int .i64 n) ∧ W.cell? ⟨X, 2, none⟩ = some (.string s) := by
  refine ⟨h.out.cs _ _ _ (hs _ ?_), h.out.cs _ _ _ (hs _ ?_), h.out.cs _ _ _ (hs _ ?_)⟩ <;> simp [tC]
theorem T2.conj {X Y : Nat} {k1 n1 k2 n2 : Int} {s1 s2 : ByteArray} (h : Hid (SL w' ((tC X k1 n1 s1 ++ tC Y k2 n2 s2) ++ L) W)) :
    (W.cell? ⟨X, 0, none⟩ = some (.int .i64 k1) ∧ W.cell? ⟨X, 1, none⟩ = some (.int .i64 n1) ∧ W.cell? ⟨X, 2, none⟩ = some (.string s1)) ∧ (W.cell? ⟨Y, 0, none⟩ = some (.int .i64 k2) ∧ W.cell? ⟨Y, 1, none⟩ = some (.int .i64 n2) ∧ W.cell? ⟨Y, 2, none⟩ = some (.string s2)) :=
  ⟨tC.conj h fun _ hq => List.mem_append_left _ (List.mem_append_left _ hq), tC.conj h fun _ hq => List.mem_append_left _ (List.mem_append_right _ hq)⟩
theorem T2.conj' {X Y : Nat} {k1 n1 k2 n2 : Int} {s1 s2 : ByteArray} (h : Hid (SL w' L W)) (hs : ∀ q, q ∈ tC X k1 n1 s1 ++ tC Y k2 n2 s2 → q ∈ L) :
    (W.cell? ⟨X, 0, none⟩ = some (.int .i64 k1) ∧ W.cell? ⟨X, 1, none⟩ = some (.int .i64 n1) ∧ W.cell? ⟨X, 2, none⟩ = some (.string s1)) ∧ (W.cell? ⟨Y, 0, none⟩ = some (.int .i64 k2) ∧ W.cell? ⟨Y, 1, none⟩ = some (.int .i64 n2) ∧ W.cell? ⟨Y, 2, none⟩ = some (.string s2)) :=
  ⟨tC.conj h fun _ hq => hs _ (List.mem_append_left _ hq), tC.conj h fun _ hq => hs _ (List.mem_append_right _ hq)⟩
theorem T5.conj {X Y MA MB MC MD : Nat} {k1 n1 k2 n2 pk pn qk qn : Int} {s1 s2 : ByteArray} (h : Hid (SL w' ((tC X k1 n1 s1 ++ tC Y k2 n2 s2) ++ ((tC MA pk pn ⟨#[]⟩ ++ tC MB pk pn ⟨#[]⟩) ++ (tC MC qk qn ⟨#[]⟩ ++ tC MD qk qn ⟨#[]⟩))) W)) :
    W.cell? ⟨X, 0, none⟩ = some (.int .i64 k1) ∧ W.cell? ⟨X, 1, none⟩ = some (.int .i64 n1) ∧ W.cell? ⟨X, 2, none⟩ = some (.string s1) ∧ W.cell? ⟨MA, 0, none⟩ = some (.int .i64 pk) ∧ W.cell? ⟨MA, 1, none⟩ = some (.int .i64 pn) ∧ W.cell? ⟨MA, 2, none⟩ = some (.string ⟨#[]⟩) ∧ W.cell? ⟨MB, 0, none⟩ = some (.int .i64 pk) ∧ W.cell? ⟨MB, 1, none⟩ = some (.int .i64 pn) ∧ W.cell? ⟨MB, 2, none⟩ = some (.string ⟨#[]⟩) ∧ W.cell? ⟨MC, 0, none⟩ = some (.int .i64 qk) ∧ W.cell? ⟨MC, 1, none⟩ = some (.int .i64 qn) ∧ W.cell? ⟨MC, 2, none⟩ = some (.string ⟨#[]⟩) ∧ W.cell? ⟨MD, 0, none⟩ = some (.int .i64 qk) ∧ W.cell? ⟨MD, 1, none⟩ = some (.int .i64 qn) ∧ W.cell? ⟨MD, 2, none⟩ = some (.string ⟨#[]⟩) ∧ Hid (SL w' ((tC X k1 n1 s1 ++ tC Y k2 n2 s2) ++ ((tC MA pk pn ⟨#[]⟩ ++ tC MB pk pn ⟨#[]⟩) ++ (tC MC qk qn ⟨#[]⟩ ++ tC MD qk qn ⟨#[]⟩))) W) := by
  obtain ⟨⟨x0, x1, x2⟩, _⟩ := T2.conj h
  obtain ⟨a0, a1, a2⟩ := tC.conj (X := MA) h fun _ hq => List.mem_append_right _ (List.mem_append_left _ (List.mem_append_left _ hq))
  obtain ⟨b0, b1, b2⟩ := tC.conj (X := MB) h fun _ hq => List.mem_append_right _ (List.mem_append_left _ (List.mem_append_right _ hq))
  obtain ⟨c0, c1, c2⟩ := tC.conj (X := MC) h fun _ hq => List.mem_append_right _ (List.mem_append_right _ (List.mem_append_left _ hq))
  obtain ⟨d0, d1, d2⟩ := tC.conj (X := MD) h fun _ hq => List.mem_append_right _ (List.mem_append_right _ (List.mem_append_right _ hq))
  exact ⟨x0, x1, x2, a0, a1, a2, b0, b1, b2, c0, c1, c2, d0, d1, d2, h⟩
end

/-- What a call that tells a truth leaves; what one that tells bytes leaves. -/
def TruthQ (b : Bool) (P : World → Prop) (e : Ending) (w' : World) : Prop := e = .returned (.bool b) ∧ Hid (P w')
def BytesQ (W : World) (bs : List UInt8) (P : World → Prop) (e : Ending) (w' : World) : Prop := ∃ v, e = .returned v ∧ Hid (BRow w' v bs) ∧ (convert 31 9 v).run Tryd.prog w' = .ok (.string (strB bs)) w' ∧ Hid (P w') ∧ Hid (∀ u us, BRow W u us → BRow w' u us)

theorem putPost_bytes {w W : World} {L : List (Nat × Nat × Value)} {bs : List UInt8} (hW : Hid (SL w L W)) {e : Ending} {w' : World} (h : PutPost W bs e w') : BytesQ W bs (SL w L) e w' := by
  obtain ⟨v, h1, h2, h3⟩ := h
  have h4 := BRow.of_owns h2
  exact ⟨v, h1, h4, conv_brow h4, hW.out.below h3, fun u us hu => hu.below h3⟩

set_option maxHeartbeats 8000000 in
set_option maxRecDepth 100000 in
theorem tells_walk (w : World) (hT : HoldsTab w) (op k1 n1 : Int) (s1 : ByteArray) (k2 n2 : Int) (s2 : ByteArray) (hs1 : s1.size ≤ maxLen) (hs2 : s2.size ≤ maxLen) :
    Calls Tryd.prog 3 #[.int .i64 op, .agg #[.int .i64 k1, .int .i64 n1, .string s1], .agg #[.int .i64 k2, .int .i64 n2, .string s2]] w (VFine w) := by
  have HS1 := Lib.hid hs1
  have HS2 := Lib.hid hs2
  have HT := Lib.hid hT
  have hl0 : Hid (SL w [] w) := ⟨fun b i v hm => (by cases hm), Below.refl _ _⟩
  have HS0 := SL.box (SL.box hl0 k1 n1 s1) k2 n2 s2
  rw [List.nil_append, show (w.alloc (.cells #[.int .i64 k1, .int .i64 n1, .string s1] 23)).heap.size = w.heap.size + 1 by simp] at HS0
  obtain ⟨⟨⟨pk, pn, ps⟩, pe⟩, hp⟩ : ∃ p, sumV ⟨k1, n1, s1.data.toList⟩ ⟨k2, n2, s2.data.toList⟩ 1 = p := ⟨_, rfl⟩
  obtain ⟨⟨⟨qk, qn, qs⟩, qe⟩, hq⟩ : ∃ p, sumV ⟨k1, n1, s1.data.toList⟩ ⟨k2, n2, s2.data.toList⟩ (-1) = p := ⟨_, rfl⟩
  obtain ⟨⟨cb, ce⟩, hc⟩ : ∃ p, cmpV op ⟨k1, n1, s1.data.toList⟩ ⟨k2, n2, s2.data.toList⟩ = p := ⟨_, rfl⟩
  have HA1 := Lib.hid (fun W => vadd_calls k1 n1 s1 k2 n2 s2 W hs1 hs2)
  have HA2 := Lib.hid (fun W => radd_calls k1 n1 s1 k2 n2 s2 W hs1 hs2)
  have HB1 := Lib.hid (fun W => vsub_calls k1 n1 s1 k2 n2 s2 W hs1 hs2)
  have HB2 := Lib.hid (fun W => rsub_calls k1 n1 s1 k2 n2 s2 W hs1 hs2)
  have HC1 := Lib.hid (fun W (h : HoldsTab W) => vcompare_calls k1 n1 s1 k2 n2 s2 W op hs1 hs2 h)
  have HC2 := Lib.hid (fun W => rcompare_calls op k1 n1 s1 k2 n2 s2 W hs1 hs2)
  rw [hp] at HA1 HA2
  rw [hq] at HB1 HB2
  rw [hc] at HC1 HC2
  have hl1 : s1.toList.length = s1.size := by rw [vtoL]; simp
  clear hs1 hs2 hT hl0 hp hq hc hl1
  go_enter Tryd.func3, Tryd.ntmps3
  go_wp2_with fail
  refine (vhead_calls _ (HT.out.below HS0.out.hb)).mono ?_
  rintro _ w1 ⟨rfl, hb1⟩
  have HH := Lib.hid (HS0.out.below hb1)
  obtain ⟨⟨x0, x1, x2⟩, ⟨y0, y1, y2⟩⟩ := T2.conj' (X := w.heap.size) (Y := w.heap.size + 1) (k1 := k1) (n1 := n1) (s1 := s1) (k2 := k2) (n2 := n2) (s2 := s2) HH (fun q hq => hq)
  clear hb1 HS0
  by_cases h91 : 9000 < s1.size
  · go_wp2
    go_ret
    exact ⟨rfl, HH.out.hb⟩
  by_cases h92 : 9000 < s2.size
  · go_wp2
    go_ret
    exact ⟨rfl, HH.out.hb⟩
  go_wp2_with fail
  refine (HA1.out _).mono ?_
  rintro _ w2 ⟨rfl, hb⟩
  have HH := SL.box (Lib.hid (HH.out.below hb)) pk pn ⟨#[]⟩
  obtain ⟨⟨x0, x1, x2⟩, ⟨y0, y1, y2⟩⟩ := T2.conj' (X := w.heap.size) (Y := w.heap.size + 1) (k1 := k1) (n1 := n1) (s1 := s1) (k2 := k2) (n2 := n2) (s2 := s2) HH (by intro q hq; simp only [List.mem_append] at hq ⊢; rcases hq with h | h <;> simp [h])
  clear hb
  go_wp2_with fail
  refine (HA2.out _).mono ?_
  rintro _ w3 ⟨rfl, hb⟩
  have HH := SL.box (Lib.hid (HH.out.below hb)) pk pn ⟨#[]⟩
  obtain ⟨⟨x0, x1, x2⟩, ⟨y0, y1, y2⟩⟩ := T2.conj' (X := w.heap.size) (Y := w.heap.size + 1) (k1 := k1) (n1 := n1) (s1 := s1) (k2 := k2) (n2 := n2) (s2 := s2) HH (by intro q hq; simp only [List.mem_append] at hq ⊢; rcases hq with h | h <;> simp [h])
  clear hb
  go_wp2_with fail
  refine (HB1.out _).mono ?_
  rintro _ w4 ⟨rfl, hb⟩
  have HH := SL.box (Lib.hid (HH.out.below hb)) qk qn ⟨#[]⟩
  obtain ⟨⟨x0, x1, x2⟩, ⟨y0, y1, y2⟩⟩ := T2.conj' (X := w.heap.size) (Y := w.heap.size + 1) (k1 := k1) (n1 := n1) (s1 := s1) (k2 := k2) (n2 := n2) (s2 := s2) HH (by intro q hq; simp only [List.mem_append] at hq ⊢; rcases hq with h | h <;> simp [h])
  clear hb
  go_wp2_with fail
  refine (HB2.out _).mono ?_
  rintro _ w5 ⟨rfl, hb⟩
  have HH := SL.box (Lib.hid (HH.out.below hb)) qk qn ⟨#[]⟩
  obtain ⟨⟨x0, x1, x2⟩, ⟨y0, y1, y2⟩⟩ := T2.conj' (X := w.heap.size) (Y := w.heap.size + 1) (k1 := k1) (n1 := n1) (s1 := s1) (k2 := k2) (n2 := n2) (s2 := s2) HH (by intro q hq; simp only [List.mem_append] at hq ⊢; rcases hq with h | h <;> simp [h])
  clear hb
  go_wp2_with fail
  refine (HC1.out _ (HT.out.below HH.out.hb)).mono ?_
  rintro _ w6 ⟨rfl, hb⟩
  have HH := Lib.hid (HH.out.below hb)
  obtain ⟨⟨x0, x1, x2⟩, ⟨y0, y1, y2⟩⟩ := T2.conj' (X := w.heap.size) (Y := w.heap.size + 1) (k1 := k1) (n1 := n1) (s1 := s1) (k2 := k2) (n2 := n2) (s2 := s2) HH (by intro q hq; simp only [List.mem_append] at hq ⊢; rcases hq with h | h <;> simp [h])
  clear hb
  go_wp2_with fail
  refine (HC2.out _).mono ?_
  rintro _ w7 ⟨rfl, hb⟩
  have HH := Lib.hid (HH.out.below hb)
  clear hb HA1 HA2 HB1 HB2 HC1 HC2 HT
  go_upto_region 10 with fail
  generalize w2.heap.size = MA at *
  generalize w3.heap.size = MB at *
  generalize w4.heap.size = MC at *
  generalize w5.heap.size = MD at *
  have HF : Hid (SL w ((tC w.heap.size k1 n1 s1 ++ tC (w.heap.size + 1) k2 n2 s2) ++ ((tC MA pk pn ⟨#[]⟩ ++ tC MB pk pn ⟨#[]⟩) ++ (tC MC qk qn ⟨#[]⟩ ++ tC MD qk qn ⟨#[]⟩))) w7) := ⟨fun b i v hm => HH.out.cs b i v (by
    simp only [List.mem_append] at hm ⊢
    rcases hm with (h | h) | ((h | h) | (h | h)) <;> simp [h]), HH.out.hb⟩
  have HBw : Hid (Below w.heap.size w w7) := HH.out.hb
  obtain ⟨r, hr⟩ : ∃ r, rightV k1 n1 s1 = r := ⟨_, rfl⟩
  obtain ⟨bs, hbs⟩ : ∃ bs, putV ⟨k1, n1, s1.data.toList⟩ = bs := ⟨_, rfl⟩
  have HR1 : Hid (∀ W, Hid (SL w ((tC w.heap.size k1 n1 s1 ++ tC (w.heap.size + 1) k2 n2 s2) ++ ((tC MA pk pn ⟨#[]⟩ ++ tC MB pk pn ⟨#[]⟩) ++ (tC MC qk qn ⟨#[]⟩ ++ tC MD qk qn ⟨#[]⟩))) W) → Calls Tryd.prog 16 #[.agg #[.int .i64 k1, .int .i64 n1, .string s1]] W (TruthQ r (SL w ((tC w.heap.size k1 n1 s1 ++ tC (w.heap.size + 1) k2 n2 s2) ++ ((tC MA pk pn ⟨#[]⟩ ++ tC MB pk pn ⟨#[]⟩) ++ (tC MC qk qn ⟨#[]⟩ ++ tC MD qk qn ⟨#[]⟩)))))) := fun W hW => by
    rw [← hr]
    exact (vright_calls k1 n1 s1 W HS1.out).mono fun e w' ⟨e1, h2⟩ => ⟨e1, by rw [h2]; exact SL.alloc _ hW⟩
  have HR2 : Hid (∀ W, Hid (SL w ((tC w.heap.size k1 n1 s1 ++ tC (w.heap.size + 1) k2 n2 s2) ++ ((tC MA pk pn ⟨#[]⟩ ++ tC MB pk pn ⟨#[]⟩) ++ (tC MC qk qn ⟨#[]⟩ ++ tC MD qk qn ⟨#[]⟩))) W) → Calls Tryd.prog 17 #[.agg #[.int .i64 k1, .int .i64 n1, .string s1]] W (TruthQ r (SL w ((tC w.heap.size k1 n1 s1 ++ tC (w.heap.size + 1) k2 n2 s2) ++ ((tC MA pk pn ⟨#[]⟩ ++ tC MB pk pn ⟨#[]⟩) ++ (tC MC qk qn ⟨#[]⟩ ++ tC MD qk qn ⟨#[]⟩)))))) := fun W hW => by
    rw [← hr]
    exact (rright_calls k1 n1 s1 W HS1.out).mono fun e w' ⟨e1, h2⟩ => ⟨e1, by rw [h2]; exact SL.alloc _ hW⟩
  have HP1 : Hid (∀ W, Hid (SL w ((tC w.heap.size k1 n1 s1 ++ tC (w.heap.size + 1) k2 n2 s2) ++ ((tC MA pk pn ⟨#[]⟩ ++ tC MB pk pn ⟨#[]⟩) ++ (tC MC qk qn ⟨#[]⟩ ++ tC MD qk qn ⟨#[]⟩))) W) → Calls Tryd.prog 18 #[.agg #[.int .i64 k1, .int .i64 n1, .string s1]] W (BytesQ W bs (SL w ((tC w.heap.size k1 n1 s1 ++ tC (w.heap.size + 1) k2 n2 s2) ++ ((tC MA pk pn ⟨#[]⟩ ++ tC MB pk pn ⟨#[]⟩) ++ (tC MC qk qn ⟨#[]⟩ ++ tC MD qk qn ⟨#[]⟩)))))) := fun W hW => by
    rw [← hbs]
    exact (vput_calls k1 n1 s1 W HS1.out).mono fun e w' h => putPost_bytes hW h
  have HP2 : Hid (∀ W, Hid (SL w ((tC w.heap.size k1 n1 s1 ++ tC (w.heap.size + 1) k2 n2 s2) ++ ((tC MA pk pn ⟨#[]⟩ ++ tC MB pk pn ⟨#[]⟩) ++ (tC MC qk qn ⟨#[]⟩ ++ tC MD qk qn ⟨#[]⟩))) W) → Calls Tryd.prog 19 #[.agg #[.int .i64 k1, .int .i64 n1, .string s1]] W (BytesQ W bs (SL w ((tC w.heap.size k1 n1 s1 ++ tC (w.heap.size + 1) k2 n2 s2) ++ ((tC MA pk pn ⟨#[]⟩ ++ tC MB pk pn ⟨#[]⟩) ++ (tC MC qk qn ⟨#[]⟩ ++ tC MD qk qn ⟨#[]⟩)))))) := fun W hW => by
    rw [← hbs]
    exact (rput_calls k1 n1 s1 W HS1.out).mono fun e w' h => putPost_bytes hW h
  obtain ⟨g0, g1, g2, g3, g4, g5, g6, g7, g8, g9, g10, g11, g12, g13, g14, _⟩ := T5.conj (SL.drew HF)
  clear hr hbs HH HF HS1 HS2 x0 x1 x2 y0 y1 y2
  try simp only [List.append]
  go_region_held (fun W => W.cell? ⟨w.heap.size, 0, none⟩ = some (.int .i64 k1) ∧ W.cell? ⟨w.heap.size, 1, none⟩ = some (.int .i64 n1) ∧ W.cell? ⟨w.heap.size, 2, none⟩ = some (.string s1) ∧ W.cell? ⟨MA, 0, none⟩ = some (.int .i64 pk) ∧ W.cell? ⟨MA, 1, none⟩ = some (.int .i64 pn) ∧ W.cell? ⟨MA, 2, none⟩ = some (.string ⟨#[]⟩) ∧ W.cell? ⟨MB, 0, none⟩ = some (.int .i64 pk) ∧ W.cell? ⟨MB, 1, none⟩ = some (.int .i64 pn) ∧ W.cell? ⟨MB, 2, none⟩ = some (.string ⟨#[]⟩) ∧ W.cell? ⟨MC, 0, none⟩ = some (.int .i64 qk) ∧ W.cell? ⟨MC, 1, none⟩ = some (.int .i64 qn) ∧ W.cell? ⟨MC, 2, none⟩ = some (.string ⟨#[]⟩) ∧ W.cell? ⟨MD, 0, none⟩ = some (.int .i64 qk) ∧ W.cell? ⟨MD, 1, none⟩ = some (.int .i64 qn) ∧ W.cell? ⟨MD, 2, none⟩ = some (.string ⟨#[]⟩) ∧ Hid (SL w ((tC w.heap.size k1 n1 s1 ++ tC (w.heap.size + 1) k2 n2 s2) ++ ((tC MA pk pn ⟨#[]⟩ ++ tC MB pk pn ⟨#[]⟩) ++ (tC MC qk qn ⟨#[]⟩ ++ tC MD qk qn ⟨#[]⟩))) W))
    (((try go_split_ands); (with_reducible refine T5.conj ?_); with_reducible assumption))
    (first
      | (go_at_call 16; (with_reducible refine (HR1.out _ ?_).mono ?_); (go_split_ands; with_reducible assumption); rintro e w8 ⟨rfl, HC8⟩)
      | (go_at_call 17; (with_reducible refine (HR2.out _ ?_).mono ?_); (go_split_ands; with_reducible assumption); rintro e w9 ⟨rfl, HC9⟩)
      | (go_at_call 18; (with_reducible refine (HP1.out _ ?_).mono ?_); (go_split_ands; with_reducible assumption); rintro e wA ⟨vA, rfl, HRA, hcA, HCA, HFA⟩; (try (have hcB2 := conv_brow (HFA.out _ _ HRB.out))))
      | (go_at_call 19; (with_reducible refine (HP2.out _ ?_).mono ?_); (go_split_ands; with_reducible assumption); rintro e wB ⟨vB, rfl, HRB, hcB, HCB, HFB⟩; (try (have hcA2 := conv_brow (HFB.out _ _ HRA.out)))))
  all_goals
    go_wp2
    go_ret
    first
      | exact ⟨rfl, HCB.out.hb⟩
      | exact ⟨rfl, HCA.out.hb⟩

end Go.Proofs.YtfllemgoldicpaaDoor

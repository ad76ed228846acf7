/- The statement EventReads: its walk. -/
import Derived.Test.YtppgecbjdkfohaaEXe
import Derived.Test.YtppgecbjdkfohaaEPe
namespace Go.Proofs.Ytppgecbjdkfohaa
open Go.RowKit Go.Lib Go.Op

/-- The event that was read, or a zero one. -/
def evO (o : Option PEv) : PEv := o.getD ⟨0, 0, 0, [], []⟩

theorem GetE.any {w w' : World} {o : Option PEv} {e : Ending} (h : GetE w o e w') : ∃ (n : ByteArray) (a : Option Addr) (c : Nat) (vs : List VIn), e = .returned (.tuple #[evV (evO o).ts (evO o).dep (evO o).seq n (.slice a vs.length c), .bool o.isSome]) ∧ n.data.toList = (evO o).name ∧ vs.map pv = (evO o).vals ∧ VRow w' a vs ∧ Below w.heap.size w w' := by
  cases o with
  | none =>
    obtain ⟨h1, h2⟩ := h
    exact ⟨⟨#[]⟩, Option.none, 0, [], h1, rfl, rfl, fun j x hj => by simp at hj, h2⟩
  | some p =>
    obtain ⟨n, a, c, vs, h1, h2, _, h4, h5, h6⟩ := h
    exact ⟨n, a, c, vs, h1, h2, h4, h5, h6⟩

theorem evO_vals (bs : List UInt8) : (evO (getE bs)).vals.length ≤ 8 := by
  cases h : getE bs with
  | none => simp [evO]
  | some p => exact (rightE_iff.1 (getE_some h).1).2.2.2.2.1

theorem epv_inj {x y : VIn} (h : pv x = pv y) : x = y := by
  obtain ⟨k, n, s⟩ := x
  obtain ⟨k', n', s'⟩ := y
  unfold pv at h
  simp only [PVal.mk.injEq] at h
  obtain ⟨rfl, rfl, h3⟩ := h
  have : s = s' := ByteArray.ext (Array.ext' h3)
  rw [this]
theorem pvs_inj : ∀ {l m : List VIn}, l.map pv = m.map pv → l = m
  | [], [], _ => rfl
  | [], y :: m, h => by cases h
  | x :: l, [], h => by cases h
  | x :: l, y :: m, h => by
    simp only [List.map_cons, List.cons.injEq] at h
    rw [epv_inj h.1, pvs_inj h.2]

/-- What a call that tells a truth leaves. -/
def BoolQ (b : Bool) (P : World → Prop) (e : Ending) (w' : World) : Prop := e = .returned (.bool b) ∧ Hid (P w')

section
variable {w w' W : World} {L : List (Nat × Nat × Value)} {X Y M N : Nat} {t1 d1 s1 t2 d2 s2 t d s : Int} {n1 n2 n : ByteArray} {v1 v2 v3 v4 : Value}
theorem E2.start : Hid (CL w (eC w.heap.size t1 d1 s1 n1 v1 ++ eC (w.heap.size + 1) t2 d2 s2 n2 v2) ((w.alloc (.cells #[.int .i64 t1, .int .i64 d1, .int .i64 s1, .string n1, v1] 25)).alloc (.cells #[.int .i64 t2, .int .i64 d2, .int .i64 s2, .string n2, v2] 25))) := by
  refine ⟨fun b i u hm => ?_, ((Below.refl _ _).alloc (Nat.le_refl _) _).alloc (by simp) _⟩
  rcases List.mem_append.1 hm with h | h
  · refine ekeepAl _ (new_cell w _ _ ?_ ?_)
    · simp only [eC, List.mem_cons, Prod.mk.injEq, List.not_mem_nil, or_false] at h; omega
    · simp only [eC, List.mem_cons, Prod.mk.injEq, List.not_mem_nil, or_false] at h
      rcases h with ⟨_, rfl, rfl⟩ | ⟨_, rfl, rfl⟩ | ⟨_, rfl, rfl⟩ | ⟨_, rfl, rfl⟩ | ⟨_, rfl, rfl⟩ <;> rfl
  · refine new_cell _ _ _ ?_ ?_
    · simp only [eC, List.mem_cons, Prod.mk.injEq, List.not_mem_nil, or_false] at h; simp; omega
    · simp only [eC, List.mem_cons, Prod.mk.injEq, List.not_mem_nil, or_false] at h
      rcases h with ⟨_, rfl, rfl⟩ | ⟨_, rfl, rfl⟩ | ⟨_, rfl, rfl⟩ | ⟨_, rfl, rfl⟩ | ⟨_, rfl, rfl⟩ <;> rfl
theorem eC.conj (h : Hid (CL w' L W)) (hs : ∀ q, q ∈ eC X t d s n v1 → q ∈ L) : W.cell? ⟨X, 0, none⟩ = some (.int .i64 t) ∧ W.cell? ⟨X, 1, none⟩ = some (.int .i64 d) ∧ W.cell? ⟨X, 2, none⟩ = some (.int .i64 s) ∧ W.cell? ⟨X, 3, none⟩ = some (.string n) ∧ W.cell? ⟨X, 4, none⟩ = some v1 := by
  refine ⟨h.out.cs _ _ _ (hs _ ?_), h.out.cs _ _ _ (hs _ ?_), h.out.cs _ _ _ (hs _ ?_), h.out.cs _ _ _ (hs _ ?_), h.out.cs _ _ _ (hs _ ?_)⟩ <;> simp [eC]
theorem E2.conj (h : Hid (CL w' (eC X t1 d1 s1 n1 v1 ++ eC Y t2 d2 s2 n2 v2) W)) :
    (W.cell? ⟨X, 0, none⟩ = some (.int .i64 t1) ∧ W.cell? ⟨X, 1, none⟩ = some (.int .i64 d1) ∧ W.cell? ⟨X, 2, none⟩ = some (.int .i64 s1) ∧ W.cell? ⟨X, 3, none⟩ = some (.string n1) ∧ W.cell? ⟨X, 4, none⟩ = some v1) ∧
    (W.cell? ⟨Y, 0, none⟩ = some (.int .i64 t2) ∧ W.cell? ⟨Y, 1, none⟩ = some (.int .i64 d2) ∧ W.cell? ⟨Y, 2, none⟩ = some (.int .i64 s2) ∧ W.cell? ⟨Y, 3, none⟩ = some (.string n2) ∧ W.cell? ⟨Y, 4, none⟩ = some v2) :=
  ⟨eC.conj h fun _ hq => List.mem_append_left _ hq, eC.conj h fun _ hq => List.mem_append_right _ hq⟩
theorem E4.conj (h : Hid (CL w' ((eC X t1 d1 s1 n1 v1 ++ eC Y t2 d2 s2 n2 v2) ++ (eC M t d s n v3 ++ eC N t d s n v4)) W)) :
    W.cell? ⟨X, 0, none⟩ = some (.int .i64 t1) ∧ W.cell? ⟨X, 1, none⟩ = some (.int .i64 d1) ∧ W.cell? ⟨X, 2, none⟩ = some (.int .i64 s1) ∧ W.cell? ⟨X, 3, none⟩ = some (.string n1) ∧ W.cell? ⟨X, 4, none⟩ = some v1 ∧
    W.cell? ⟨Y, 0, none⟩ = some (.int .i64 t2) ∧ W.cell? ⟨Y, 1, none⟩ = some (.int .i64 d2) ∧ W.cell? ⟨Y, 2, none⟩ = some (.int .i64 s2) ∧ W.cell? ⟨Y, 3, none⟩ = some (.string n2) ∧ W.cell? ⟨Y, 4, none⟩ = some v2 ∧
    W.cell? ⟨M, 0, none⟩ = some (.int .i64 t) ∧ W.cell? ⟨M, 1, none⟩ = some (.int .i64 d) ∧ W.cell? ⟨M, 2, none⟩ = some (.int .i64 s) ∧ W.cell? ⟨M, 3, none⟩ = some (.string n) ∧ W.cell? ⟨M, 4, none⟩ = some v3 ∧
    W.cell? ⟨N, 0, none⟩ = some (.int .i64 t) ∧ W.cell? ⟨N, 1, none⟩ = some (.int .i64 d) ∧ W.cell? ⟨N, 2, none⟩ = some (.int .i64 s) ∧ W.cell? ⟨N, 3, none⟩ = some (.string n) ∧ W.cell? ⟨N, 4, none⟩ = some v4 ∧
    Hid (CL w' ((eC X t1 d1 s1 n1 v1 ++ eC Y t2 d2 s2 n2 v2) ++ (eC M t d s n v3 ++ eC N t d s n v4)) W) := by
  obtain ⟨⟨a0, a1, a2, a3, a4⟩, ⟨b0, b1, b2, b3, b4⟩⟩ := E2.conj (CL.left h)
  obtain ⟨c0, c1, c2, c3, c4⟩ := eC.conj (X := M) h fun _ hq => List.mem_append_right _ (List.mem_append_left _ hq)
  obtain ⟨e0, e1, e2, e3, e4⟩ := eC.conj (X := N) h fun _ hq => List.mem_append_right _ (List.mem_append_right _ hq)
  exact ⟨a0, a1, a2, a3, a4, b0, b1, b2, b3, b4, c0, c1, c2, c3, c4, e0, e1, e2, e3, e4, h⟩
end

set_option maxHeartbeats 8000000 in
set_option maxRecDepth 100000 in
theorem ereads_walk (w : World) (ab : Option Addr) (cb : Nat) (bs : List UInt8) (hb : BRow w (.slice ab bs.length cb) bs)
    (t1 d1 s1 : Int) (n1 : ByteArray) (a1 : Option Addr) (c1 : Nat) (vs1 : List VIn) (hn1 : n1.size ≤ maxLen) (hv1 : VRow w a1 vs1) (hl1 : vs1.length ≤ maxLen)
    (t2 d2 s2 : Int) (n2 : ByteArray) (a2 : Option Addr) (c2 : Nat) (vs2 : List VIn) (hn2 : n2.size ≤ maxLen) (hv2 : VRow w a2 vs2) (hl2 : vs2.length ≤ maxLen) :
    Calls Try.prog 4 #[.slice ab bs.length cb, evV t1 d1 s1 n1 (.slice a1 vs1.length c1), evV t2 d2 s2 n2 (.slice a2 vs2.length c2)] w (EFine w) := by
  obtain ⟨a', c', e1, hcl, hcm⟩ := hb.len
  injection e1 with ea el ec
  subst ea
  subst ec
  clear el
  obtain ⟨l1, hll1⟩ : ∃ l, vs1.length = l := ⟨_, rfl⟩
  obtain ⟨l2, hll2⟩ : ∃ l, vs2.length = l := ⟨_, rfl⟩
  obtain ⟨l, hl⟩ : ∃ l, bs.length = l := ⟨_, rfl⟩
  have HG1 : Hid (∀ W, Hid (CL w (eC w.heap.size t1 d1 s1 n1 (.slice a1 vs1.length c1) ++ eC (w.heap.size + 1) t2 d2 s2 n2 (.slice a2 vs2.length c2)) W) → Calls Try.prog 16 #[evV t1 d1 s1 n1 (.slice a1 vs1.length c1)] W (GreatQ (CL w (eC w.heap.size t1 d1 s1 n1 (.slice a1 vs1.length c1) ++ eC (w.heap.size + 1) t2 d2 s2 n2 (.slice a2 vs2.length c2))))) := fun W hW =>
    (greatE_calls t1 d1 s1 n1 a1 c1 vs1 W hn1 (hv1.below hW.out.hb) hl1).mono fun e w' ⟨g, h1, h2⟩ => ⟨g, h1, hW.out.below h2⟩
  have HG2 : Hid (∀ W, Hid (CL w (eC w.heap.size t1 d1 s1 n1 (.slice a1 vs1.length c1) ++ eC (w.heap.size + 1) t2 d2 s2 n2 (.slice a2 vs2.length c2)) W) → Calls Try.prog 16 #[evV t2 d2 s2 n2 (.slice a2 vs2.length c2)] W (GreatQ (CL w (eC w.heap.size t1 d1 s1 n1 (.slice a1 vs1.length c1) ++ eC (w.heap.size + 1) t2 d2 s2 n2 (.slice a2 vs2.length c2))))) := fun W hW =>
    (greatE_calls t2 d2 s2 n2 a2 c2 vs2 W hn2 (hv2.below hW.out.hb) hl2).mono fun e w' ⟨g, h1, h2⟩ => ⟨g, h1, hW.out.below h2⟩
  have HS0 := E2.start (w := w) (t1 := t1) (d1 := d1) (s1 := s1) (n1 := n1) (v1 := .slice a1 vs1.length c1) (t2 := t2) (d2 := d2) (s2 := s2) (n2 := n2) (v2 := .slice a2 vs2.length c2)
  have HRow := Lib.hid hb
  have HL := Lib.hid hl
  rw [hll1, hll2] at HG1 HG2 HS0 ⊢
  rw [hl] at hcl HRow ⊢
  unfold maxLen at hcm
  clear hb hl hll1 hll2 hv1 hv2 hn1 hn2 hl1 hl2
  go_enter Try.func4, Try.ntmps4
  go_wp2_with fail
  refine (ehead_calls _).mono ?_
  rintro _ w1 ⟨rfl, hb1⟩
  have HH := Lib.hid (HS0.out.below hb1)
  obtain ⟨⟨p0, p1, p2, p3, p4⟩, ⟨q0, q1, q2, q3, q4⟩⟩ := E2.conj HH
  clear hb1 HS0
  by_cases h9 : 9000 < l
  · go_wp2
    go_ret
    exact ⟨rfl, HH.out.hb⟩
  go_wp2_with fail
  refine (HG1.out _ HH).mono ?_
  clear HH p0 p1 p2 p3 p4 q0 q1 q2 q3 q4
  rintro _ w2 ⟨g, rfl, HH⟩
  obtain ⟨⟨p0, p1, p2, p3, p4⟩, ⟨q0, q1, q2, q3, q4⟩⟩ := E2.conj HH
  cases g with
  | true =>
    go_wp2
    go_ret
    exact ⟨rfl, HH.out.hb⟩
  | false =>
  go_wp2_with fail
  refine (HG2.out _ HH).mono ?_
  clear HH p0 p1 p2 p3 p4 q0 q1 q2 q3 q4
  rintro _ w3 ⟨g, rfl, HH⟩
  cases g with
  | true =>
    go_wp2
    go_ret
    exact ⟨rfl, HH.out.hb⟩
  | false =>
  clear HG1 HG2
  go_wp2_with fail
  have HGt := Lib.hid (eget_calls w3 _ bs (HRow.out.below HH.out.hb))
  refine HGt.out.mono ?_
  rintro _ w4 hg4
  obtain ⟨n, a, c, vs, rfl, hnn, hvv, hr, hb4⟩ := GetE.any hg4
  have HH4 := Lib.hid (HH.out.below hb4)
  have hl8 := evO_vals bs
  have HR4 := Lib.hid hr
  clear hg4 hr hb4 HH HGt
  have HRow5 := Lib.hid (HRow.out.below (CL.alloc (.cells #[.int .i64 (evO (getE bs)).ts, .int .i64 (evO (getE bs)).dep, .int .i64 (evO (getE bs)).seq, .string n, .slice a vs.length c] 25) HH4).out.hb)
  have HGr := Lib.hid (rgetE_calls _ _ bs HRow5.out (by rw [HL.out]; omega))
  rw [rgetE_getE] at HGr
  generalize getE bs = o at *
  obtain ⟨p, hp⟩ : ∃ p, evO o = p := ⟨_, rfl⟩
  have Hp := Lib.hid hp
  rw [hp] at HGr HRow5 hl8 hnn hvv ⊢
  obtain ⟨te, de, se, ne, pe⟩ := p
  dsimp only at HGr HRow5 hl8 hnn hvv ⊢
  obtain ⟨lv, hlv⟩ : ∃ l, vs.length = l := ⟨_, rfl⟩
  have HLv := Lib.hid hlv
  have Hnn := Lib.hid hnn
  have Hvv := Lib.hid hvv
  have Hv8 : Hid (vs.length ≤ maxLen) := by
    have h1 := congrArg List.length hvv
    rw [List.length_map] at h1
    show _ ≤ _
    unfold maxLen
    omega
  rw [hlv] at HGr HRow5 ⊢
  clear hp hlv hnn hvv hl8
  go_wp2_with fail
  refine HGr.out.mono ?_
  rintro _ w5 hg5
  have h5 := GetE.any hg5
  rw [Hp.out] at h5
  dsimp only at h5
  obtain ⟨n', a', c', vs', rfl, hnn', hvv', hr', hb5⟩ := h5
  obtain rfl : n' = n := ByteArray.ext (Array.ext' (hnn'.trans Hnn.out.symm))
  obtain rfl : vs' = vs := pvs_inj (hvv'.trans Hvv.out.symm)
  have HE4 := Lib.hid (CL.append (CL.alloc (.cells #[.int .i64 te, .int .i64 de, .int .i64 se, .string n', .slice a lv c] 25) HH4) (M := eC w4.heap.size te de se n' (.slice a lv c)) fun b i u hm => by
    simp only [eC, List.mem_cons, Prod.mk.injEq, List.not_mem_nil, or_false] at hm
    rcases hm with ⟨rfl, rfl, rfl⟩ | ⟨rfl, rfl, rfl⟩ | ⟨rfl, rfl, rfl⟩ | ⟨rfl, rfl, rfl⟩ | ⟨rfl, rfl, rfl⟩ <;> exact new_cell _ _ _ rfl rfl)
  have HE5 := Lib.hid (HE4.out.out.below hb5)
  have HE6 := CL.append (CL.alloc (.cells #[.int .i64 te, .int .i64 de, .int .i64 se, .string n', .slice a' lv c'] 25) HE5) (M := eC w5.heap.size te de se n' (.slice a' lv c')) fun b i u hm => by
    simp only [eC, List.mem_cons, Prod.mk.injEq, List.not_mem_nil, or_false] at hm
    rcases hm with ⟨rfl, rfl, rfl⟩ | ⟨rfl, rfl, rfl⟩ | ⟨rfl, rfl, rfl⟩ | ⟨rfl, rfl, rfl⟩ | ⟨rfl, rfl, rfl⟩ <;> exact new_cell _ _ _ rfl rfl
  rw [List.append_assoc] at HE6
  have HRa := Lib.hid ((HR4.out.below ((Below.refl _ _).alloc (Nat.le_refl _) (.cells #[.int .i64 te, .int .i64 de, .int .i64 se, .string n', .slice a lv c] 25))).below hb5)
  have HRb := Lib.hid hr'
  clear hg5 hr' hb5 HE4 HE5 hnn' hvv' HH4 HR4 HRow5 HGr
  rw [HLv.out]
  go_upto_region 6 with fail
  have hbx : Below w5.heap.size w5 (w5.alloc (.cells #[.int .i64 te, .int .i64 de, .int .i64 se, .string n', .slice a' lv c'] 25)) := (Below.refl _ _).alloc (Nat.le_refl _) _
  have HRa := Lib.hid (HRa.out.below hbx)
  have HRb := Lib.hid (HRb.out.below hbx)
  generalize w4.heap.size = M at *
  generalize w5.heap.size = N at *
  generalize w5.alloc (.cells #[.int .i64 te, .int .i64 de, .int .i64 se, .string n', .slice a' lv c'] 25) = W6 at *
  have HBw : Hid (Below w.heap.size w W6) := HE6.out.hb
  have HC : Hid (CL W6 ((eC w.heap.size t1 d1 s1 n1 (.slice a1 l1 c1) ++ eC (w.heap.size + 1) t2 d2 s2 n2 (.slice a2 l2 c2)) ++ (eC M te de se n' (.slice a lv c) ++ eC N te de se n' (.slice a' lv c'))) W6) := ⟨HE6.out.cs, Below.refl _ _⟩
  have HSm : Hid (∀ W, Hid (CL W6 ((eC w.heap.size t1 d1 s1 n1 (.slice a1 l1 c1) ++ eC (w.heap.size + 1) t2 d2 s2 n2 (.slice a2 l2 c2)) ++ (eC M te de se n' (.slice a lv c) ++ eC N te de se n' (.slice a' lv c'))) W) → Calls Try.prog 32 #[evV te de se n' (.slice a lv c), evV te de se n' (.slice a' lv c')] W (BoolQ true (CL W6 ((eC w.heap.size t1 d1 s1 n1 (.slice a1 l1 c1) ++ eC (w.heap.size + 1) t2 d2 s2 n2 (.slice a2 l2 c2)) ++ (eC M te de se n' (.slice a lv c) ++ eC N te de se n' (.slice a' lv c')))))) := fun W hW => by
    have h := sameOne_calls te de se n' a c a' c' vs' W (HRa.out.below hW.out.hb) (HRb.out.below hW.out.hb) Hv8.out
    rw [HLv.out] at h
    exact h.mono fun e w' ⟨e1, h2⟩ => ⟨e1, hW.out.below h2⟩
  obtain ⟨r, hr⟩ : ∃ r, lessE t1 d1 s1 t2 d2 s2 = r := ⟨_, rfl⟩
  have HLs : Hid (∀ W, Hid (CL W6 ((eC w.heap.size t1 d1 s1 n1 (.slice a1 l1 c1) ++ eC (w.heap.size + 1) t2 d2 s2 n2 (.slice a2 l2 c2)) ++ (eC M te de se n' (.slice a lv c) ++ eC N te de se n' (.slice a' lv c'))) W) → Calls Try.prog 33 #[evV t1 d1 s1 n1 (.slice a1 l1 c1), evV t2 d2 s2 n2 (.slice a2 l2 c2)] W (BoolQ r (CL W6 ((eC w.heap.size t1 d1 s1 n1 (.slice a1 l1 c1) ++ eC (w.heap.size + 1) t2 d2 s2 n2 (.slice a2 l2 c2)) ++ (eC M te de se n' (.slice a lv c) ++ eC N te de se n' (.slice a' lv c')))))) := fun W hW => by
    have h := less_calls t1 d1 s1 n1 (.slice a1 l1 c1) t2 d2 s2 n2 (.slice a2 l2 c2) W
    rw [hr] at h
    exact h.mono fun e w' ⟨e1, h2⟩ => ⟨e1, hW.out.below h2⟩
  have HLr : Hid (∀ W, Hid (CL W6 ((eC w.heap.size t1 d1 s1 n1 (.slice a1 l1 c1) ++ eC (w.heap.size + 1) t2 d2 s2 n2 (.slice a2 l2 c2)) ++ (eC M te de se n' (.slice a lv c) ++ eC N te de se n' (.slice a' lv c'))) W) → Calls Try.prog 34 #[evV t1 d1 s1 n1 (.slice a1 l1 c1), evV t2 d2 s2 n2 (.slice a2 l2 c2)] W (BoolQ r (CL W6 ((eC w.heap.size t1 d1 s1 n1 (.slice a1 l1 c1) ++ eC (w.heap.size + 1) t2 d2 s2 n2 (.slice a2 l2 c2)) ++ (eC M te de se n' (.slice a lv c) ++ eC N te de se n' (.slice a' lv c')))))) := fun W hW => by
    have h := rless_calls t1 d1 s1 n1 (.slice a1 l1 c1) t2 d2 s2 n2 (.slice a2 l2 c2) ⟨_, _, _, rfl⟩ ⟨_, _, _, rfl⟩ W
    rw [hr] at h
    exact h.mono fun e w' ⟨e1, h2⟩ => ⟨e1, hW.out.below h2⟩
  obtain ⟨g0, g1, g2, g3, g4, g5, g6, g7, g8, g9, g10, g11, g12, g13, g14, g15, g16, g17, g18, g19, _⟩ := E4.conj (CL.drew HC)
  clear hr HE6 HRa HRb Hv8 HLv Hnn Hvv Hp hbx HRow HL HC
  cases hos : o.isSome <;> cases r
  all_goals
    go_region_held3 (fun W => W.cell? ⟨w.heap.size, 0, none⟩ = some (.int .i64 t1) ∧ W.cell? ⟨w.heap.size, 1, none⟩ = some (.int .i64 d1) ∧ W.cell? ⟨w.heap.size, 2, none⟩ = some (.int .i64 s1) ∧ W.cell? ⟨w.heap.size, 3, none⟩ = some (.string n1) ∧ W.cell? ⟨w.heap.size, 4, none⟩ = some (.slice a1 l1 c1) ∧ W.cell? ⟨w.heap.size + 1, 0, none⟩ = some (.int .i64 t2) ∧ W.cell? ⟨w.heap.size + 1, 1, none⟩ = some (.int .i64 d2) ∧ W.cell? ⟨w.heap.size + 1, 2, none⟩ = some (.int .i64 s2) ∧ W.cell? ⟨w.heap.size + 1, 3, none⟩ = some (.string n2) ∧ W.cell? ⟨w.heap.size + 1, 4, none⟩ = some (.slice a2 l2 c2) ∧ W.cell? ⟨M, 0, none⟩ = some (.int .i64 te) ∧ W.cell? ⟨M, 1, none⟩ = some (.int .i64 de) ∧ W.cell? ⟨M, 2, none⟩ = some (.int .i64 se) ∧ W.cell? ⟨M, 3, none⟩ = some (.string n') ∧ W.cell? ⟨M, 4, none⟩ = some (.slice a lv c) ∧ W.cell? ⟨N, 0, none⟩ = some (.int .i64 te) ∧ W.cell? ⟨N, 1, none⟩ = some (.int .i64 de) ∧ W.cell? ⟨N, 2, none⟩ = some (.int .i64 se) ∧ W.cell? ⟨N, 3, none⟩ = some (.string n') ∧ W.cell? ⟨N, 4, none⟩ = some (.slice a' lv c') ∧ Hid (CL W6 ((eC w.heap.size t1 d1 s1 n1 (.slice a1 l1 c1) ++ eC (w.heap.size + 1) t2 d2 s2 n2 (.slice a2 l2 c2)) ++ (eC M te de se n' (.slice a lv c) ++ eC N te de se n' (.slice a' lv c'))) W))
      (((try go_split_ands); (with_reducible refine E4.conj ?_); with_reducible assumption))
      (first
        | (go_at_call 32; (with_reducible refine (HSm.out _ ?_).mono ?_); (go_split_ands; with_reducible assumption); rintro e w7 ⟨rfl, HC7⟩)
        | (go_at_call 33; (with_reducible refine (HLs.out _ ?_).mono ?_); (go_split_ands; with_reducible assumption); rintro e w8 ⟨rfl, HC8⟩)
        | (go_at_call 34; (with_reducible refine (HLr.out _ ?_).mono ?_); (go_split_ands; with_reducible assumption); rintro e w9 ⟨rfl, HC9⟩))
    all_goals
      go_wp2
      go_ret
      first
        | exact ⟨rfl, HBw.out.trans (HC9.out.hb.mono HBw.out.size)⟩
        | exact ⟨rfl, HBw.out.trans (HC8.out.hb.mono HBw.out.size)⟩

end Go.Proofs.Ytppgecbjdkfohaa

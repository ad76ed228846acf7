/- The document's may, number, Add, Sub, Compare. -/
import Derived.Test.YtfllemgoldicpaaDoorVK
namespace Go.Proofs.YtfllemgoldicpaaDoor
open Go.RowKit Go.Lib Go.Op

/-- May two be reckoned with? -/
def mayV (a b : PVal) : Int := if rightB a = false ∨ rightB b = false then 1 else if a.k ≠ 1 ∨ b.k ≠ 1 then 42 else 0

section
variable (k1 n1 : Int) (s1 : ByteArray) (k2 n2 : Int) (s2 : ByteArray) (w : World)

set_option maxHeartbeats 1000000 in
set_option maxRecDepth 100000 in
theorem rmay_calls (hs1 : s1.size ≤ maxLen) (hs2 : s2.size ≤ maxLen) :
    Calls Tryd.prog 25 #[.agg #[.int .i64 k1, .int .i64 n1, .string s1], .agg #[.int .i64 k2, .int .i64 n2, .string s2]] w fun e w' => e = .returned (.int .i64 (mayV ⟨k1, n1, s1.data.toList⟩ ⟨k2, n2, s2.data.toList⟩)) ∧ Below w.heap.size w w' := by
  have HS1 := Lib.hid hs1
  have HS2 := Lib.hid hs2
  cases h1 : rightV k1 n1 s1 with
  | false =>
    have e : mayV ⟨k1, n1, s1.data.toList⟩ ⟨k2, n2, s2.data.toList⟩ = 1 := if_pos (.inl h1)
    rw [e]
    clear hs1 hs2 e
    go_enter Tryd.func25, Tryd.ntmps25
    go_wp2_with (go_at_call 17; (with_reducible refine (rright_calls k1 n1 s1 _ HS1.out).mono ?_); rintro e wq ⟨rfl, rfl⟩)
    go_ret
    exact ⟨rfl, by repeat' (first | exact Below.refl _ _ | refine Below.alloc ?_ (by simp <;> omega) _)⟩
  | true =>
  cases h2 : rightV k2 n2 s2 with
  | false =>
    have e : mayV ⟨k1, n1, s1.data.toList⟩ ⟨k2, n2, s2.data.toList⟩ = 1 := if_pos (.inr h2)
    rw [e]
    clear hs1 hs2 e
    go_enter Tryd.func25, Tryd.ntmps25
    go_wp2_with (go_at_call 17; (first | (with_reducible refine (rright_calls k1 n1 s1 _ HS1.out).mono ?_) | (with_reducible refine (rright_calls k2 n2 s2 _ HS2.out).mono ?_)); rintro e wq ⟨rfl, rfl⟩)
    go_ret
    exact ⟨rfl, by repeat' (first | exact Below.refl _ _ | refine Below.alloc ?_ (by simp <;> omega) _)⟩
  | true =>
  have hno : ¬ (rightB ⟨k1, n1, s1.data.toList⟩ = false ∨ rightB ⟨k2, n2, s2.data.toList⟩ = false) := by
    rintro (h | h)
    · rw [show rightB ⟨k1, n1, s1.data.toList⟩ = true from h1] at h; cases h
    · rw [show rightB ⟨k2, n2, s2.data.toList⟩ = true from h2] at h; cases h
  by_cases hk : k1 ≠ 1 ∨ k2 ≠ 1
  · have e : mayV ⟨k1, n1, s1.data.toList⟩ ⟨k2, n2, s2.data.toList⟩ = 42 := (if_neg hno).trans (if_pos hk)
    rw [e]
    clear hs1 hs2 e hno
    rcases Int.lt_trichotomy k1 1 with hk1 | rfl | hk1
    · have hb : (k1 != 1) = true := by rw [bne_iff_ne]; omega
      clear hk
      go_enter Tryd.func25, Tryd.ntmps25
      go_wp2_with (go_at_call 17; (first | (with_reducible refine (rright_calls k1 n1 s1 _ HS1.out).mono ?_) | (with_reducible refine (rright_calls k2 n2 s2 _ HS2.out).mono ?_)); rintro e wq ⟨rfl, rfl⟩)
      go_ret
      exact ⟨rfl, by repeat' (first | exact Below.refl _ _ | refine Below.alloc ?_ (by simp <;> omega) _)⟩
    · have hk2 : k2 ≠ 1 := by rcases hk with h | h; exact absurd rfl h; exact h
      have hb : (k2 != 1) = true := by rw [bne_iff_ne]; exact hk2
      clear hk
      go_enter Tryd.func25, Tryd.ntmps25
      go_wp2_with (go_at_call 17; (first | (with_reducible refine (rright_calls 1 n1 s1 _ HS1.out).mono ?_) | (with_reducible refine (rright_calls k2 n2 s2 _ HS2.out).mono ?_)); rintro e wq ⟨rfl, rfl⟩)
      go_ret
      exact ⟨rfl, by repeat' (first | exact Below.refl _ _ | refine Below.alloc ?_ (by simp <;> omega) _)⟩
    · have hb : (k1 != 1) = true := by rw [bne_iff_ne]; omega
      clear hk
      go_enter Tryd.func25, Tryd.ntmps25
      go_wp2_with (go_at_call 17; (first | (with_reducible refine (rright_calls k1 n1 s1 _ HS1.out).mono ?_) | (with_reducible refine (rright_calls k2 n2 s2 _ HS2.out).mono ?_)); rintro e wq ⟨rfl, rfl⟩)
      go_ret
      exact ⟨rfl, by repeat' (first | exact Below.refl _ _ | refine Below.alloc ?_ (by simp <;> omega) _)⟩
  · have e : mayV ⟨k1, n1, s1.data.toList⟩ ⟨k2, n2, s2.data.toList⟩ = 0 := (if_neg hno).trans (if_neg hk)
    rw [e]
    have hk1 : k1 = 1 := Classical.byContradiction fun h => hk (.inl h)
    have hk2 : k2 = 1 := Classical.byContradiction fun h => hk (.inr h)
    subst hk1 hk2
    clear hs1 hs2 e hno hk
    go_enter Tryd.func25, Tryd.ntmps25
    go_wp2_with (go_at_call 17; (first | (with_reducible refine (rright_calls 1 n1 s1 _ HS1.out).mono ?_) | (with_reducible refine (rright_calls 1 n2 s2 _ HS2.out).mono ?_)); rintro e wq ⟨rfl, rfl⟩)
    go_ret
    exact ⟨rfl, by repeat' (first | exact Below.refl _ _ | refine Below.alloc ?_ (by simp <;> omega) _)⟩
end

/-- An Int, if that is right. -/
def numV (n : Int) : PVal × Int := if -1099511627776 ≤ n ∧ n ≤ 1099511627776 then (⟨1, n, []⟩, 0) else (⟨0, 0, []⟩, 41)

set_option maxRecDepth 100000 in
theorem rnumber1_calls (n : Int) (w : World) : Calls Tryd.prog 26 #[.int .i64 n] w (SumPost w (numV n)) := by
  unfold numV
  by_cases h1 : n < -1099511627776
  · rw [if_neg (by omega)]
    go_enter Tryd.func26, Tryd.ntmps26
    go_wp2
    refine bodyPost_ret (v := .tuple #[.agg #[.int .i64 0, .int .i64 0, .string ⟨#[]⟩], .int .i64 41]) (by simp [results, Tryd.results26, go_sem]) rfl ⟨rfl, ?_⟩
    repeat' (first | exact Below.refl _ _ | refine Below.alloc ?_ (by simp <;> omega) _ | refine Below.setCell ?_ (by simp) _)
  by_cases h2 : 1099511627776 < n
  · rw [if_neg (by omega)]
    go_enter Tryd.func26, Tryd.ntmps26
    go_wp2
    refine bodyPost_ret (v := .tuple #[.agg #[.int .i64 0, .int .i64 0, .string ⟨#[]⟩], .int .i64 41]) (by simp [results, Tryd.results26, go_sem]) rfl ⟨rfl, ?_⟩
    repeat' (first | exact Below.refl _ _ | refine Below.alloc ?_ (by simp <;> omega) _ | refine Below.setCell ?_ (by simp) _)
  · rw [if_pos (by omega)]
    go_enter Tryd.func26, Tryd.ntmps26
    go_wp2
    refine bodyPost_ret (v := .tuple #[.agg #[.int .i64 1, .int .i64 n, .string ⟨#[]⟩], .int .i64 0]) (by simp [results, Tryd.results26, go_sem]) rfl ⟨rfl, ?_⟩
    repeat' (first | exact Below.refl _ _ | refine Below.alloc ?_ (by simp <;> omega) _ | refine Below.setCell ?_ (by simp) _)

theorem sumV_may {a b : PVal} {t : Int} (ht : t = 1 ∨ t = -1) : (mayV a b ≠ 0 ∧ sumV a b t = (⟨0, 0, []⟩, mayV a b)) ∨ (mayV a b = 0 ∧ sumV a b t = numV (a.n + t * b.n) ∧ (-1099511627776 ≤ a.n ∧ a.n ≤ 1099511627776) ∧ (-1099511627776 ≤ b.n ∧ b.n ≤ 1099511627776)) := by
  by_cases h1 : rightB a = false ∨ rightB b = false
  · have e : mayV a b = 1 := if_pos h1
    rw [e]
    exact .inl ⟨by decide, if_pos h1⟩
  by_cases h2 : a.k ≠ 1 ∨ b.k ≠ 1
  · have e : mayV a b = 42 := (if_neg h1).trans (if_pos h2)
    rw [e]
    exact .inl ⟨by decide, (if_neg h1).trans (if_pos h2)⟩
  · have e : mayV a b = 0 := (if_neg h1).trans (if_neg h2)
    rw [not_or] at h1 h2
    have ra : rightB a = true := by simpa using h1.1
    have rb : rightB b = true := by simpa using h1.2
    have ka : a.k = 1 := Classical.byContradiction fun h => h2.1 h
    have kb : b.k = 1 := Classical.byContradiction fun h => h2.2 h
    refine .inr ⟨e, ?_, ?_, ?_⟩
    · unfold numV
      by_cases hr : -1099511627776 ≤ a.n + t * b.n ∧ a.n + t * b.n ≤ 1099511627776
      · rw [if_pos hr, sumV_ok ra rb ka kb (rightB_1.2 ⟨hr.1, hr.2, rfl⟩)]
      · rw [if_neg hr, sumV_big ra rb ka kb (by
          cases hq : rightB ⟨1, a.n + t * b.n, []⟩ with
          | false => rfl
          | true => have := rightB_1.1 hq; exact absurd ⟨this.1, this.2.1⟩ hr)]
    · obtain ⟨k, n, s⟩ := a
      subst ka
      have := rightB_1.1 ra
      exact ⟨this.1, this.2.1⟩
    · obtain ⟨k, n, s⟩ := b
      subst kb
      have := rightB_1.1 rb
      exact ⟨this.1, this.2.1⟩

theorem vkeep {w w' : World} (hb : Below w.heap.size w w') {p : Addr} {v : Value} (h : w.cell? p = some v) : w'.cell? p = some v := (hb.cell (World.block_lt_of_cell? _ _ h)).trans h
theorem vkeepF {w w' : World} (hb : Below w.heap.size w w') {b i : Nat} (hlt : b < w.heap.size) (h : w.frozen? ⟨b, i, none⟩ = false) : w'.frozen? ⟨b, i, none⟩ = false := (hb.frozen (p := ⟨b, i, none⟩) hlt).trans h

/-- Two values in their boxes, and the answer's. -/
structure S3 (w : World) (n1 n2 : Int) (W : World) : Prop where
  a : W.cell? ⟨w.heap.size, 1, none⟩ = some (.int .i64 n1)
  b : W.cell? ⟨w.heap.size + 1, 1, none⟩ = some (.int .i64 n2)
  c0 : W.cell? ⟨w.heap.size + 1 + 1, 0, none⟩ = some (.int .i64 0)
  c1 : W.cell? ⟨w.heap.size + 1 + 1, 1, none⟩ = some (.int .i64 0)
  c2 : W.cell? ⟨w.heap.size + 1 + 1, 2, none⟩ = some (.string ⟨#[]⟩)
  f : ∀ i, W.frozen? ⟨w.heap.size + 1 + 1, i, none⟩ = false
  hb : Below w.heap.size w W
theorem S3.below {w : World} {n1 n2 : Int} {W W' : World} (h : S3 w n1 n2 W) (hb : Below W.heap.size W W') : S3 w n1 n2 W' :=
  ⟨vkeep hb h.a, vkeep hb h.b, vkeep hb h.c0, vkeep hb h.c1, vkeep hb h.c2, fun i => vkeepF hb (World.block_lt_of_cell? _ _ h.c0) (h.f i), h.hb.trans (hb.mono h.hb.size)⟩
theorem vnew_cell (W : World) (cs : Array Value) (t : TypeId) {b i : Nat} {x : Value} (hb : b = W.heap.size) (hx : cs[i]? = some x) : (W.alloc (.cells cs t)).cell? ⟨b, i, none⟩ = some x := by
  subst hb; exact fcell_of_blk (heap_alloc_new W _) hx
theorem vnew_frozen (W : World) (cs : Array Value) (t : TypeId) {b i : Nat} (hb : b = W.heap.size) : (W.alloc (.cells cs t)).frozen? ⟨b, i, none⟩ = false := by
  subst hb; simp
theorem S3.start (w : World) (k1 n1 : Int) (s1 : ByteArray) (k2 n2 : Int) (s2 : ByteArray) : S3 w n1 n2 (((w.alloc (.cells #[.int .i64 k1, .int .i64 n1, .string s1] 23)).alloc (.cells #[.int .i64 k2, .int .i64 n2, .string s2] 23)).alloc (.cells #[.int .i64 0, .int .i64 0, .string ⟨#[]⟩] 23)) := by
  have hk : ∀ (W : World) (o : Obj), Below W.heap.size W (W.alloc o) := fun W o => (Below.refl _ _).alloc (Nat.le_refl _) _
  have e1 : ∀ o : Obj, w.heap.size + 1 = (w.alloc o).heap.size := fun o => by simp
  have e2 : ∀ o p : Obj, w.heap.size + 1 + 1 = ((w.alloc o).alloc p).heap.size := fun o p => by simp
  refine ⟨vkeep (hk _ _) (vkeep (hk _ _) (vnew_cell w _ _ rfl rfl)), vkeep (hk _ _) (vnew_cell (w.alloc _) _ _ (e1 _) rfl), vnew_cell _ _ _ (e2 _ _) rfl, vnew_cell _ _ _ (e2 _ _) rfl, vnew_cell _ _ _ (e2 _ _) rfl, fun i => vnew_frozen _ _ _ (e2 _ _), ?_⟩
  · repeat' (first | exact Below.refl _ _ | refine Below.alloc ?_ (by simp <;> omega) _)
theorem S3.put {w : World} {n1 n2 : Int} {W : World} (h : S3 w n1 n2 W) (x y z : Value) : Below w.heap.size w (((W.setCell ⟨w.heap.size + 1 + 1, 0, none⟩ x).setCell ⟨w.heap.size + 1 + 1, 1, none⟩ y).setCell ⟨w.heap.size + 1 + 1, 2, none⟩ z) := by
  repeat' (first | exact h.hb | refine Below.setCell ?_ (by dsimp only; omega) _)

set_option maxHeartbeats 2000000 in
set_option maxRecDepth 100000 in
theorem radd_calls (k1 n1 : Int) (s1 : ByteArray) (k2 n2 : Int) (s2 : ByteArray) (w : World) (hs1 : s1.size ≤ maxLen) (hs2 : s2.size ≤ maxLen) :
    Calls Tryd.prog 11 #[.agg #[.int .i64 k1, .int .i64 n1, .string s1], .agg #[.int .i64 k2, .int .i64 n2, .string s2]] w (SumPost w (sumV ⟨k1, n1, s1.data.toList⟩ ⟨k2, n2, s2.data.toList⟩ 1)) := by
  have HM := Lib.hid (fun W => rmay_calls k1 n1 s1 k2 n2 s2 W hs1 hs2)
  have HS := Lib.hid (S3.start w k1 n1 s1 k2 n2 s2)
  rcases sumV_may (a := ⟨k1, n1, s1.data.toList⟩) (b := ⟨k2, n2, s2.data.toList⟩) (t := 1) (by decide) with ⟨h1, h2⟩ | ⟨h1, h2, h3, h4⟩
  · rw [h2]
    generalize mayV ⟨k1, n1, s1.data.toList⟩ ⟨k2, n2, s2.data.toList⟩ = z at *
    have hz : (z != 0) = true := by rw [bne_iff_ne]; exact h1
    clear h2 hs1 hs2
    go_enter Tryd.func11, Tryd.ntmps11
    go_wp2_with (go_at_call 25; (with_reducible refine (HM.out _).mono ?_); rintro e w1 ⟨rfl, hb1⟩; have HS1 := Lib.hid (HS.out.below hb1); have y0 := HS1.out.c0; have y1 := HS1.out.c1; have y2 := HS1.out.c2; have f0 := HS1.out.f 0; have f1 := HS1.out.f 1; have f2 := HS1.out.f 2; clear hb1)
    refine bodyPost_ret (v := .tuple #[.agg #[.int .i64 0, .int .i64 0, .string ⟨#[]⟩], .int .i64 z]) (by simp [results, Tryd.results11, go_sem, y0, y1, y2]) rfl ⟨rfl, ?_⟩
    exact HS1.out.put _ _ _
  · rw [h2]
    dsimp only at h3 h4 ⊢
    rw [h1] at HM
    obtain ⟨a1, a2⟩ := h3
    obtain ⟨b1, b2⟩ := h4
    have hw : IntKind.i64.wrap (n1 + n2) = n1 + n2 := IntWalk.i64_in _ (by omega)
    have he : n1 + 1 * n2 = n1 + n2 := by omega
    rw [he]
    have HN := Lib.hid (fun W => rnumber1_calls (n1 + n2) W)
    generalize numV (n1 + n2) = q at HN ⊢
    obtain ⟨⟨k3, n3, s3⟩, e3⟩ := q
    clear h2 hs1 hs2 h1 he
    go_enter Tryd.func11, Tryd.ntmps11
    go_wp2_with (first
      | (go_at_call 25; (with_reducible refine (HM.out _).mono ?_); rintro e w1 ⟨rfl, hb1⟩; have HS1 := Lib.hid (HS.out.below hb1); have x0 := HS1.out.a; have x1 := HS1.out.b; clear hb1)
      | (go_at_call 26; (with_reducible refine (HN.out _).mono ?_); rintro e w2 ⟨rfl, hb2⟩; have HS2 := Lib.hid (HS1.out.below hb2); have y0 := HS2.out.c0; have y1 := HS2.out.c1; have y2 := HS2.out.c2; have f0 := HS2.out.f 0; have f1 := HS2.out.f 1; have f2 := HS2.out.f 2; clear hb2))
    refine bodyPost_ret (v := .tuple #[.agg #[.int .i64 k3, .int .i64 n3, .string ⟨#[]⟩], .int .i64 e3]) (by simp [results, Tryd.results11, go_sem, y0, y1, y2]) rfl ⟨rfl, ?_⟩
    exact HS2.out.put _ _ _

set_option maxHeartbeats 2000000 in
set_option maxRecDepth 100000 in
theorem rsub_calls (k1 n1 : Int) (s1 : ByteArray) (k2 n2 : Int) (s2 : ByteArray) (w : World) (hs1 : s1.size ≤ maxLen) (hs2 : s2.size ≤ maxLen) :
    Calls Tryd.prog 13 #[.agg #[.int .i64 k1, .int .i64 n1, .string s1], .agg #[.int .i64 k2, .int .i64 n2, .string s2]] w (SumPost w (sumV ⟨k1, n1, s1.data.toList⟩ ⟨k2, n2, s2.data.toList⟩ (-1))) := by
  have HM := Lib.hid (fun W => rmay_calls k1 n1 s1 k2 n2 s2 W hs1 hs2)
  have HS := Lib.hid (S3.start w k1 n1 s1 k2 n2 s2)
  rcases sumV_may (a := ⟨k1, n1, s1.data.toList⟩) (b := ⟨k2, n2, s2.data.toList⟩) (t := (-1)) (by decide) with ⟨h1, h2⟩ | ⟨h1, h2, h3, h4⟩
  · rw [h2]
    generalize mayV ⟨k1, n1, s1.data.toList⟩ ⟨k2, n2, s2.data.toList⟩ = z at *
    have hz : (z != 0) = true := by rw [bne_iff_ne]; exact h1
    clear h2 hs1 hs2
    go_enter Tryd.func13, Tryd.ntmps13
    go_wp2_with (go_at_call 25; (with_reducible refine (HM.out _).mono ?_); rintro e w1 ⟨rfl, hb1⟩; have HS1 := Lib.hid (HS.out.below hb1); have y0 := HS1.out.c0; have y1 := HS1.out.c1; have y2 := HS1.out.c2; have f0 := HS1.out.f 0; have f1 := HS1.out.f 1; have f2 := HS1.out.f 2; clear hb1)
    refine bodyPost_ret (v := .tuple #[.agg #[.int .i64 0, .int .i64 0, .string ⟨#[]⟩], .int .i64 z]) (by simp [results, Tryd.results13, go_sem, y0, y1, y2]) rfl ⟨rfl, ?_⟩
    exact HS1.out.put _ _ _
  · rw [h2]
    dsimp only at h3 h4 ⊢
    rw [h1] at HM
    obtain ⟨a1, a2⟩ := h3
    obtain ⟨b1, b2⟩ := h4
    have hw : IntKind.i64.wrap (n1 - n2) = n1 - n2 := IntWalk.i64_in _ (by omega)
    have he : n1 + (-1) * n2 = n1 - n2 := by omega
    rw [he]
    have HN := Lib.hid (fun W => rnumber1_calls (n1 - n2) W)
    generalize numV (n1 - n2) = q at HN ⊢
    obtain ⟨⟨k3, n3, s3⟩, e3⟩ := q
    clear h2 hs1 hs2 h1 he
    go_enter Tryd.func13, Tryd.ntmps13
    go_wp2_with (first
      | (go_at_call 25; (with_reducible refine (HM.out _).mono ?_); rintro e w1 ⟨rfl, hb1⟩; have HS1 := Lib.hid (HS.out.below hb1); have x0 := HS1.out.a; have x1 := HS1.out.b; clear hb1)
      | (go_at_call 26; (with_reducible refine (HN.out _).mono ?_); rintro e w2 ⟨rfl, hb2⟩; have HS2 := Lib.hid (HS1.out.below hb2); have y0 := HS2.out.c0; have y1 := HS2.out.c1; have y2 := HS2.out.c2; have f0 := HS2.out.f 0; have f1 := HS2.out.f 1; have f2 := HS2.out.f 2; clear hb2))
    refine bodyPost_ret (v := .tuple #[.agg #[.int .i64 k3, .int .i64 n3, .string ⟨#[]⟩], .int .i64 e3]) (by simp [results, Tryd.results13, go_sem, y0, y1, y2]) rfl ⟨rfl, ?_⟩
    exact HS2.out.put _ _ _

set_option maxHeartbeats 4000000 in
set_option maxRecDepth 100000 in
/-- The document's Compare where it does not compare. -/
theorem rcompare_no (op k1 n1 : Int) (s1 : ByteArray) (k2 n2 : Int) (s2 : ByteArray) (w : World) (hs1 : s1.size ≤ maxLen) (hs2 : s2.size ≤ maxLen) (z : Int)
    (h : (z = 1 ∧ (rightV k1 n1 s1 = false ∨ rightV k1 n1 s1 = true ∧ (rightV k2 n2 s2 = false ∨ rightV k2 n2 s2 = true ∧ (op < 1 ∨ ¬ op < 1 ∧ 6 < op)))) ∨ (z = 42 ∧ rightV k1 n1 s1 = true ∧ rightV k2 n2 s2 = true ∧ ¬ op < 1 ∧ ¬ 6 < op ∧ (k1 ≠ k2 ∨ k1 = k2 ∧ k1 = 3 ∧ op ≠ 1 ∧ op ≠ 2))) :
    Calls Tryd.prog 15 #[.int .i64 op, .agg #[.int .i64 k1, .int .i64 n1, .string s1], .agg #[.int .i64 k2, .int .i64 n2, .string s2]] w (CmpPost w (false, z)) := by
  have HS1 := Lib.hid hs1
  have HS2 := Lib.hid hs2
  clear hs1 hs2
  rcases h with ⟨rfl, h1 | ⟨h1, h2 | ⟨h2, h3 | ⟨h3, h4⟩⟩⟩⟩ | ⟨rfl, h1, h2, h3, h4, h5 | ⟨rfl, rfl, h6, h7⟩⟩
  · go_enter Tryd.func15, Tryd.ntmps15
    go_wp2_with (go_at_call 17; (first | (with_reducible refine (rright_calls k1 n1 s1 _ HS1.out).mono ?_) | (with_reducible refine (rright_calls k2 n2 s2 _ HS2.out).mono ?_)); rintro e wq ⟨rfl, rfl⟩)
    refine bodyPost_ret (v := .tuple #[.bool false, .int .i64 1]) (by simp [results, Tryd.results15, go_sem]) rfl ⟨rfl, by repeat' (first | exact Below.refl _ _ | refine Below.alloc ?_ (by simp <;> omega) _)⟩
  · go_enter Tryd.func15, Tryd.ntmps15
    go_wp2_with (go_at_call 17; (first | (with_reducible refine (rright_calls k1 n1 s1 _ HS1.out).mono ?_) | (with_reducible refine (rright_calls k2 n2 s2 _ HS2.out).mono ?_)); rintro e wq ⟨rfl, rfl⟩)
    refine bodyPost_ret (v := .tuple #[.bool false, .int .i64 1]) (by simp [results, Tryd.results15, go_sem]) rfl ⟨rfl, by repeat' (first | exact Below.refl _ _ | refine Below.alloc ?_ (by simp <;> omega) _)⟩
  · go_enter Tryd.func15, Tryd.ntmps15
    go_wp2_with (go_at_call 17; (first | (with_reducible refine (rright_calls k1 n1 s1 _ HS1.out).mono ?_) | (with_reducible refine (rright_calls k2 n2 s2 _ HS2.out).mono ?_)); rintro e wq ⟨rfl, rfl⟩)
    refine bodyPost_ret (v := .tuple #[.bool false, .int .i64 1]) (by simp [results, Tryd.results15, go_sem]) rfl ⟨rfl, by repeat' (first | exact Below.refl _ _ | refine Below.alloc ?_ (by simp <;> omega) _)⟩
  · go_enter Tryd.func15, Tryd.ntmps15
    go_wp2_with (go_at_call 17; (first | (with_reducible refine (rright_calls k1 n1 s1 _ HS1.out).mono ?_) | (with_reducible refine (rright_calls k2 n2 s2 _ HS2.out).mono ?_)); rintro e wq ⟨rfl, rfl⟩)
    refine bodyPost_ret (v := .tuple #[.bool false, .int .i64 1]) (by simp [results, Tryd.results15, go_sem]) rfl ⟨rfl, by repeat' (first | exact Below.refl _ _ | refine Below.alloc ?_ (by simp <;> omega) _)⟩
  · have hb : (k1 != k2) = true := by rw [bne_iff_ne]; exact h5
    go_enter Tryd.func15, Tryd.ntmps15
    go_wp2_with (go_at_call 17; (first | (with_reducible refine (rright_calls k1 n1 s1 _ HS1.out).mono ?_) | (with_reducible refine (rright_calls k2 n2 s2 _ HS2.out).mono ?_)); rintro e wq ⟨rfl, rfl⟩)
    refine bodyPost_ret (v := .tuple #[.bool false, .int .i64 42]) (by simp [results, Tryd.results15, go_sem]) rfl ⟨rfl, by repeat' (first | exact Below.refl _ _ | refine Below.alloc ?_ (by simp <;> omega) _)⟩
  · have hb1 : (op != 1) = true := by rw [bne_iff_ne]; exact h6
    have hb2 : (op != 2) = true := by rw [bne_iff_ne]; exact h7
    go_enter Tryd.func15, Tryd.ntmps15
    go_wp2_with (go_at_call 17; (first | (with_reducible refine (rright_calls 3 n1 s1 _ HS1.out).mono ?_) | (with_reducible refine (rright_calls 3 n2 s2 _ HS2.out).mono ?_)); rintro e wq ⟨rfl, rfl⟩)
    refine bodyPost_ret (v := .tuple #[.bool false, .int .i64 42]) (by simp [results, Tryd.results15, go_sem]) rfl ⟨rfl, by repeat' (first | exact Below.refl _ _ | refine Below.alloc ?_ (by simp <;> omega) _)⟩

set_option maxHeartbeats 8000000 in
set_option maxRecDepth 100000 in
/-- The document's Compare where it compares: L: is it less, M: is it the same. -/
theorem rcompare_yes (op k1 n1 : Int) (s1 : ByteArray) (n2 : Int) (s2 : ByteArray) (w : World) (hs1 : s1.size ≤ maxLen) (hs2 : s2.size ≤ maxLen) (h1 : rightV k1 n1 s1 = true) (h2 : rightV k1 n2 s2 = true)
    (ho : op = 1 ∨ op = 2 ∨ k1 ≠ 3 ∧ (op = 3 ∨ op = 4 ∨ op = 5 ∨ op = 6)) (L M : Bool)
    (hlm : (L = true ∧ M = false ∧ n1 < n2) ∨ (L = false ∧ M = false ∧ n2 < n1) ∨ (n1 = n2 ∧ bytesLess s1.toList s2.toList = L ∧ (s1.toList == s2.toList) = M)) :
    Calls Tryd.prog 15 #[.int .i64 op, .agg #[.int .i64 k1, .int .i64 n1, .string s1], .agg #[.int .i64 k1, .int .i64 n2, .string s2]] w (CmpPost w (if op = 1 then M else if op = 2 then !M else if op = 3 then L else if op = 4 then L || M else if op = 5 then !L && !M else !L, 0)) := by
  have HS1 := Lib.hid hs1
  have HS2 := Lib.hid hs2
  clear hs1 hs2
  have hk3 : k1 = 3 ∨ (k1 == 3) = false := by
    by_cases e : k1 = 3
    · exact .inl e
    · exact .inr (by rw [beq_eq_false_iff_ne]; exact e)
  have ho' : (op = 1 ∨ op = 2) ∨ (k1 == 3) = false ∧ (op = 3 ∨ op = 4 ∨ op = 5 ∨ op = 6) := by
    rcases ho with h | h | ⟨h, h'⟩
    · exact .inl (.inl h)
    · exact .inl (.inr h)
    · exact .inr ⟨by rw [beq_eq_false_iff_ne]; exact h, h'⟩
  clear ho
  rcases hlm with ⟨rfl, rfl, h3⟩ | ⟨rfl, rfl, h3⟩ | ⟨rfl, h3, h4⟩
  · have hn : (n1 == n2) = false := by rw [beq_eq_false_iff_ne]; omega
    rcases ho' with hop | ⟨hk, rfl | rfl | rfl | rfl⟩
    · rcases hk3 with rfl | hk <;> rcases hop with rfl | rfl
      all_goals
        go_enter Tryd.func15, Tryd.ntmps15
        go_wp2_with (go_at_call 17; (first | (with_reducible refine (rright_calls _ n1 s1 _ HS1.out).mono ?_) | (with_reducible refine (rright_calls _ n2 s2 _ HS2.out).mono ?_)); rintro e wq ⟨rfl, rfl⟩)
        refine bodyPost_ret (v := .tuple #[.bool _, .int .i64 0]) (by simp [results, Tryd.results15, go_sem]; rfl) rfl ⟨by rfl, by repeat' (first | exact Below.refl _ _ | refine Below.alloc ?_ (by simp <;> omega) _)⟩
    all_goals
      go_enter Tryd.func15, Tryd.ntmps15
      go_wp2_with (go_at_call 17; (first | (with_reducible refine (rright_calls _ n1 s1 _ HS1.out).mono ?_) | (with_reducible refine (rright_calls _ n2 s2 _ HS2.out).mono ?_)); rintro e wq ⟨rfl, rfl⟩)
      refine bodyPost_ret (v := .tuple #[.bool _, .int .i64 0]) (by simp [results, Tryd.results15, go_sem]; rfl) rfl ⟨by rfl, by repeat' (first | exact Below.refl _ _ | refine Below.alloc ?_ (by simp <;> omega) _)⟩
  · have hn : (n1 == n2) = false := by rw [beq_eq_false_iff_ne]; omega
    have hl : decide (n1 < n2) = false := decide_eq_false (by omega)
    rcases ho' with hop | ⟨hk, rfl | rfl | rfl | rfl⟩
    · rcases hk3 with rfl | hk <;> rcases hop with rfl | rfl
      all_goals
        go_enter Tryd.func15, Tryd.ntmps15
        go_wp2_with (go_at_call 17; (first | (with_reducible refine (rright_calls _ n1 s1 _ HS1.out).mono ?_) | (with_reducible refine (rright_calls _ n2 s2 _ HS2.out).mono ?_)); rintro e wq ⟨rfl, rfl⟩)
        refine bodyPost_ret (v := .tuple #[.bool _, .int .i64 0]) (by simp [results, Tryd.results15, go_sem]; rfl) rfl ⟨by rfl, by repeat' (first | exact Below.refl _ _ | refine Below.alloc ?_ (by simp <;> omega) _)⟩
    all_goals
      go_enter Tryd.func15, Tryd.ntmps15
      go_wp2_with (go_at_call 17; (first | (with_reducible refine (rright_calls _ n1 s1 _ HS1.out).mono ?_) | (with_reducible refine (rright_calls _ n2 s2 _ HS2.out).mono ?_)); rintro e wq ⟨rfl, rfl⟩)
      refine bodyPost_ret (v := .tuple #[.bool _, .int .i64 0]) (by simp [results, Tryd.results15, go_sem]; rfl) rfl ⟨by rfl, by repeat' (first | exact Below.refl _ _ | refine Below.alloc ?_ (by simp <;> omega) _)⟩
  · have hn : (n1 == n1) = true := by simp
    have hl : ¬ n1 < n1 := by omega
    rcases ho' with hop | ⟨hk, hop⟩
    · rcases hk3 with rfl | hk <;> rcases hop with rfl | rfl
      all_goals
        go_enter Tryd.func15, Tryd.ntmps15
        go_wp2_with (go_at_call 17; (first | (with_reducible refine (rright_calls _ n1 s1 _ HS1.out).mono ?_) | (with_reducible refine (rright_calls _ n1 s2 _ HS2.out).mono ?_)); rintro e wq ⟨rfl, rfl⟩)
        first | exact bodyPost_ret (v := .tuple #[.bool M, .int .i64 0]) (by simp [results, Tryd.results15, go_sem]) rfl ⟨by rfl, by repeat' (first | exact Below.refl _ _ | refine Below.alloc ?_ (by simp <;> omega) _)⟩ | exact bodyPost_ret (v := .tuple #[.bool (!M), .int .i64 0]) (by simp [results, Tryd.results15, go_sem]) rfl ⟨by rfl, by repeat' (first | exact Below.refl _ _ | refine Below.alloc ?_ (by simp <;> omega) _)⟩ | exact bodyPost_ret (v := .tuple #[.bool L, .int .i64 0]) (by simp [results, Tryd.results15, go_sem]) rfl ⟨by rfl, by repeat' (first | exact Below.refl _ _ | refine Below.alloc ?_ (by simp <;> omega) _)⟩ | exact bodyPost_ret (v := .tuple #[.bool (!L), .int .i64 0]) (by simp [results, Tryd.results15, go_sem]) rfl ⟨by rfl, by repeat' (first | exact Below.refl _ _ | refine Below.alloc ?_ (by simp <;> omega) _)⟩ | exact bodyPost_ret (v := .tuple #[.bool true, .int .i64 0]) (by simp [results, Tryd.results15, go_sem]) rfl ⟨by rfl, by repeat' (first | exact Below.refl _ _ | refine Below.alloc ?_ (by simp <;> omega) _)⟩ | exact bodyPost_ret (v := .tuple #[.bool false, .int .i64 0]) (by simp [results, Tryd.results15, go_sem]) rfl ⟨by rfl, by repeat' (first | exact Below.refl _ _ | refine Below.alloc ?_ (by simp <;> omega) _)⟩
    · rcases hop with rfl | rfl | rfl | rfl
      · go_enter Tryd.func15, Tryd.ntmps15
        go_wp2_with (go_at_call 17; (first | (with_reducible refine (rright_calls _ n1 s1 _ HS1.out).mono ?_) | (with_reducible refine (rright_calls _ n1 s2 _ HS2.out).mono ?_)); rintro e wq ⟨rfl, rfl⟩)
        first | exact bodyPost_ret (v := .tuple #[.bool M, .int .i64 0]) (by simp [results, Tryd.results15, go_sem]) rfl ⟨by rfl, by repeat' (first | exact Below.refl _ _ | refine Below.alloc ?_ (by simp <;> omega) _)⟩ | exact bodyPost_ret (v := .tuple #[.bool (!M), .int .i64 0]) (by simp [results, Tryd.results15, go_sem]) rfl ⟨by rfl, by repeat' (first | exact Below.refl _ _ | refine Below.alloc ?_ (by simp <;> omega) _)⟩ | exact bodyPost_ret (v := .tuple #[.bool L, .int .i64 0]) (by simp [results, Tryd.results15, go_sem]) rfl ⟨by rfl, by repeat' (first | exact Below.refl _ _ | refine Below.alloc ?_ (by simp <;> omega) _)⟩ | exact bodyPost_ret (v := .tuple #[.bool (!L), .int .i64 0]) (by simp [results, Tryd.results15, go_sem]) rfl ⟨by rfl, by repeat' (first | exact Below.refl _ _ | refine Below.alloc ?_ (by simp <;> omega) _)⟩ | exact bodyPost_ret (v := .tuple #[.bool true, .int .i64 0]) (by simp [results, Tryd.results15, go_sem]) rfl ⟨by rfl, by repeat' (first | exact Below.refl _ _ | refine Below.alloc ?_ (by simp <;> omega) _)⟩ | exact bodyPost_ret (v := .tuple #[.bool false, .int .i64 0]) (by simp [results, Tryd.results15, go_sem]) rfl ⟨by rfl, by repeat' (first | exact Below.refl _ _ | refine Below.alloc ?_ (by simp <;> omega) _)⟩
      · cases L <;> cases M
        all_goals
          go_enter Tryd.func15, Tryd.ntmps15
          go_wp2_with (go_at_call 17; (first | (with_reducible refine (rright_calls _ n1 s1 _ HS1.out).mono ?_) | (with_reducible refine (rright_calls _ n1 s2 _ HS2.out).mono ?_)); rintro e wq ⟨rfl, rfl⟩)
          first | exact bodyPost_ret (v := .tuple #[.bool M, .int .i64 0]) (by simp [results, Tryd.results15, go_sem]) rfl ⟨by rfl, by repeat' (first | exact Below.refl _ _ | refine Below.alloc ?_ (by simp <;> omega) _)⟩ | exact bodyPost_ret (v := .tuple #[.bool (!M), .int .i64 0]) (by simp [results, Tryd.results15, go_sem]) rfl ⟨by rfl, by repeat' (first | exact Below.refl _ _ | refine Below.alloc ?_ (by simp <;> omega) _)⟩ | exact bodyPost_ret (v := .tuple #[.bool L, .int .i64 0]) (by simp [results, Tryd.results15, go_sem]) rfl ⟨by rfl, by repeat' (first | exact Below.refl _ _ | refine Below.alloc ?_ (by simp <;> omega) _)⟩ | exact bodyPost_ret (v := .tuple #[.bool (!L), .int .i64 0]) (by simp [results, Tryd.results15, go_sem]) rfl ⟨by rfl, by repeat' (first | exact Below.refl _ _ | refine Below.alloc ?_ (by simp <;> omega) _)⟩ | exact bodyPost_ret (v := .tuple #[.bool true, .int .i64 0]) (by simp [results, Tryd.results15, go_sem]) rfl ⟨by rfl, by repeat' (first | exact Below.refl _ _ | refine Below.alloc ?_ (by simp <;> omega) _)⟩ | exact bodyPost_ret (v := .tuple #[.bool false, .int .i64 0]) (by simp [results, Tryd.results15, go_sem]) rfl ⟨by rfl, by repeat' (first | exact Below.refl _ _ | refine Below.alloc ?_ (by simp <;> omega) _)⟩
      · cases L <;> cases M
        all_goals
          go_enter Tryd.func15, Tryd.ntmps15
          go_wp2_with (go_at_call 17; (first | (with_reducible refine (rright_calls _ n1 s1 _ HS1.out).mono ?_) | (with_reducible refine (rright_calls _ n1 s2 _ HS2.out).mono ?_)); rintro e wq ⟨rfl, rfl⟩)
          first | exact bodyPost_ret (v := .tuple #[.bool M, .int .i64 0]) (by simp [results, Tryd.results15, go_sem]) rfl ⟨by rfl, by repeat' (first | exact Below.refl _ _ | refine Below.alloc ?_ (by simp <;> omega) _)⟩ | exact bodyPost_ret (v := .tuple #[.bool (!M), .int .i64 0]) (by simp [results, Tryd.results15, go_sem]) rfl ⟨by rfl, by repeat' (first | exact Below.refl _ _ | refine Below.alloc ?_ (by simp <;> omega) _)⟩ | exact bodyPost_ret (v := .tuple #[.bool L, .int .i64 0]) (by simp [results, Tryd.results15, go_sem]) rfl ⟨by rfl, by repeat' (first | exact Below.refl _ _ | refine Below.alloc ?_ (by simp <;> omega) _)⟩ | exact bodyPost_ret (v := .tuple #[.bool (!L), .int .i64 0]) (by simp [results, Tryd.results15, go_sem]) rfl ⟨by rfl, by repeat' (first | exact Below.refl _ _ | refine Below.alloc ?_ (by simp <;> omega) _)⟩ | exact bodyPost_ret (v := .tuple #[.bool true, .int .i64 0]) (by simp [results, Tryd.results15, go_sem]) rfl ⟨by rfl, by repeat' (first | exact Below.refl _ _ | refine Below.alloc ?_ (by simp <;> omega) _)⟩ | exact bodyPost_ret (v := .tuple #[.bool false, .int .i64 0]) (by simp [results, Tryd.results15, go_sem]) rfl ⟨by rfl, by repeat' (first | exact Below.refl _ _ | refine Below.alloc ?_ (by simp <;> omega) _)⟩
      · go_enter Tryd.func15, Tryd.ntmps15
        go_wp2_with (go_at_call 17; (first | (with_reducible refine (rright_calls _ n1 s1 _ HS1.out).mono ?_) | (with_reducible refine (rright_calls _ n1 s2 _ HS2.out).mono ?_)); rintro e wq ⟨rfl, rfl⟩)
        first | exact bodyPost_ret (v := .tuple #[.bool M, .int .i64 0]) (by simp [results, Tryd.results15, go_sem]) rfl ⟨by rfl, by repeat' (first | exact Below.refl _ _ | refine Below.alloc ?_ (by simp <;> omega) _)⟩ | exact bodyPost_ret (v := .tuple #[.bool (!M), .int .i64 0]) (by simp [results, Tryd.results15, go_sem]) rfl ⟨by rfl, by repeat' (first | exact Below.refl _ _ | refine Below.alloc ?_ (by simp <;> omega) _)⟩ | exact bodyPost_ret (v := .tuple #[.bool L, .int .i64 0]) (by simp [results, Tryd.results15, go_sem]) rfl ⟨by rfl, by repeat' (first | exact Below.refl _ _ | refine Below.alloc ?_ (by simp <;> omega) _)⟩ | exact bodyPost_ret (v := .tuple #[.bool (!L), .int .i64 0]) (by simp [results, Tryd.results15, go_sem]) rfl ⟨by rfl, by repeat' (first | exact Below.refl _ _ | refine Below.alloc ?_ (by simp <;> omega) _)⟩ | exact bodyPost_ret (v := .tuple #[.bool true, .int .i64 0]) (by simp [results, Tryd.results15, go_sem]) rfl ⟨by rfl, by repeat' (first | exact Below.refl _ _ | refine Below.alloc ?_ (by simp <;> omega) _)⟩ | exact bodyPost_ret (v := .tuple #[.bool false, .int .i64 0]) (by simp [results, Tryd.results15, go_sem]) rfl ⟨by rfl, by repeat' (first | exact Below.refl _ _ | refine Below.alloc ?_ (by simp <;> omega) _)⟩

/-- The document's Compare. -/
theorem rcompare_calls (op k1 n1 : Int) (s1 : ByteArray) (k2 n2 : Int) (s2 : ByteArray) (w : World) (hs1 : s1.size ≤ maxLen) (hs2 : s2.size ≤ maxLen) :
    Calls Tryd.prog 15 #[.int .i64 op, .agg #[.int .i64 k1, .int .i64 n1, .string s1], .agg #[.int .i64 k2, .int .i64 n2, .string s2]] w (CmpPost w (cmpV op ⟨k1, n1, s1.data.toList⟩ ⟨k2, n2, s2.data.toList⟩)) := by
  cases h1 : rightV k1 n1 s1 with
  | false =>
    rw [cmpV_arg (.inl h1)]
    exact rcompare_no op k1 n1 s1 k2 n2 s2 w hs1 hs2 1 (.inl ⟨rfl, .inl h1⟩)
  | true =>
  cases h2 : rightV k2 n2 s2 with
  | false =>
    rw [cmpV_arg (.inr (.inl h2))]
    exact rcompare_no op k1 n1 s1 k2 n2 s2 w hs1 hs2 1 (.inl ⟨rfl, .inr ⟨h1, .inl h2⟩⟩)
  | true =>
  by_cases h3 : op < 1
  · rw [cmpV_arg (.inr (.inr (.inl h3)))]
    exact rcompare_no op k1 n1 s1 k2 n2 s2 w hs1 hs2 1 (.inl ⟨rfl, .inr ⟨h1, .inr ⟨h2, .inl h3⟩⟩⟩)
  by_cases h4 : 6 < op
  · rw [cmpV_arg (.inr (.inr (.inr h4)))]
    exact rcompare_no op k1 n1 s1 k2 n2 s2 w hs1 hs2 1 (.inl ⟨rfl, .inr ⟨h1, .inr ⟨h2, .inr ⟨h3, h4⟩⟩⟩⟩)
  by_cases h5 : k1 = k2
  · subst h5
    by_cases h6 : k1 = 3 ∧ op ≠ 1 ∧ op ≠ 2
    · rw [cmpV_kind h1 h2 (by omega) (by omega) (.inr h6)]
      exact rcompare_no op k1 n1 s1 k1 n2 s2 w hs1 hs2 42 (.inr ⟨rfl, h1, h2, h3, h4, .inr ⟨rfl, h6.1, h6.2.1, h6.2.2⟩⟩)
    · rw [cmpV_ok h1 h2 (by omega) (by omega) rfl (by dsimp only; omega), holdsV_ref]
      have ho : op = 1 ∨ op = 2 ∨ k1 ≠ 3 ∧ (op = 3 ∨ op = 4 ∨ op = 5 ∨ op = 6) := by omega
      refine rcompare_yes op k1 n1 s1 n2 s2 w hs1 hs2 h1 h2 ho (lessV ⟨k1, n1, s1.data.toList⟩ ⟨k1, n2, s2.data.toList⟩) (sameV ⟨k1, n1, s1.data.toList⟩ ⟨k1, n2, s2.data.toList⟩) ?_
      unfold lessV sameV
      dsimp only
      rcases Int.lt_trichotomy n1 n2 with h | h | h
      · exact .inl ⟨by rw [decide_eq_true h]; rfl, by rw [decide_eq_false (show ¬ n1 = n2 by omega)]; rfl, h⟩
      · subst h
        refine .inr (.inr ⟨rfl, ?_, ?_⟩)
        · rw [vtoL, vtoL]; simp
        · rw [vtoL, vtoL, decide_eq_true (rfl : n1 = n1), Bool.true_and]
          by_cases h : s1.data.toList = s2.data.toList
          · rw [decide_eq_true h, beq_iff_eq]; exact h
          · rw [decide_eq_false h, beq_eq_false_iff_ne]; exact h
      · exact .inr (.inl ⟨by rw [decide_eq_false (show ¬ n1 < n2 by omega), decide_eq_false (show ¬ n1 = n2 by omega)]; rfl, by rw [decide_eq_false (show ¬ n1 = n2 by omega)]; rfl, h⟩)
  · rw [cmpV_kind h1 h2 (by omega) (by omega) (.inl h5)]
    exact rcompare_no op k1 n1 s1 k2 n2 s2 w hs1 hs2 42 (.inr ⟨rfl, h1, h2, h3, h4, .inl h5⟩)

end Go.Proofs.YtfllemgoldicpaaDoor

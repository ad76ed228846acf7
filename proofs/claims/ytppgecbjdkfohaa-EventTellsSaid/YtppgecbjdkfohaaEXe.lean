/- The document's Get of events. -/
import Derived.Test.YtppgecbjdkfohaaEUe
import Derived.Test.YtppgecbjdkfohaaEWe
import Derived.Test.YtppgecbjdkfohaaEDe
import Derived.Test.YtppgecbjdkfohaaVL
import Derived.Deep.RegionHeld
import Derived.Deep.DeepCutAuto
namespace Go.Proofs.Ytppgecbjdkfohaa
open Go.RowKit Go.Lib Go.Op

/-- How far numbers are read. -/
def NumsTo (bs : List UInt8) (k p : Nat) (ns : List Nat) : Prop := ns.length = k ∧ p ≤ bs.length ∧ (∀ n ∈ ns, n ≤ 1099511627776) ∧ numsR 4 bs = match numsR (4 - k) (bs.drop p) with
  | none => none
  | some (r, q) => some (ns ++ r, p + q)

theorem NumsTo.start (bs : List UInt8) : NumsTo bs 0 0 [] := by
  refine ⟨rfl, Nat.zero_le _, (fun n hn => by cases hn), ?_⟩
  show numsR 4 bs = _
  rw [List.drop_zero]
  cases numsR 4 bs with
  | none => rfl
  | some x => obtain ⟨r, q⟩ := x; simp

theorem numsR_step {k : Nat} {l : List UInt8} {n m : Nat} (hz : numZ 1099511627776 l = some (n, m)) : numsR (k + 1) l = match numsR k (l.drop m) with
  | none => none
  | some (ns, q) => some (n :: ns, m + q) := by rw [numsR, hz]; rfl
theorem numsR_stop {k : Nat} {l : List UInt8} (hz : numZ 1099511627776 l = none) : numsR (k + 1) l = none := by simp [numsR, hz]

theorem NumsTo.step {bs : List UInt8} {k p : Nat} {ns : List Nat} (h : NumsTo bs k p ns) (hk : k < 4) {n m : Nat} (hz : numZ 1099511627776 (bs.drop p) = some (n, m)) : NumsTo bs (k + 1) (p + m) (ns ++ [n]) := by
  obtain ⟨h1, h2, h3, h4⟩ := h
  obtain ⟨j1, j2, _, _, _⟩ := numZ_back hz
  rw [List.length_drop] at j2
  refine ⟨by simp [h1], by omega, fun x hx => ?_, ?_⟩
  · rcases List.mem_append.1 hx with hx | hx
    · exact h3 x hx
    · rw [List.mem_singleton.1 hx]; omega
  · rw [h4]
    have e : 4 - k = (4 - (k + 1)) + 1 := by omega
    rw [e, numsR_step hz, List.drop_drop]
    cases numsR (4 - (k + 1)) (bs.drop (p + m)) with
    | none => rfl
    | some x => obtain ⟨r, q⟩ := x; simp [Nat.add_assoc]
theorem NumsTo.stop {bs : List UInt8} {k p : Nat} {ns : List Nat} (h : NumsTo bs k p ns) (hk : k < 4) (hz : numZ 1099511627776 (bs.drop p) = none) : numsR 4 bs = none := by
  obtain ⟨h1, h2, h3, h4⟩ := h
  rw [h4]
  have e : 4 - k = (4 - (k + 1)) + 1 := by omega
  rw [e, numsR_stop hz]
theorem NumsTo.fin {bs : List UInt8} {p : Nat} {ns : List Nat} (h : NumsTo bs 4 p ns) : ∃ t d s n, ns = [t, d, s, n] ∧ numsR 4 bs = some ([t, d, s, n], p) ∧ t ≤ 1099511627776 ∧ d ≤ 1099511627776 ∧ s ≤ 1099511627776 ∧ n ≤ 1099511627776 ∧ p ≤ bs.length := by
  obtain ⟨h1, h2, h3, h4⟩ := h
  match ns, h1 with
  | [t, d, s, n], _ =>
    refine ⟨t, d, s, n, rfl, ?_, h3 t (by simp), h3 d (by simp), h3 s (by simp), h3 n (by simp), h2⟩
    rw [h4]
    simp [numsR]

theorem rgetE_n {b : List UInt8} (h : numsR 4 b = none) : rgetE b = none := by unfold rgetE; rw [h]
section
variable {b : List UInt8} {t d s n a m k q : Nat} {vs : List PVal}
theorem rgetE_c (h : numsR 4 b = some ([t, d, s, n], a)) (hc : 3 < d ∨ b.length - a < n) : rgetE b = none := by unfold rgetE; rw [h]; dsimp only; rw [if_pos hc]
theorem rgetE_m (h : numsR 4 b = some ([t, d, s, n], a)) (hc : ¬ (3 < d ∨ b.length - a < n)) (hz : numZ 8 (b.drop (a + n)) = none) : rgetE b = none := by unfold rgetE; rw [h]; dsimp only; rw [if_neg hc, hz]
theorem rgetE_v (h : numsR 4 b = some ([t, d, s, n], a)) (hc : ¬ (3 < d ∨ b.length - a < n)) (hz : numZ 8 (b.drop (a + n)) = some (m, k)) (hv : valsR m (b.drop (a + n + k)) = none) : rgetE b = none := by unfold rgetE; rw [h]; dsimp only; rw [if_neg hc, hz]; dsimp only; rw [hv]
theorem rgetE_q (h : numsR 4 b = some ([t, d, s, n], a)) (hc : ¬ (3 < d ∨ b.length - a < n)) (hz : numZ 8 (b.drop (a + n)) = some (m, k)) (hv : valsR m (b.drop (a + n + k)) = some (vs, q)) (hq : ¬ (a + n + k + q = b.length ∧ rightE ⟨t, d, s, (b.drop a).take n, vs⟩ = true)) : rgetE b = none := by
  unfold rgetE; rw [h]; dsimp only; rw [if_neg hc, hz]; dsimp only; rw [hv]; dsimp only; rw [if_neg hq]
theorem rgetE_y (h : numsR 4 b = some ([t, d, s, n], a)) (hc : ¬ (3 < d ∨ b.length - a < n)) (hz : numZ 8 (b.drop (a + n)) = some (m, k)) (hv : valsR m (b.drop (a + n + k)) = some (vs, q)) (hq : a + n + k + q = b.length) (hr : rightE ⟨t, d, s, (b.drop a).take n, vs⟩ = true) : rgetE b = some ⟨t, d, s, (b.drop a).take n, vs⟩ := by
  unfold rgetE; rw [h]; dsimp only; rw [if_neg hc, hz]; dsimp only; rw [hv]; dsimp only; rw [if_pos ⟨hq, hr⟩]
end

/-- What the document's Get holds while it reads numbers. -/
structure GB (w : World) (X Y : Nat) (ns : List Nat) (W : World) : Prop where
  x : ∀ i v, zeroC[i]? = some v → W.cell? ⟨X, i, none⟩ = some v
  y : ∀ i, i < 4 → W.cell? ⟨Y, i, none⟩ = some (.int .i64 ((ns[i]?.getD 0 : Nat) : Int))
  fx : ∀ i, W.frozen? ⟨X, i, none⟩ = false
  fy : ∀ i, W.frozen? ⟨Y, i, none⟩ = false
  xy : X < Y
  lt : Y < W.heap.size
  wx : w.heap.size ≤ X
  hb : Below w.heap.size w W

theorem GB.below {w : World} {X Y : Nat} {ns : List Nat} {W W' : World} (h : GB w X Y ns W) (hb : Below W.heap.size W W') : GB w X Y ns W' where
  x i v hv := ekeep hb (h.x i v hv)
  y i hi := ekeep hb (h.y i hi)
  fx i := (hb.frozen (p := ⟨X, i, none⟩) (Nat.lt_trans h.xy h.lt)).trans (h.fx i)
  fy i := (hb.frozen (p := ⟨Y, i, none⟩) h.lt).trans (h.fy i)
  xy := h.xy
  lt := Nat.lt_of_lt_of_le h.lt hb.size
  wx := h.wx
  hb := h.hb.trans (hb.mono h.hb.size)
theorem GB.put {w : World} {X Y : Nat} {ns : List Nat} {W : World} (h : GB w X Y ns W) (n : Nat) {j : Nat} (hj : ns.length = j) (h4 : j < 4) : GB w X Y (ns ++ [n]) (W.setCell ⟨Y, j, none⟩ (.int .i64 n)) where
  x i v hv := (set_other (by have := h.xy; omega)).trans (h.x i v hv)
  y i hi := by
    by_cases e : i = j
    · subst e
      rw [World.cell?_setCell_same _ _ _ (h.y i hi), ← hj]
      simp
    · rw [World.cell?_setCell_other _ _ _ _ (by intro e2; injection e2 with _ e3; exact e e3.symm), h.y i hi]
      rcases Nat.lt_or_ge i j with h1 | h1
      · rw [List.getElem?_append_left (by omega)]
      · rw [List.getElem?_eq_none (show ns.length ≤ i by omega), List.getElem?_eq_none (show (ns ++ [n]).length ≤ i by simp; omega)]
  fx i := by simp [h.fx i]
  fy i := by simp [h.fy i]
  xy := h.xy
  lt := by simpa using h.lt
  wx := h.wx
  hb := h.hb.setCell (by have := h.wx; have := h.xy; dsimp only; omega) _

/-- What it holds while it reads values. -/
structure GD (w : World) (X E : Nat) (cs : List Value) (W : World) : Prop where
  x : ∀ i v, zeroC[i]? = some v → W.cell? ⟨X, i, none⟩ = some v
  e : ∀ i v, cs[i]? = some v → W.cell? ⟨E, i, none⟩ = some v
  fx : ∀ i, W.frozen? ⟨X, i, none⟩ = false
  fe : ∀ i, W.frozen? ⟨E, i, none⟩ = false
  xe : X < E
  lt : E < W.heap.size
  wx : w.heap.size ≤ X
  hb : Below w.heap.size w W
theorem GD.below {w : World} {X E : Nat} {cs : List Value} {W W' : World} (h : GD w X E cs W) (hb : Below W.heap.size W W') : GD w X E cs W' where
  x i v hv := ekeep hb (h.x i v hv)
  e i v hv := ekeep hb (h.e i v hv)
  fx i := (hb.frozen (p := ⟨X, i, none⟩) (Nat.lt_trans h.xe h.lt)).trans (h.fx i)
  fe i := (hb.frozen (p := ⟨E, i, none⟩) h.lt).trans (h.fe i)
  xe := h.xe
  lt := Nat.lt_of_lt_of_le h.lt hb.size
  wx := h.wx
  hb := h.hb.trans (hb.mono h.hb.size)
theorem GD.belowE {w : World} {X E : Nat} {cs : List Value} {W W' : World} (h : GD w X E cs W) (hb : Below (E + 1) W W') : GD w X E cs W' where
  x i v hv := (hb.cell (p := ⟨X, i, none⟩) (Nat.lt_succ_of_lt h.xe)).trans (h.x i v hv)
  e i v hv := (hb.cell (p := ⟨E, i, none⟩) (Nat.lt_succ_self _)).trans (h.e i v hv)
  fx i := (hb.frozen (p := ⟨X, i, none⟩) (Nat.lt_succ_of_lt h.xe)).trans (h.fx i)
  fe i := (hb.frozen (p := ⟨E, i, none⟩) (Nat.lt_succ_self _)).trans (h.fe i)
  xe := h.xe
  lt := Nat.lt_of_lt_of_le h.lt hb.size
  wx := h.wx
  hb := h.hb.trans (hb.mono (Nat.le_trans h.wx (Nat.le_succ_of_le (Nat.le_of_lt h.xe))))
theorem GD.put {w : World} {X E : Nat} {cs : List Value} {W : World} (h : GD w X E cs W) {i : Nat} (x : Value) {y : Value} (hi : cs[i]? = some y) : GD w X E (cs.set i x) (W.setCell ⟨E, i, none⟩ x) where
  x j v hv := (set_other (by have := h.xe; omega)).trans (h.x j v hv)
  e j z hz := by
    rw [List.getElem?_set] at hz
    split at hz
    · rename_i e
      subst e
      split at hz
      · injection hz with hz
        rw [← hz]
        exact World.cell?_setCell_same _ _ _ (h.e i y hi)
      · cases hz
    · rename_i e
      rw [World.cell?_setCell_other _ _ _ _ (by intro e2; injection e2 with _ e3; exact e e3)]
      exact h.e j z hz
  fx j := by simp [h.fx j]
  fe j := by simp [h.fe j]
  xe := h.xe
  lt := by simpa using h.lt
  wx := h.wx
  hb := h.hb.setCell (by have := h.wx; have := h.xe; dsimp only; omega) _
theorem GB.event {w : World} {X Y : Nat} {ns : List Nat} {W : World} (h : GB w X Y ns W) (t d s : Int) (n : ByteArray) (v : Value) : GD w X W.heap.size (evC t d s n v) (W.alloc (.cells #[.int .i64 t, .int .i64 d, .int .i64 s, .string n, v] 25)).drew := by
  have hb : Below W.heap.size W (W.alloc (.cells #[.int .i64 t, .int .i64 d, .int .i64 s, .string n, v] 25)).drew := vbelow_drew ((Below.refl _ _).alloc (Nat.le_refl _) _)
  have h2 := h.below hb
  refine ⟨h2.x, fun i u hu => ?_, h2.fx, fun i => ?_, Nat.lt_trans h.xy h.lt, ?_, h.wx, h2.hb⟩
  · exact new_cell W _ _ rfl (by rw [← hu]; simp [evC])
  · exact new_frozen W _ _ rfl
  · show W.heap.size < (W.alloc _).heap.size; simp

/-- How far values are read. -/
def ValsT (bs : List UInt8) (M p0 k p : Nat) (acc : List VIn) : Prop := acc.length = k ∧ p0 ≤ p ∧ p ≤ bs.length ∧ (∀ x ∈ acc, x.2.2.size ≤ maxLen) ∧ valsR M (bs.drop p0) = match valsR (M - k) (bs.drop p) with
  | none => none
  | some (r, q) => some (acc.map pv ++ r, (p - p0) + q)
theorem ValsT.start (bs : List UInt8) (M : Nat) {p0 : Nat} (h : p0 ≤ bs.length) : ValsT bs M p0 0 p0 [] := by
  refine ⟨rfl, Nat.le_refl _, h, (fun n hn => by cases hn), ?_⟩
  show valsR M (bs.drop p0) = match valsR M (bs.drop p0) with
    | none => none
    | some (r, q) => some ([] ++ r, (p0 - p0) + q)
  cases valsR M (bs.drop p0) with
  | none => rfl
  | some x => obtain ⟨r, q⟩ := x; simp
theorem valsR_step {k : Nat} {l : List UInt8} {v : PVal} {m : Nat} (hz : refV l = some (v, m)) : valsR (k + 1) l = match valsR k (l.drop m) with
  | none => none
  | some (vs, q) => some (v :: vs, m + q) := by rw [valsR, hz]; rfl
theorem valsR_stop {k : Nat} {l : List UInt8} (hz : refV l = none) : valsR (k + 1) l = none := by rw [valsR, hz]
theorem ValsT.step {bs : List UInt8} {M p0 k p : Nat} {acc : List VIn} (h : ValsT bs M p0 k p acc) (hk : k < M) {v : PVal} {m : Nat} (hz : refV (bs.drop p) = some (v, m)) : ValsT bs M p0 (k + 1) (p + m) (acc ++ [(v.k, v.n, strB v.s)]) := by
  obtain ⟨h1, h2, h3, h5, h4⟩ := h
  obtain ⟨r1, j2, j3⟩ := refV_reads.back _ _ _ hz
  rw [List.length_drop] at j2
  have hpv : pv (v.k, v.n, strB v.s) = v := by unfold pv; rw [strB_list]
  have hsz : (strB v.s).size ≤ maxLen := by
    rw [strB_size]
    have := putV_len (v := v)
    obtain ⟨vk, vn, vs⟩ := v
    have h9 := rightB_kind r1
    dsimp only at h9 ⊢
    rcases h9 with rfl | rfl | rfl
    · rw [(rightB_1.1 r1).2.2]; exact Nat.zero_le _
    · have := (rightB_2.1 r1).2; unfold maxLen; omega
    · rw [(rightB_3.1 r1).2.2]; exact Nat.zero_le _
  refine ⟨by simp [h1], by omega, by omega, fun x hx => ?_, ?_⟩
  · rcases List.mem_append.1 hx with hx | hx
    · exact h5 x hx
    · rw [List.mem_singleton.1 hx]; exact hsz
  · rw [h4]
    have e : M - k = (M - (k + 1)) + 1 := by omega
    rw [e, valsR_step hz, List.drop_drop]
    cases valsR (M - (k + 1)) (bs.drop (p + m)) with
    | none => rfl
    | some x =>
      obtain ⟨r, q⟩ := x
      simp only [List.map_append, List.map_cons, List.map_nil, hpv, List.append_assoc, List.singleton_append]
      rw [show p - p0 + (m + q) = p + m - p0 + q by omega]
theorem ValsT.stop {bs : List UInt8} {M p0 k p : Nat} {acc : List VIn} (h : ValsT bs M p0 k p acc) (hk : k < M) (hz : refV (bs.drop p) = none) : valsR M (bs.drop p0) = none := by
  obtain ⟨h1, h2, h3, h5, h4⟩ := h
  rw [h4]
  have e : M - k = (M - (k + 1)) + 1 := by omega
  rw [e, valsR_stop hz]
theorem ValsT.fin {bs : List UInt8} {M p0 p : Nat} {acc : List VIn} (h : ValsT bs M p0 M p acc) : valsR M (bs.drop p0) = some (acc.map pv, p - p0) ∧ acc.length = M ∧ p0 ≤ p ∧ p ≤ bs.length := by
  obtain ⟨h1, h2, h3, h5, h4⟩ := h
  refine ⟨?_, h1, h2, h3⟩
  rw [h4, Nat.sub_self]
  simp [valsR]

theorem GB.start (w : World) : GB w w.heap.size (w.heap.size + 1) [] ((w.alloc (.cells zeroC 25)).alloc (.cells #[.int .i64 0, .int .i64 0, .int .i64 0, .int .i64 0] 90)) where
  x i v hv := ekeepAl _ (new_cell _ _ _ rfl hv)
  y i hi := by
    refine new_cell _ _ _ (by simp) ?_
    match i, hi with
    | 0, _ => rfl
    | 1, _ => rfl
    | 2, _ => rfl
    | 3, _ => rfl
  fx i := keep_frozen _ _ (by simp) (new_frozen _ _ _ rfl)
  fy i := new_frozen _ _ _ (by simp)
  xy := Nat.lt_succ_self _
  lt := by simp
  wx := Nat.le_refl _
  hb := ((Below.refl _ _).alloc (Nat.le_refl _) _).alloc (by simp) _

set_option maxHeartbeats 8000000 in
set_option maxRecDepth 100000 in
theorem rgetE_calls (w : World) (v : Value) (bs : List UInt8) (h : BRow w v bs) (hbl : bs.length ≤ 1000000) : Calls Try.prog 31 #[v] w (GetE w (rgetE bs)) := by
  obtain ⟨av, cv, rfl, hcl, hcm⟩ := h.len
  have HRow := Lib.hid h
  obtain ⟨l, hl⟩ : ∃ l, bs.length = l := ⟨_, rfl⟩
  have HL := Lib.hid hl
  rw [hl] at hbl hcl HRow ⊢
  have HN0 := Lib.hid (NumsTo.start bs)
  unfold maxLen at hcm
  clear h hl
  go_enter Try.func31, Try.ntmps31
  go_wp2_with fail
  have HG0 : Hid (GB w w.heap.size (w.heap.size + 1) [] ((w.alloc (.cells zeroC 25)).alloc (.cells #[.int .i64 0, .int .i64 0, .int .i64 0, .int .i64 0] 90))) := GB.start w
  generalize (w.alloc (.cells zeroC 25)).alloc (.cells #[.int .i64 0, .int .i64 0, .int .i64 0, .int .i64 0] 90) = w0 at *
  have hX : Hid (w.heap.size = w.heap.size) := rfl
  go_loopw [5, 6, 7, 8, 9] (fun at_ i x k is wr => ∃ (j p : Nat) (ns : List Nat), i = .int .i64 j ∧ at_ = .int .i64 p ∧ j ≤ 4 ∧ p ≤ l ∧ Hid (NumsTo bs j p ns) ∧ Hid (GB w w.heap.size (w.heap.size + 1) ns wr)) (fun _ i _ _ _ _ => 4 - (intOf i).toNat)
  case atStart => exact ⟨0, 0, [], rfl, rfl, by omega, Nat.zero_le _, HN0, HG0⟩
  case round =>
  obtain ⟨j, p, ns, rfl, rfl, hj, hp, HN, HG⟩ := hrel
  by_cases hj4 : j < 4
  · obtain ⟨vd, hvd, hbd⟩ := (HRow.out.below HG.out.hb).drop (k := p) (by rw [HL.out]; exact hp)
    have HNum := numberZ_calls _ vd (bs.drop p) hbd 1099511627776 (by decide) (by decide)
    have hp0 : (0 : Int) ≤ (p : Int) := by omega
    have hp1 : (p : Int) ≤ (l : Int) := by omega
    cases hz : numZ 1099511627776 (bs.drop p) with
    | none =>
      have HE := Lib.hid (rgetE_n (HN.out.stop hj4 hz))
      rw [hz] at HNum
      have HNum := Lib.hid HNum
      have x0 := HG.out.x 0 _ rfl
      have x1 := HG.out.x 1 _ rfl
      have x2 := HG.out.x 2 _ rfl
      have x3 := HG.out.x 3 _ rfl
      have x4 := HG.out.x 4 _ rfl
      have f0 := HG.out.fx 0
      have f1 := HG.out.fx 1
      have f2 := HG.out.fx 2
      have f3 := HG.out.fx 3
      have f4 := HG.out.fx 4
      clear hbd hz
      go_wp2_with (go_at_call 63; (with_reducible refine HNum.out.mono ?_); rintro e wq ⟨rfl, rfl⟩)
      refine bodyPost_ret (v := .tuple #[evV 0 0 0 ⟨#[]⟩ (.slice none 0 0), .bool false]) (by simp [results, Try.results31, go_sem, x0, x1, x2, x3, x4]) rfl (GetE.none HE.out ?_)
      exact below5 HG.out.hb (Nat.le_refl _) _ _ _ _ _
    | some z =>
      obtain ⟨n, m⟩ := z
      rw [hz] at HNum
      have HNum : Hid (Calls Try.prog 63 #[vd, .int .i64 1099511627776] wr fun e w' => e = .returned (.tuple #[.int .i64 n, .int .i64 m, .bool true]) ∧ wr = w') := HNum
      have HN2 := Lib.hid (HN.out.step hj4 hz)
      have hpm : p + m ≤ l := by have h9 := HN2.out.2.1; rw [HL.out] at h9; exact h9
      have hj' : j = 0 ∨ j = 1 ∨ j = 2 ∨ j = 3 := by omega
      clear hbd hz
      rcases hj' with rfl | rfl | rfl | rfl
      · have y := HG.out.y 0 (by omega)
        have f := HG.out.fy 0
        have HG2 := Lib.hid (HG.out.put n HN.out.1 (by omega))
        go_wp2_with (go_at_call 63; (with_reducible refine HNum.out.mono ?_); rintro e wq ⟨rfl, rfl⟩)
        go_roundw
        case rel => exact ⟨1, p + m, ns ++ [n], by go_num, by go_num, by omega, hpm, HN2, HG2⟩
        case measure => simp [intOf]
      · have y := HG.out.y 1 (by omega)
        have f := HG.out.fy 1
        have HG2 := Lib.hid (HG.out.put n HN.out.1 (by omega))
        go_wp2_with (go_at_call 63; (with_reducible refine HNum.out.mono ?_); rintro e wq ⟨rfl, rfl⟩)
        go_roundw
        case rel => exact ⟨2, p + m, ns ++ [n], by go_num, by go_num, by omega, hpm, HN2, HG2⟩
        case measure => simp [intOf]
      · have y := HG.out.y 2 (by omega)
        have f := HG.out.fy 2
        have HG2 := Lib.hid (HG.out.put n HN.out.1 (by omega))
        go_wp2_with (go_at_call 63; (with_reducible refine HNum.out.mono ?_); rintro e wq ⟨rfl, rfl⟩)
        go_roundw
        case rel => exact ⟨3, p + m, ns ++ [n], by go_num, by go_num, by omega, hpm, HN2, HG2⟩
        case measure => simp [intOf]
      · have y := HG.out.y 3 (by omega)
        have f := HG.out.fy 3
        have HG2 := Lib.hid (HG.out.put n HN.out.1 (by omega))
        go_wp2_with (go_at_call 63; (with_reducible refine HNum.out.mono ?_); rintro e wq ⟨rfl, rfl⟩)
        go_roundw
        case rel => exact ⟨4, p + m, ns ++ [n], by go_num, by go_num, by omega, hpm, HN2, HG2⟩
        case measure => simp [intOf]
  · obtain rfl : j = 4 := by omega
    obtain ⟨t, d, s, n, rfl, hn4, ht, hd, hs, hnn, _⟩ := HN.out.fin
    have HN4 := Lib.hid hn4
    have y0 := HG.out.y 0 (by omega)
    have y1 := HG.out.y 1 (by omega)
    have y2 := HG.out.y 2 (by omega)
    have y3 := HG.out.y 3 (by omega)
    have y0 : wr.cell? ⟨w.heap.size + 1, 0, none⟩ = some (.int .i64 (t : Int)) := y0
    have y1 : wr.cell? ⟨w.heap.size + 1, 1, none⟩ = some (.int .i64 (d : Int)) := y1
    have y2 : wr.cell? ⟨w.heap.size + 1, 2, none⟩ = some (.int .i64 (s : Int)) := y2
    have y3 : wr.cell? ⟨w.heap.size + 1, 3, none⟩ = some (.int .i64 (n : Int)) := y3
    clear hn4 HN HN0 HG0 hj hj4
    by_cases hc : 3 < d ∨ l - p < n
    · have HE := Lib.hid (rgetE_c HN4.out (by rw [HL.out]; exact hc))
      have x0 := HG.out.x 0 _ rfl
      have x1 := HG.out.x 1 _ rfl
      have x2 := HG.out.x 2 _ rfl
      have x3 := HG.out.x 3 _ rfl
      have x4 := HG.out.x 4 _ rfl
      have f0 := HG.out.fx 0
      have f1 := HG.out.fx 1
      have f2 := HG.out.fx 2
      have f3 := HG.out.fx 3
      have f4 := HG.out.fx 4
      have hc' : (3 : Int) < (d : Int) ∨ ¬ (3 : Int) < (d : Int) ∧ (l : Int) - (p : Int) < (n : Int) := by omega
      clear hc
      rcases hc' with hc | ⟨hc, hc2⟩
      all_goals
        go_wp2
        refine bodyPost_ret (v := .tuple #[evV 0 0 0 ⟨#[]⟩ (.slice none 0 0), .bool false]) (by simp [results, Try.results31, go_sem, x0, x1, x2, x3, x4]) rfl (GetE.none HE.out ?_)
        exact below5 HG.out.hb (Nat.le_refl _) _ _ _ _ _
    · have hc1 : ¬ (3 : Int) < (d : Int) := by omega
      have hc2 : ¬ (l : Int) - (p : Int) < (n : Int) := by omega
      obtain ⟨vn, hvn, hbn⟩ := (HRow.out.below HG.out.hb).cut (k := p) (m := p + n) (by omega) (by rw [HL.out]; omega)
      rw [show p + n - p = n by omega] at hbn
      have hvn' : ∀ W : World, (Instr.slice 40 (.slice av l cv) (some (.int .i64 p)) (some (.int .i64 ((p : Int) + (n : Int)))) none).run Try.prog W = .ok vn W := hvn
      have hpn : p + n ≤ l := by omega
      have hnsz : (strB ((bs.drop p).take n)).size = n := by rw [strB_size, List.length_take, List.length_drop, HL.out]; omega
      obtain ⟨nm, hnm⟩ : ∃ nm, strB ((bs.drop p).take n) = nm := ⟨_, rfl⟩
      have hcvg : ∀ W, Below wr.heap.size wr W → (convert 40 9 vn).run Try.prog W = .ok (.string nm) W := fun W hW => by rw [← hnm]; exact conv_brow (hbn.below hW)
      have hcv1 := hcvg wr.drew (vbelow_drew (Below.refl _ _))
      have hcv2 := hcvg (wr.alloc (.cells zeroC 25)).drew (vbelow_drew ((Below.refl _ _).alloc (Nat.le_refl _) _))
      have Hnm := Lib.hid hnm
      rw [hnm] at hnsz
      have hws : IntKind.i64.wrap ((p : Int) + (n : Int)) = (p : Int) + (n : Int) := IntWalk.i64_in _ (by omega)
      have hp0 : (0 : Int) ≤ (p : Int) := by omega
      have hp1 : (p : Int) ≤ (l : Int) := by omega
      have hp2 : (p : Int) + (n : Int) ≤ (l : Int) := by omega
      have Hc := Lib.hid hc
      clear hvn hbn hcvg hnm hc
      go_upto_region 13 with fail
      go_cut [10] (fun s10 wx => s10 = .pointer (some ⟨wr.heap.size, 0, none⟩) ∧ wx = (wr.alloc (.cells #[.int .i64 (t : Int), .int .i64 (d : Int), .int .i64 (s : Int), .string nm, .slice none 0 0] 25)).drew)
      case first =>
        go_region_held (fun W => W.cell? ⟨w.heap.size + 1, 0, none⟩ = some (.int .i64 (t : Int)) ∧ W.cell? ⟨w.heap.size + 1, 1, none⟩ = some (.int .i64 (d : Int)) ∧ W.cell? ⟨w.heap.size + 1, 2, none⟩ = some (.int .i64 (s : Int)) ∧ W.cell? ⟨w.heap.size + 1, 3, none⟩ = some (.int .i64 (n : Int)))
          (first | (refine ⟨?_, ?_, ?_, ?_⟩ <;> assumption) | go_keep)
          (fail)
        all_goals
          go_wp2_with fail
          go_meet
          exact ⟨rfl, rfl⟩
      case rest =>
      obtain ⟨rfl, rfl⟩ := hcut
      have hbE : Below wr.heap.size wr (wr.alloc (.cells #[.int .i64 (t : Int), .int .i64 (d : Int), .int .i64 (s : Int), .string nm, .slice none 0 0] 25)).drew := vbelow_drew ((Below.refl _ _).alloc (Nat.le_refl _) _)
      have HD0 := Lib.hid (HG.out.event (t : Int) (d : Int) (s : Int) nm (.slice none 0 0))
      have z3 := ekeep hbE y3
      have hwE : w.heap.size < wr.heap.size := Nat.lt_trans HG.out.xy HG.out.lt
      generalize wr.heap.size = E at *
      generalize (wr.alloc (.cells #[.int .i64 (t : Int), .int .i64 (d : Int), .int .i64 (s : Int), .string nm, .slice none 0 0] 25)).drew = w2 at *
      clear hbE HG y0 y1 y2 y3 hcv1 hcv2 hvn' hc1 hc2 ht hd hs
      obtain ⟨vd, hvd, hbd⟩ := (HRow.out.below HD0.out.hb).drop (k := p + n) (by rw [HL.out]; exact hpn)
      have hvd' : ∀ W : World, (Instr.slice 40 (.slice av l cv) (some (.int .i64 ((p : Int) + (n : Int)))) none none).run Try.prog W = .ok vd W := hvd
      have HNum := numberZ_calls _ vd (bs.drop (p + n)) hbd 8 (by decide) (by decide)
      have hp3 : (0 : Int) ≤ (p : Int) + (n : Int) := by omega
      clear hvd hbd
      cases hz8 : numZ 8 (bs.drop (p + n)) with
      | none =>
        have HE := Lib.hid (rgetE_m HN4.out (by rw [HL.out]; exact Hc.out) hz8)
        rw [hz8] at HNum
        have HNum := Lib.hid HNum
        have x0 := HD0.out.x 0 _ rfl
        have f0 := HD0.out.fx 0
        have x1 := HD0.out.x 1 _ rfl
        have f1 := HD0.out.fx 1
        have x2 := HD0.out.x 2 _ rfl
        have f2 := HD0.out.fx 2
        have x3 := HD0.out.x 3 _ rfl
        have f3 := HD0.out.fx 3
        have x4 := HD0.out.x 4 _ rfl
        have f4 := HD0.out.fx 4
        clear hz8
        go_wp2_with (go_at_call 63; (with_reducible refine HNum.out.mono ?_); rintro e wq ⟨rfl, rfl⟩)
        refine bodyPost_ret (v := .tuple #[evV 0 0 0 ⟨#[]⟩ (.slice none 0 0), .bool false]) (by simp [results, Try.results31, go_sem, x0, x1, x2, x3, x4]) rfl (GetE.none HE.out ?_)
        exact below5 HD0.out.hb (Nat.le_refl _) _ _ _ _ _
      | some z8 =>
      obtain ⟨M, k0⟩ := z8
      rw [hz8] at HNum
      have HNum : Hid (Calls Try.prog 63 #[vd, .int .i64 8] w2 fun e w' => e = .returned (.tuple #[.int .i64 M, .int .i64 k0, .bool true]) ∧ w2 = w') := HNum
      obtain ⟨hM8, hk0l, _, _, _⟩ := numZ_back hz8
      rw [List.length_drop, HL.out] at hk0l
      have HZ8 := Lib.hid hz8
      have hpk : p + n + k0 ≤ l := by omega
      have hws2 : IntKind.i64.wrap ((p : Int) + (n : Int) + (k0 : Int)) = (p : Int) + (n : Int) + (k0 : Int) := IntWalk.i64_in _ (by omega)
      have HV0 := Lib.hid (ValsT.start bs M (p0 := p + n + k0) (by rw [HL.out]; exact hpk))
      obtain ⟨i0, hi, hzz⟩ := Option.map_eq_some_iff.1 infoV
      injection hzz with hz0 hzz
      injection hzz with hz1 hz2
      clear hz8 hk0l
      go_wp2_with (go_at_call 63; (with_reducible refine HNum.out.mono ?_); rintro e wq ⟨rfl, rfl⟩)
      clear HNum hvd' hws hws2 z3 hp0 hp1 hp2 hp3
      go_loopw [5, 14, 15, 16, 17] (fun at_ i vp m f wr => ∃ (k pp : Nat) (ra : Option Addr) (rc : Nat) (acc : List VIn), i = .int .i64 k ∧ at_ = .int .i64 pp ∧ k ≤ M ∧ pp ≤ l ∧ Hid (ValsT bs M (p + n + k0) k pp acc) ∧ Hid (GD w w.heap.size E (evC t d s nm (.slice ra acc.length rc)) wr) ∧ Hid (wr.ownsRow (E + 1) 52 3 (.slice ra acc.length rc) acc.length (valCells acc))) (fun _ i _ _ _ _ => M - (intOf i).toNat)
      case atStart => exact ⟨0, p + n + k0, none, 0, [], rfl, by go_num, Nat.zero_le _, hpk, HV0, HD0, World.ownsRow_nil _ _ _ _⟩
      case round =>
      obtain ⟨k, pp, ra, rc, acc, rfl, rfl, hk, hpp, HV, HD, HO⟩ := hrel
      have hacc : acc.length ≤ 8 := by have := HV.out.1; omega
      by_cases hlt : k < M
      · obtain ⟨vd, hvd, hbd⟩ := (HRow.out.below HD.out.hb).drop (k := pp) (by rw [HL.out]; exact hpp)
        have HGt := rget_calls _ vd (bs.drop pp) hbd (by rw [List.length_drop, HL.out]; omega)
        have hp0 : (0 : Int) ≤ (pp : Int) := by omega
        have hp1 : (pp : Int) ≤ (l : Int) := by omega
        clear hbd
        cases hz : refV (bs.drop pp) with
        | none =>
          have HE := Lib.hid (rgetE_v HN4.out (by rw [HL.out]; exact Hc.out) HZ8.out (HV.out.stop hlt hz))
          rw [hz] at HGt
          have HGt : Hid (Calls Try.prog 64 #[vd] wr fun e w' => e = .returned (.tuple #[.agg #[.int .i64 0, .int .i64 0, .string ⟨#[]⟩], .int .i64 0, .bool false]) ∧ Below wr.heap.size wr w') := HGt
          clear hz
          go_wp2_with (go_at_call 64; (with_reducible refine HGt.out.mono ?_); rintro e w12 ⟨rfl, hb12⟩; have HD12 := Lib.hid ((HD.out.below hb12).below ((Below.refl _ w12).alloc (Nat.le_refl _) (.cells #[.int .i64 0, .int .i64 0, .string ⟨#[]⟩] 52))); have x0 := HD12.out.x 0 _ rfl; have f0 := HD12.out.fx 0; have x1 := HD12.out.x 1 _ rfl; have f1 := HD12.out.fx 1; have x2 := HD12.out.x 2 _ rfl; have f2 := HD12.out.fx 2; have x3 := HD12.out.x 3 _ rfl; have f3 := HD12.out.fx 3; have x4 := HD12.out.x 4 _ rfl; have f4 := HD12.out.fx 4;  clear hb12)
          refine bodyPost_ret (v := .tuple #[evV 0 0 0 ⟨#[]⟩ (.slice none 0 0), .bool false]) (by simp [results, Try.results31, go_sem, x0, x1, x2, x3, x4]) rfl (GetE.none HE.out ?_)
          exact below5 HD12.out.hb (Nat.le_refl _) _ _ _ _ _
        | some z =>
          obtain ⟨v, m⟩ := z
          rw [hz] at HGt
          have HST := Lib.hid (HV.out.step hlt hz)
          have hml : pp + m ≤ l := by have h9 := HST.out.2.2.1; rw [HL.out] at h9; exact h9
          obtain ⟨xk, xn, xl⟩ := v
          have HGt : Hid (Calls Try.prog 64 #[vd] wr fun e w' => e = .returned (.tuple #[.agg #[.int .i64 xk, .int .i64 xn, .string (strB xl)], .int .i64 m, .bool true]) ∧ Below wr.heap.size wr w') := HGt
          dsimp only at HST
          generalize strB xl = xs at *
          have hlen : (acc ++ [(xk, xn, xs)]).length = acc.length + 1 := by simp
          have Hlen := Lib.hid hlen
          have hws3 : IntKind.i64.wrap ((pp : Int) + (m : Int)) = (pp : Int) + (m : Int) := IntWalk.i64_in _ (by omega)
          clear hz hlen
          go_upto_region 25 with (go_at_call 64; (with_reducible refine HGt.out.mono ?_); rintro e w12 ⟨rfl, hb12⟩)
          obtain ⟨W13, hW13⟩ : ∃ W, w12.alloc (.cells #[.int .i64 xk, .int .i64 xn, .string xs] 52) = W := ⟨_, rfl⟩
          rw [hW13]
          have HD13 : Hid (GD w w.heap.size E (evC t d s nm (.slice ra acc.length rc)) W13) := by show GD _ _ _ _ _; rw [← hW13]; exact (HD.out.below hb12).below ((Below.refl _ w12).alloc (Nat.le_refl _) _)
          have HO13 : Hid (W13.ownsRow (E + 1) 52 3 (.slice ra acc.length rc) acc.length (valCells acc)) := by show World.ownsRow _ _ _ _ _ _ _; rw [← hW13]; exact (vowns_below HO.out hb12).alloc _
          have t0 : W13.cell? ⟨w12.heap.size, 0, none⟩ = some (.int .i64 xk) := by rw [← hW13]; exact new_cell _ _ _ rfl rfl
          have t1 : W13.cell? ⟨w12.heap.size, 1, none⟩ = some (.int .i64 xn) := by rw [← hW13]; exact new_cell _ _ _ rfl rfl
          have t2 : W13.cell? ⟨w12.heap.size, 2, none⟩ = some (.string xs) := by rw [← hW13]; exact new_cell _ _ _ rfl rfl
          clear hW13 hb12 HD HO HGt hvd HV
          generalize w12.heap.size = TB at *
          have e4 := HD13.out.e 4 _ rfl
          have f4 := HD13.out.fe 4
          have HD15 := Lib.hid (HD13.out.below ((Below.refl _ W13).alloc (Nat.le_refl _) (.cells #[.int .i64 xk, .int .i64 xn, .string xs] 52)))
          have HO15 := Lib.hid (HO13.out.alloc (.cells #[.int .i64 xk, .int .i64 xn, .string xs] 52))
          have hltE := HD15.out.lt
          go_wp2_with (at_builtin; refine wpList_append_own _ rfl (.tmp 102) (.tmp 104) 23 rfl (E + 1) 52 i0 (.agg #[.int .i64 0, .int .i64 0, .string .empty]) 3 32 Try.underlying23 hi hz0 hz1 hz2 rfl (by decide) _ _ _ rfl HO15.out ⟨W13.heap.size, 0, none⟩ 1 1 (vCells (xk, xn, xs)) rfl rfl (v_new W13 (xk, xn, xs)) (vCells_oneCell (xk, xn, xs)) (by unfold maxLen; omega) (by omega) hltE ?_; intro v8 w16 hown16 hgrow16 hnil16; have hB16 : Below (E + 1) _ w16 := (Below.refl (E + 1) _).grown hgrow16 hltE (fun g hg => (HO15.out.lt g hg).1); have HD16 := Lib.hid (HD15.out.belowE hB16); obtain ⟨a8, c8, rfl⟩ := vowns_slice hown16; have e4' := HD16.out.e 4 _ rfl; have f4' := HD16.out.fe 4; have HO16 := Lib.hid hown16; clear hown16 hgrow16 hnil16 hB16)
          have HD17 : Hid (GD w w.heap.size E (evC t d s nm (.slice a8 (acc ++ [(xk, xn, xs)]).length c8)) (w16.setCell ⟨E, 4, none⟩ (.slice a8 (acc.length + 1) c8))) := by show GD _ _ _ _ _; rw [Hlen.out]; exact HD16.out.put (i := 4) _ rfl
          have HO17 : Hid ((w16.setCell ⟨E, 4, none⟩ (.slice a8 (acc.length + 1) c8)).ownsRow (E + 1) 52 3 (.slice a8 (acc ++ [(xk, xn, xs)]).length c8) (acc ++ [(xk, xn, xs)]).length (valCells (acc ++ [(xk, xn, xs)]))) := by show World.ownsRow _ _ _ _ _ _ _; rw [Hlen.out, valCells_append, valCells_one]; exact eowns_set HO16.out _ (by omega)
          go_roundw
          case rel => exact ⟨k + 1, pp + m, a8, c8, acc ++ [(xk, xn, xs)], by go_num, by go_num, by omega, hml, HST, HD17, HO17⟩
          case measure => simp [intOf]; omega
      · obtain rfl : k = M := by omega
        obtain ⟨hvf, hal, hpp0, _⟩ := HV.out.fin
        clear hal
        have Hsz := Lib.hid HV.out.2.2.2.1
        have HVf := Lib.hid hvf
        have x0 := HD.out.x 0 _ rfl
        have f0 := HD.out.fx 0
        have x1 := HD.out.x 1 _ rfl
        have f1 := HD.out.fx 1
        have x2 := HD.out.x 2 _ rfl
        have f2 := HD.out.fx 2
        have x3 := HD.out.x 3 _ rfl
        have f3 := HD.out.fx 3
        have x4 := HD.out.x 4 _ rfl
        have f4 := HD.out.fx 4
        have e0 := HD.out.e 0 _ rfl
        have e1 := HD.out.e 1 _ rfl
        have e2 := HD.out.e 2 _ rfl
        have e3 := HD.out.e 3 _ rfl
        have e4 := HD.out.e 4 _ rfl
        have hpe : pe t d s nm acc = ⟨t, d, s, (bs.drop p).take n, acc.map pv⟩ := by unfold pe; rw [← Hnm.out, strB_list]
        have Hpe := Lib.hid hpe
        have hq := fun (h1 : ¬ (p + n + k0 + (pp - (p + n + k0)) = bs.length ∧ rightE ⟨t, d, s, (bs.drop p).take n, acc.map pv⟩ = true)) => rgetE_q HN4.out (by rw [HL.out]; exact Hc.out) HZ8.out HVf.out h1
        have hy := fun h1 h2 => rgetE_y HN4.out (by rw [HL.out]; exact Hc.out) HZ8.out HVf.out h1 h2
        rw [← hpe, HL.out] at hq hy
        rw [show p + n + k0 + (pp - (p + n + k0)) = pp by omega] at hq hy
        clear hvf hpe
        by_cases hlen : pp = l
        · subst hlen
          have hrow := VRow.of_owns HO.out Hsz.out rfl
          have HRr := Lib.hid (rrightE_calls t d s nm ra rc acc wr (by unfold maxLen; omega) hrow (by unfold maxLen; omega))
          cases hr : rightE (pe t d s nm acc) with
          | false =>
            have HE := Lib.hid (hq (by rw [hr]; simp))
            rw [hr] at HRr
            clear hq hy hrow
            go_wp2_with (go_at_call 55; (with_reducible refine HRr.out.mono ?_); rintro e w5 ⟨rfl, hb5⟩; have HD := Lib.hid (HD.out.below hb5); have x0 := HD.out.x 0 _ rfl; have f0 := HD.out.fx 0; have x1 := HD.out.x 1 _ rfl; have f1 := HD.out.fx 1; have x2 := HD.out.x 2 _ rfl; have f2 := HD.out.fx 2; have x3 := HD.out.x 3 _ rfl; have f3 := HD.out.fx 3; have x4 := HD.out.x 4 _ rfl; have f4 := HD.out.fx 4;  clear hb5)
            refine bodyPost_ret (v := .tuple #[evV 0 0 0 ⟨#[]⟩ (.slice none 0 0), .bool false]) (by simp [results, Try.results31, go_sem, x0, x1, x2, x3, x4]) rfl (GetE.none HE.out ?_)
            exact below5 HD.out.hb (Nat.le_refl _) _ _ _ _ _
          | true =>
            have HE := Lib.hid (hy rfl hr)
            rw [hr] at HRr
            have hw := (rightE_iff.1 hr).2.2.2.1
            have hn16 := (wordB_len hw).2
            have HSep : Hid (∀ A, ra = some A → A.block ≠ w.heap.size) := fun A hA => by have h8 := (HO.out.lt A.block (by rw [hA]; rfl)).1; omega
            have HVr := Lib.hid hrow
            have Hhr := Lib.hid hr
            have hn16 : nm.data.toList.length ≤ 16 := hn16
            clear hq hy hrow hw hr
            go_wp2_with (go_at_call 55; (with_reducible refine HRr.out.mono ?_); rintro e w5 ⟨rfl, hb5⟩; have HVr := Lib.hid (HVr.out.below hb5); have HD := Lib.hid (HD.out.below hb5); have x0 := HD.out.x 0 _ rfl; have f0 := HD.out.fx 0; have x1 := HD.out.x 1 _ rfl; have f1 := HD.out.fx 1; have x2 := HD.out.x 2 _ rfl; have f2 := HD.out.fx 2; have x3 := HD.out.x 3 _ rfl; have f3 := HD.out.fx 3; have x4 := HD.out.x 4 _ rfl; have f4 := HD.out.fx 4;  have e0 := HD.out.e 0 _ rfl; have e1 := HD.out.e 1 _ rfl; have e2 := HD.out.e 2 _ rfl; have e3 := HD.out.e 3 _ rfl; have e4 := HD.out.e 4 _ rfl; clear hb5)
            refine bodyPost_ret (v := .tuple #[evV t d s nm (.slice ra acc.length rc), .bool true]) (by simp [results, Try.results31, go_sem, x0, x1, x2, x3, x4]) rfl (GetE.some (p := pe t d s nm acc) HE.out rfl ⟨rfl, by simpa using hn16, rfl⟩ ?_ ?_)
            · iterate 5 (refine VRow.set ?_ _ HSep.out)
              exact HVr.out
            · exact below5 HD.out.hb (Nat.le_refl _) _ _ _ _ _
        · have HE := Lib.hid (hq (by rintro ⟨h1, _⟩; exact hlen h1))
          have hne : ((pp : Int) != (l : Int)) = true := by rw [bne_iff_ne]; omega
          clear hq hy
          go_wp2
          refine bodyPost_ret (v := .tuple #[evV 0 0 0 ⟨#[]⟩ (.slice none 0 0), .bool false]) (by simp [results, Try.results31, go_sem, x0, x1, x2, x3, x4]) rfl (GetE.none HE.out ?_)
          exact below5 HD.out.hb (Nat.le_refl _) _ _ _ _ _

end Go.Proofs.Ytppgecbjdkfohaa

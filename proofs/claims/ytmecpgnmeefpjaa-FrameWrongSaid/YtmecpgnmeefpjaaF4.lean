/- All records of the frames that bytes begin with: Cut. -/
import Derived.Test.YtmecpgnmeefpjaaF3
namespace Go.Proofs.Ytmecpgnmeefpjaa
open Go.RowKit Go.Lib

theorem wp_scope_jumps_at {P : Program} {a : Act} {w : World} {Q : Exit → Act → World → Prop} {c rest : Code} (a1 : Act) (l : Nat) (J : Act → World → Prop) (μ : Act → World → Nat) (hf : findLabel c l = some (.seq .skip rest))
    (hfirst : ∀ R : Exit → Act → World → Prop, rest.wp P R a1 w → c.wp P R a w) (hJ : J a1 w)
    (pass : ∀ a w, J a w → rest.wp P (Exit.jump l (fun a' w' => J a' w' ∧ μ a' w' < μ a w) Q) a w) : (Code.scope c).wp P Q a w :=
  wp_scope_jumps l J μ hf (hfirst _ (Code.wp_mono (fun e a w q => by
    cases e with
    | goto l' => exact ⟨q.1, q.2.1⟩
    | _ => exact q) (pass a1 w hJ))) (fun a w h => wp_seq (wp_skip (pass a w h)))

theorem firstB_le {l r : List UInt8} (h : firstB l = some r) : r.length + 5 ≤ l.length ∧ r.length ≤ 4096 ∧ l.take (r.length + 5) = frameB r := by
  unfold firstB at h
  split at h; · cases h
  rename_i h5
  split at h; · cases h
  rename_i h82
  split at h; · cases h
  rename_i hbig
  split at h; · cases h
  rename_i hmore
  split at h; · cases h
  rename_i hsum
  injection h with h
  have hlen : r.length = saysN l := by rw [← h, List.length_take, List.length_drop]; omega
  refine ⟨by omega, by omega, ?_⟩
  obtain ⟨x0, x1, x2, x3, x4, t, rfl⟩ : ∃ x0 x1 x2 x3 x4 t, l = x0 :: x1 :: x2 :: x3 :: x4 :: t := by
    match l, h5 with
    | x0 :: x1 :: x2 :: x3 :: x4 :: t, _ => exact ⟨_, _, _, _, _, _, rfl⟩
    | [], h => simp at h
    | [_], h => simp at h
    | [_, _], h => simp at h
    | [_, _, _], h => simp at h
    | [_, _, _, _], h => simp at h
  have e0 : x0 = 82 := by
    have : x0.toNat = 82 := by simpa [byteN] using h82
    exact UInt8.toNat_inj.1 this
  have hs : saysN (x0 :: x1 :: x2 :: x3 :: x4 :: t) = 256 * x1.toNat + x2.toNat := rfl
  have h3 : byteN (x0 :: x1 :: x2 :: x3 :: x4 :: t) 3 = x3.toNat := rfl
  have h4 : byteN (x0 :: x1 :: x2 :: x3 :: x4 :: t) 4 = x4.toNat := rfl
  rw [h3, h4] at hsum
  have b1 := x1.toNat_lt
  have b2 := x2.toNat_lt
  have b3 := x3.toNat_lt
  have b4 := x4.toNat_lt
  have hr : sumN r = 256 * x3.toNat + x4.toNat := by rw [← h]; omega
  have e1 : UInt8.ofNat (r.length / 256) = x1 := by
    rw [hlen, hs, show (256 * x1.toNat + x2.toNat) / 256 = x1.toNat by omega]; simp
  have e2 : UInt8.ofNat (r.length % 256) = x2 := by
    rw [hlen, hs, show (256 * x1.toNat + x2.toNat) % 256 = x2.toNat by omega]; simp
  have e3 : UInt8.ofNat (sumN r / 256) = x3 := by
    rw [hr, show (256 * x3.toNat + x4.toNat) / 256 = x3.toNat by omega]; simp
  have e4 : UInt8.ofNat (sumN r % 256) = x4 := by
    rw [hr, show (256 * x3.toNat + x4.toNat) % 256 = x4.toNat by omega]; simp
  have h' : t.take (saysN (x0 :: x1 :: x2 :: x3 :: x4 :: t)) = r := h
  rw [frameB, e1, e2, e3, e4, e0, hlen]
  show 82 :: x1 :: x2 :: x3 :: x4 :: t.take (saysN (x0 :: x1 :: x2 :: x3 :: x4 :: t)) = _
  rw [h']
  rfl

/-- The records of the frames that bytes begin with. -/
def cutB (l : List UInt8) : List (List UInt8) :=
  match h : firstB l with
  | none => []
  | some r => r :: cutB (l.drop (r.length + 5))
termination_by l.length
decreasing_by
  have := (firstB_le h).1
  rw [List.length_drop]
  omega

theorem cutB_none {l : List UInt8} (h : firstB l = none) : cutB l = [] := by
  rw [cutB]; split
  · rfl
  · rename_i r hr; rw [h] at hr; cases hr
theorem cutB_some {l r : List UInt8} (h : firstB l = some r) : cutB l = r :: cutB (l.drop (r.length + 5)) := by
  rw [cutB]; split
  · rename_i hr; rw [h] at hr; cases hr
  · rename_i r' hr; rw [h] at hr; injection hr with hr; rw [hr]

/-- How many bytes records' frames have. -/
def lensN (rs : List (List UInt8)) : Nat := (rs.map fun r => r.length + 5).sum
def cutN (l : List UInt8) : Nat := lensN (cutB l)

theorem lensN_append (a b : List (List UInt8)) : lensN (a ++ b) = lensN a + lensN b := by simp [lensN]
theorem lensN_one (r : List UInt8) : lensN [r] = r.length + 5 := by simp [lensN]
theorem lensN_ge (rs : List (List UInt8)) : rs.length * 5 ≤ lensN rs := by
  induction rs with
  | nil => simp [lensN]
  | cons r rs ih => simp only [lensN, List.map_cons, List.sum_cons, List.length_cons] at *; omega

theorem cutN_le : ∀ (n : Nat) (l : List UInt8), l.length = n → cutN l ≤ l.length := by
  intro n
  induction n using Nat.strongRecOn with
  | _ n ih =>
    intro l hl
    cases h : firstB l with
    | none => simp [cutN, cutB_none h, lensN]
    | some r =>
      have h1 := (firstB_le h).1
      have h2 := ih (l.drop (r.length + 5)).length (by rw [List.length_drop]; omega) _ rfl
      rw [List.length_drop] at h2
      simp only [cutN, cutB_some h, lensN, List.map_cons, List.sum_cons] at h2 ⊢
      omega

theorem infoS16 : (Try.prog.info? 9).map (fun i => (i.zero, i.size, i.bytes)) = some (some (.string .empty), 1, 16) := by kernel_rfl

/-- Texts as cells. -/
def recCells (rs : List (List UInt8)) : List Value := rs.map fun r => Value.string (strB r)
theorem recCells_one (rs : List (List UInt8)) : ∀ u ∈ recCells rs, u.oneCell' = true := by
  intro u hu
  simp only [recCells, List.mem_map] at hu
  obtain ⟨r, _, rfl⟩ := hu
  rfl
theorem recCells_length (rs : List (List UInt8)) : (recCells rs).length = rs.length := by simp [recCells]

/-- What Cut answers. -/
def CutPost (w : World) (bs : List UInt8) (e : Ending) (w' : World) : Prop :=
  ∃ v, e = .returned (.tuple #[v, .int .i64 (cutN bs)]) ∧ w'.ownsRow w.heap.size 9 1 v (cutB bs).length (recCells (cutB bs)) ∧ Below w.heap.size w w'

theorem ret_two {v : Value} {a b : Int} (h : a = b) : Ending.returned (.tuple #[v, .int .i64 a]) = .returned (.tuple #[v, .int .i64 b]) := by rw [h]

theorem fbelow_drewN {B : Nat} {a w : World} (h : Below B a w) (n : Nat) : Below B a (w.drewN n) := ⟨h.os, h.tape, h.output, h.size, h.block⟩

theorem vals_new (w : World) (vs : List Value) (cs : Array Value) (t : TypeId) (fr : Nat × Nat) (h : cs.toList = vs) : ∀ j u, vs[j]? = some u → (w.alloc (.cells cs t fr)).cell? ((⟨w.heap.size, 0, none⟩ : Addr).add j) = some u := by
  intro j u hu
  have hadd : (⟨w.heap.size, 0, none⟩ : Addr).add j = ⟨w.heap.size, j, none⟩ := by unfold Addr.add; split <;> simp_all
  rw [hadd]
  refine fcell_of_blk (heap_alloc_new w _) ?_
  rw [← h] at hu
  simpa using hu

set_option maxHeartbeats 2000000 in
theorem cut_calls (w : World) (bv : Value) (bs : List UInt8) (h : BRow w bv bs) (hlen : bs.length ≤ 100000000) : Calls Try.prog 10 #[bv] w (CutPost w bs) := by
  obtain ⟨i0, hi, hz0, hz1, hz2⟩ := info_parts infoS16
  have H := Lib.hid h
  have Hlen := Lib.hid hlen
  clear h hlen
  go_enter Try.func10, Try.ntmps10
  go_wp2
  refine wp_scope_jumps_at { tmps := #[bv, undef, .slice none 0 0, .int .i64 0, .slice none 0 0, .int .i64 0, undef, undef, undef, undef, undef, undef, undef, undef, undef, undef, undef, undef, undef, undef, undef, undef, undef, undef, undef, undef, undef], defers := [] } 0 (fun a' w' => ∃ (k : Nat) (rs : List (List UInt8)) (v n5 u6 u7 u8 u9 u10 u11 u12 u13 u14 u15 u16 u17 u18 u19 u20 u21 u22 u23 u24 : Value), a' = { tmps := #[bv, undef, .slice none 0 0, .int .i64 0, v, n5, u6, u7, u8, u9, u10, u11, u12, u13, u14, u15, u16, u17, u18, u19, u20, u21, u22, u23, u24, undef, undef], defers := [] } ∧ n5 = .int .i64 k ∧ Hid (k ≤ bs.length) ∧ Hid (k = lensN rs) ∧ Hid (cutB bs = rs ++ cutB (bs.drop k)) ∧ Hid (w'.ownsRow w.heap.size 9 1 v rs.length (recCells rs)) ∧ Hid (Below w.heap.size w w')) (fun a' _ => bs.length - (intOf (a'.tmps.getD 5 undef)).toNat) rfl ?_ ?_ ?_
  · intro R hR
    go_wp2
    go_step3
    rename_i K hK
    exact hK _ _ hR
  · exact ⟨0, [], _, _, _, _, _, _, _, _, _, _, _, _, _, _, _, _, _, _, _, _, _, rfl, rfl, Nat.zero_le _, rfl, rfl, World.ownsRow_nil _ _ _ _, Below.refl _ _⟩
  · rintro a' w1 ⟨k, rs, v, n5, u6, u7, u8, u9, u10, u11, u12, u13, u14, u15, u16, u17, u18, u19, u20, u21, u22, u23, u24, rfl, rfl, Hk, Hkn, Hcut, Hown, Hb⟩
    obtain ⟨bv', hsl, hbv'⟩ := (H.out.below Hb.out).drop Hk.out
    have hf := first_calls w1 bv' _ hbv'
    have hkl : (k : Int) ≤ 100000000 := by have := Hk.out; have := Hlen.out; omega
    clear hbv'
    cases hr : firstB (bs.drop k) with
    | none =>
      have Hr := Lib.hid hr
      have hf' : Calls Try.prog 19 #[bv'] w1 fun e w' => e = .returned (.tuple #[.string ⟨#[]⟩, .bool false]) ∧ ∃ n, w' = w1.drewN n := hf.mono fun e w' ⟨h1, h2⟩ => ⟨by rw [h1, hr]; rfl, h2⟩
      clear hf hr
      go_wp2_with fail
      refine hf'.mono ?_
      rintro e w2 ⟨rfl, n, rfl⟩
      clear hf'
      have hfin : cutB bs = rs := by have := Hcut.out; rw [cutB_none Hr.out, List.append_nil] at this; exact this
      have hcn : cutN bs = k := by rw [cutN, hfin]; exact Hkn.out.symm
      have Hfin := Lib.hid hfin
      have Hcn := Lib.hid hcn
      clear hfin hcn
      go_wp2_with fail
      simp only [Exit.jump]
      go_ret2
      exact ⟨v, ret_two (by rw [Hcn.out]), by rw [Hfin.out]; exact Hown.out, fbelow_drewN Hb.out n⟩
    | some r =>
      have Hr := Lib.hid hr
      have hf' : Calls Try.prog 19 #[bv'] w1 fun e w' => e = .returned (.tuple #[.string (strB r), .bool true]) ∧ ∃ n, w' = w1.drewN n := hf.mono fun e w' ⟨h1, h2⟩ => ⟨by rw [h1, hr]; rfl, h2⟩
      clear hf hr
      go_wp2_with fail
      refine hf'.mono ?_
      rintro e w2 ⟨rfl, n, rfl⟩
      clear hf'
      have hf1 := firstB_le Hr.out
      obtain ⟨hrl, hr4, hrf⟩ := hf1
      rw [List.length_drop] at hrl
      have hsz := strB_size r
      have Hsz := Lib.hid hsz
      have hg := lensN_ge rs
      have hk1 := Hkn.out
      have hk2 := Hlen.out
      have hk3 := Hk.out
      have hrs : (rs.length + 1) * 16 ≤ 140737488355328 := by omega
      have hrs1 : rs.length + 1 ≤ maxLen := by unfold maxLen; omega
      have hkr : Hid (k + (r.length + 5) ≤ bs.length) := by show _ ≤ _; omega
      have hkk : Hid (k + (r.length + 5) = lensN (rs ++ [r])) := by show _ = _; rw [lensN_append, lensN_one, ← Hkn.out]
      have hcc : Hid (cutB bs = (rs ++ [r]) ++ cutB (bs.drop (k + (r.length + 5)))) := by show _ = _; rw [Hcut.out, cutB_some Hr.out, List.drop_drop]; simp
      have hlt := Lib.hid Hown.out.lt
      have hstl : (strB r).size ≤ 4096 := by omega
      have HB1 : Hid (Below w.heap.size w ((w1.drewN n).alloc (.cells #[.string (strB r)] 9))) := (fbelow_drewN Hb.out n).alloc Hb.out.size _
      have HO1 : Hid (((w1.drewN n).alloc (.cells #[.string (strB r)] 9)).ownsRow w.heap.size 9 1 v rs.length (recCells rs)) := World.ownsRow.alloc (w := w1.drewN n) Hown.out _
      have hws := Hb.out.size
      clear hrf hsz hg hk1 hk2 hk3
      go_wp2_with (first
        | (at_builtin; refine wpList_append_own _ rfl (.tmp 16) (.tmp 18) 24 rfl w.heap.size 9 i0 (.string .empty) 1 16 Try.underlying24 hi hz0 hz1 hz2 rfl (by decide) _ _ _ rfl HO1.out ⟨w1.heap.size, 0, none⟩ 1 1 (recCells [r]) rfl rfl (vals_new (w1.drewN n) _ _ _ _ rfl) (recCells_one _) hrs1 hrs HB1.out.size ?_; intro v2 w2 hown2 hgrow2 hnil2))
      have HB2 := Lib.hid (HB1.out.grown hgrow2 HB1.out.size (fun q hq => (hlt.out q hq).1))
      have hown3 : w2.ownsRow w.heap.size 9 1 v2 (rs ++ [r]).length (recCells (rs ++ [r])) := by
        rw [List.length_append]
        have h1 := hown2
        simpa [recCells] using h1
      have HO2 := Lib.hid hown3
      clear hown2 hgrow2 hnil2 hown3
      go_wp2_with fail
      go_step3
      refine ⟨rfl, ⟨k + (r.length + 5), rs ++ [r], v2, _, _, _, _, _, _, _, _, _, _, _, _, _, _, _, _, _, _, _, _, rfl, by rw [Hsz.out]; congr 1; omega, hkr, hkk, hcc, HO2, HB2⟩, ?_⟩
      · simp [intOf]
        omega

end Go.Proofs.Ytmecpgnmeefpjaa

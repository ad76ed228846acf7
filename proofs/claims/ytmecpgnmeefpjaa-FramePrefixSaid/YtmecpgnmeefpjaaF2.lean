/- Bytes that can be read; two bytes of a number, put and read. -/
import Derived.Test.YtmecpgnmeefpjaaF1
import Derived.Lib.ConvBytes
import Derived.Laws.BytesArg
import Derived.Lib.AppendStr
import Derived.Laws.MakeOwn
import Derived.Maps.AppendAt
import Derived.Deep.QuietTactic
import Derived.BigQuiet
import Derived.IntWalk
import Derived.Lib.BufferWrite
namespace Go.Proofs.Ytmecpgnmeefpjaa
open Go.RowKit Go.Lib

theorem infoB8 : (Try.prog.info? 5).map (fun i => (i.zero, i.size, i.bytes)) = some (some (.int .u8 0), 1, 1) := by kernel_rfl

/-- Bytes that can be read. -/
def BRow (w : World) (v : Value) (bs : List UInt8) : Prop :=
  ∃ a c, v = .slice a bs.length c ∧ bs.length ≤ c ∧ c ≤ maxLen ∧ (a = none → c = 0) ∧ ∀ j x, bs[j]? = some x → ∃ A, a = some A ∧ w.cell? (A.add j) = some (.int .u8 x.toNat)

theorem fadd_block (a : Addr) (n : Nat) : (a.add n).block = a.block := by unfold Addr.add; split <;> rfl
theorem BRow.below {w w' : World} {v : Value} {bs : List UInt8} (h : BRow w v bs) (hb : Below w.heap.size w w') : BRow w' v bs := by
  obtain ⟨a, c, h1, h2, h3, h4, h5⟩ := h
  refine ⟨a, c, h1, h2, h3, h4, fun j x hj => ?_⟩
  obtain ⟨A, e1, e2⟩ := h5 j x hj
  exact ⟨A, e1, (hb.cell (World.block_lt_of_cell? _ _ e2)).trans e2⟩

theorem fcell_of_blk {w : World} {b k : Nat} {cs : Array Value} {e : TypeId} {fr : Nat × Nat} (h : w.heap[b]? = some (.cells cs e fr)) {v : Value} (hv : cs[k]? = some v) : w.cell? ⟨b, k, none⟩ = some v := by simp [World.cell?, h, hv]

theorem ret_num {k : IntKind} {a b : Int} (h : a = b) : Ending.returned (.int k a) = .returned (.int k b) := by rw [h]

theorem ofNat_toNat {n : Nat} (h : n < 256) : (UInt8.ofNat n).toNat = n := by simp; omega

set_option maxHeartbeats 1000000 in
theorem pairTo_calls (w : World) (B l : Nat) (v : Value) (xs : List UInt8) (n : Nat) (hn : n < 65536) (hown : w.ownsRow B 5 1 v l (byteCells xs)) (hl : l ≤ 10000) (hB : B ≤ w.heap.size) :
    Calls Try.prog 21 #[v, .int .i64 n] w fun e w' => ∃ v', e = .returned v' ∧ w'.ownsRow B 5 1 v' (l + 2) (byteCells (xs ++ [UInt8.ofNat (n / 256), UInt8.ofNat (n % 256)])) ∧ Below B w w' := by
  obtain ⟨i0, hi, hz0, hz1, hz2⟩ := info_parts infoB8
  have Hown := Lib.hid hown
  have hlt := Lib.hid hown.lt
  clear hown
  go_enter Try.func21, Try.ntmps21
  go_wp2_with (first
    | (at_builtin; refine wpList_append_own _ rfl (.tmp 5) (.tmp 11) 22 rfl B 5 i0 (.int .u8 0) 1 1 Try.underlying22 hi hz0 hz1 hz2 rfl (by decide) _ _ _ rfl (Hown.out.alloc _) ⟨w.heap.size, 0, none⟩ 2 2 (byteCells [UInt8.ofNat (n / 256), UInt8.ofNat (n % 256)]) rfl rfl ?c1 (byteCells_one _) (by unfold maxLen; omega) (by omega) (by simp; omega) ?_))
  case c1 =>
    intro j u hu
    have hadd : (⟨w.heap.size, 0, none⟩ : Addr).add j = ⟨w.heap.size, j, none⟩ := by unfold Addr.add; split <;> simp_all
    rw [hadd]
    refine fcell_of_blk (heap_alloc_new w _) ?_
    match j, hu with
    | 0, hu => simp [byteCells] at hu; subst hu; simp; omega
    | 1, hu => simp [byteCells] at hu; subst hu; simp
  intro v' w1 hown' hgrow hnil
  go_wp2
  go_ret
  exact ⟨_, rfl, by simpa [byteCells] using hown', ((Below.refl _ _).alloc hB _).grown hgrow (by simp; omega) (fun k hk => (hlt.out k hk).1)⟩

set_option maxHeartbeats 1000000 in
theorem pair_calls (w : World) (b o : Nat) (l c x y : Nat) (hl : 2 ≤ l) (hx : w.cell? ⟨b, o, none⟩ = some (.int .u8 x)) (hy : w.cell? ⟨b, o + 1, none⟩ = some (.int .u8 y)) (hx2 : x < 256) (hy2 : y < 256) :
    Calls Try.prog 22 #[.slice (some ⟨b, o, none⟩) l c] w fun e w' => e = .returned (.int .i64 (256 * x + y : Nat)) ∧ ∃ n, w' = w.drewN n := by
  have h0 : 0 < l := by omega
  have h1 : 1 < l := by omega
  have h0' : (0 : Int) < l := by omega
  have h1' : (1 : Int) < l := by omega
  go_enter Try.func22, Try.ntmps22
  go_wp2
  go_quiet (fail)
  go_wp2
  go_ret
  exact ⟨ret_num (by omega), _, rfl⟩

theorem cells_new (w : World) (bs : List UInt8) (cs : Array Value) (t : TypeId) (fr : Nat × Nat) (h : cs.toList = byteCells bs) : ∀ j u, (byteCells bs)[j]? = some u → (w.alloc (.cells cs t fr)).cell? ((⟨w.heap.size, 0, none⟩ : Addr).add j) = some u := by
  intro j u hu
  have hadd : (⟨w.heap.size, 0, none⟩ : Addr).add j = ⟨w.heap.size, j, none⟩ := by unfold Addr.add; split <;> simp_all
  rw [hadd]
  refine fcell_of_blk (heap_alloc_new w _) ?_
  rw [← h] at hu
  simpa using hu

/-- A record's frame. -/
def frameB (l : List UInt8) : List UInt8 := [82] ++ [UInt8.ofNat (l.length / 256), UInt8.ofNat (l.length % 256)] ++ [UInt8.ofNat (sumN l / 256), UInt8.ofNat (sumN l % 256)] ++ l

theorem frameB_length (l : List UInt8) : (frameB l).length = l.length + 5 := by simp [frameB]

/-- What Put gives. -/
def putB (l : List UInt8) : List UInt8 := if 4096 < l.length then [] else frameB l

set_option maxHeartbeats 1000000 in
theorem put_calls (s : ByteArray) (w : World) (hs : s.size ≤ maxLen) :
    Calls Try.prog 14 #[.string s] w fun e w' => ∃ v, e = .returned v ∧ w'.ownsRow w.heap.size 5 1 v (putB s.data.toList).length (byteCells (putB s.data.toList)) ∧ Below w.heap.size w w' := by
  have hs' := hs
  unfold maxLen at hs
  have hsl : s.data.toList.length = s.size := by simp
  by_cases hbig : 4096 < s.size
  · have hp : putB s.data.toList = [] := if_pos (by omega)
    rw [hp]
    clear hp hsl
    go_enter Try.func14, Try.ntmps14
    go_wp2
    go_ret
    exact ⟨_, rfl, World.ownsRow_nil _ _ _ _, Below.refl _ _⟩
  · have hp : putB s.data.toList = frameB s.data.toList := if_neg (by omega)
    rw [hp]
    have hfl : (frameB s.data.toList).length = s.size + 5 := by rw [frameB_length, hsl]
    rw [hfl]
    have hsn := sumN_lt s.data.toList
    have Hsl := Lib.hid hsl
    have hstr : strCells s = byteCells s.data.toList := rfl
    have Hstr := Lib.hid hstr
    have hs2 : s.size ≤ 4096 := by omega
    obtain ⟨i0, hi, hz0, hz1, hz2⟩ := info_parts infoB8
    clear hp hfl hsl hstr hbig
    go_enter Try.func14, Try.ntmps14
    go_wp2_with (first
      | (at_make; refine wpList_make_own _ rfl _ _ 22 rfl w.heap.size 5 i0 (.int .u8 0) 1 Try.underlying22 hi hz0 hz1 .i64 .i64 _ (5 + s.size) rfl rfl (by omega) (by rw [hz2]; omega) (by unfold maxLen; omega) (Nat.le_refl _) ?_; intro w1 hown1 hgrow1)
      | (at_builtin; refine wpList_append_own _ rfl (.tmp 11) (.tmp 12) 22 rfl w.heap.size 5 i0 (.int .u8 0) 1 1 Try.underlying22 hi hz0 hz1 hz2 rfl (by decide) _ _ _ rfl (hown1.alloc _) ⟨w1.heap.size, 0, none⟩ 1 1 (byteCells [82]) rfl rfl (cells_new w1 [82] _ _ _ rfl) (byteCells_one _) (by unfold maxLen; omega) (by omega) (by have := hgrow1.size; simp; omega) ?_; intro v2 w2 hown2 hgrow2 hnil2))
    have hb2 : Below w.heap.size w w2 := (((Below.refl _ w).grown hgrow1 (Nat.le_refl _) (fun k hk => by cases hk)).alloc hgrow1.size _).grown hgrow2 (by have := hgrow1.size; simp; omega) (fun k hk => by injection hk with hk; rw [← hk]; exact Nat.le_refl _)
    have HB2 := Lib.hid hb2
    have h2 : w2.ownsRow w.heap.size 5 1 v2 1 (byteCells [82]) := by simpa using hown2
    have HO2 := Lib.hid h2
    clear hown1 hgrow1 hown2 hgrow2 hnil2 hb2 h2
    go_wp2_with fail
    refine (pairTo_calls w2 w.heap.size 1 v2 [82] s.size (by omega) HO2.out (by omega) HB2.out.size).mono ?_
    rintro e w3 ⟨v3, rfl, hown3, hb3⟩
    have HO3 := Lib.hid hown3
    have HB3 := Lib.hid (HB2.out.trans hb3)
    clear hown3 hb3 HO2 HB2
    go_wp2_with fail
    refine (sum_calls s w3 hs').mono ?_
    rintro e w4 ⟨rfl, rfl⟩
    go_wp2_with fail
    refine (pairTo_calls w3 w.heap.size _ v3 _ (sumN s.data.toList) hsn HO3.out (by omega) HB3.out.size).mono ?_
    rintro e w5 ⟨v5, rfl, hown5, hb5⟩
    have HO5 := Lib.hid hown5
    have HB5 := Lib.hid (HB3.out.trans hb5)
    clear hown5 hb5 HO3 HB3
    go_wp2_with (first
      | (at_builtin; refine wpList_append_own_string _ rfl (.tmp 22) (.tmp 23) 22 9 rfl w.heap.size 5 i0 Try.underlying22 Try.underlying9 hi hz0 hz1 hz2 _ _ _ rfl HO5.out s rfl (by unfold maxLen; omega) (by omega) HB5.out.size ?_; intro v6 w6 hown6 hgrow6 hnil6))
    go_wp2
    go_ret
    refine ⟨_, rfl, ?_, HB5.out.grown hgrow6 HB5.out.size (fun k hk => (HO5.out.lt k hk).1)⟩
    rw [Hstr.out] at hown6
    have e1 : frameB s.data.toList = [82] ++ [UInt8.ofNat (s.size / 256), UInt8.ofNat (s.size % 256)] ++ [UInt8.ofNat (sumN s.data.toList / 256), UInt8.ofNat (sumN s.data.toList % 256)] ++ s.data.toList := by
      unfold frameB; rw [Hsl.out]
    rw [e1, show s.size + 5 = 1 + 2 + 2 + s.size by omega]
    simpa [byteCells] using hown6

end Go.Proofs.Ytmecpgnmeefpjaa

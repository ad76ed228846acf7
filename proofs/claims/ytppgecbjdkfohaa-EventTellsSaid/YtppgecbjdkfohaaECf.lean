/- The program's Find; SameSchema; the document's Fits. -/
import Derived.Test.YtppgecbjdkfohaaEBf
namespace Go.Proofs.Ytppgecbjdkfohaa
open Go.RowKit Go.Lib Go.Op

theorem keep2 {W : World} {b : Nat} {p : Addr} (h : p.block ≠ b) (u v : Value) : ((W.setCell ⟨b, 0, none⟩ u).setCell ⟨b, 1, none⟩ v).cell? p = W.cell? p := by
  rw [World.cell?_setCell_other _ _ _ _ (by intro e; exact h (by rw [← e])), World.cell?_setCell_other _ _ _ _ (by intro e; exact h (by rw [← e]))]

set_option maxHeartbeats 4000000 in
set_option maxRecDepth 100000 in
theorem find_calls (a : Option Addr) (c : Nat) (xs : List SIn) (name : ByteArray) (w : World) (hv : SRow w a xs) (hl : xs.length ≤ maxLen) (hb : ∀ x ∈ xs, x.fs.length * 24 ≤ 140737488355328) :
    Calls Try.prog 17 #[.slice a xs.length c, .string name] w (SchemaQ w (findS xs name)) := by
  have hb0 : Below w.heap.size w (w.alloc (.cells #[.string ⟨#[]⟩, .slice none 0 0] 31)) := (Below.refl _ _).alloc (Nat.le_refl _) _
  have HV := Lib.hid (hv.below hb0)
  have HV0 := Lib.hid hv
  have HPl := Lib.hid (place_calls a c xs name _ (hv.below hb0) hl)
  have HB := Lib.hid hb0
  have hz : w.heap.size < (w.alloc (.cells #[.string ⟨#[]⟩, .slice none 0 0] 31)).heap.size := by simp
  have HX : Hid (∀ W, Below (w.alloc (.cells #[.string ⟨#[]⟩, .slice none 0 0] 31)).heap.size (w.alloc (.cells #[.string ⟨#[]⟩, .slice none 0 0] 31)) W → W.cell? ⟨w.heap.size, 0, none⟩ = some (.string ⟨#[]⟩) ∧ W.cell? ⟨w.heap.size, 1, none⟩ = some (.slice none 0 0) ∧ W.frozen? ⟨w.heap.size, 0, none⟩ = false ∧ W.frozen? ⟨w.heap.size, 1, none⟩ = false ∧ Below w.heap.size w W) := fun W hW =>
    ⟨ekeep hW (by simp), ekeep hW (by simp), (hW.frozen (p := ⟨w.heap.size, 0, none⟩) hz).trans (by simp), (hW.frozen (p := ⟨w.heap.size, 1, none⟩) hz).trans (by simp), hb0.trans (hW.mono hb0.size)⟩
  obtain ⟨l, hll⟩ : ∃ l, xs.length = l := ⟨_, rfl⟩
  have Hl := Lib.hid hll
  rw [hll] at hl HPl ⊢
  unfold maxLen at hl
  clear hv hll hb0
  cases hf : xs.findIdx? (fun x => nameIs name x.name) with
  | none =>
    rw [idxI_none hf] at HPl
    have HN := Lib.hid (findS_none hf)
    clear hf
    go_enter Try.func17, Try.ntmps17
    go_wp2_with (go_at_call 48; (with_reducible refine HPl.out.mono ?_); rintro e w1 ⟨rfl, hb1⟩; obtain ⟨x0, x1, f0, f1, hbw⟩ := HX.out _ hb1)
    refine bodyPost_ret (v := .tuple #[.agg #[.string ⟨#[]⟩, .slice none 0 0], .bool false]) (by simp [results, Try.results17, go_sem, x0, x1]) rfl ⟨⟨#[]⟩, none, 0, [], by rw [HN.out]; rfl, by rw [HN.out]; rfl, by rw [HN.out]; rfl, fun j y hj => by simp at hj, below2 hbw (Nat.le_refl _) _ _⟩
  | some k =>
    obtain ⟨x, hx, hk, _⟩ := find_at hf
    rw [idxI_some hf] at HPl
    have HN := Lib.hid (findS_some hf hx)
    have Hfl := Lib.hid (hb x (List.mem_of_getElem? hx))
    rw [Hl.out] at hk
    have Hx := Lib.hid hx
    clear hf hx hb
    go_enter Try.func17, Try.ntmps17
    go_upto_region 4 with (go_at_call 48; (with_reducible refine HPl.out.mono ?_); rintro e w1 ⟨rfl, hb1⟩)
    obtain ⟨A, rfl, c0, c1, hfr, _⟩ := (HV.out.below hb1) k x Hx.out
    have HCl := Lib.hid (clone_calls x.fa x.fc x.fs w1.drew (hfr.below (vbelow_drew (Below.refl _ _))) Hfl.out)
    obtain ⟨xn, fa, fc, fs⟩ := x
    dsimp only at c0 c1 hfr HCl HN
    unfold efld at c1
    have HB1 := Lib.hid hb1
    have hk0 : (0 : Int) ≤ (k : Int) := by omega
    have hk1 : (k : Int) < (l : Int) := by omega
    have d0 : w1.drew.cell? (A.add (k * 2)) = some (.string xn) := c0
    have d1 : w1.drew.cell? ⟨(A.add (k * 2)).block, (A.add (k * 2)).off + 1, none⟩ = some (.slice fa fs.length fc) := c1
    have hne : A.block ≠ w.heap.size := by
      obtain ⟨B, e, hc, _⟩ := HV0.out k _ Hx.out
      injection e with e
      subst e
      have h9 := World.block_lt_of_cell? _ _ hc
      rw [fadd_block] at h9
      omega
    clear c0 c1 hfr hb1 Hx HV HV0
    go_region_held3 (fun W => W.cell? (A.add (k * 2)) = some (.string xn) ∧ W.cell? ⟨(A.add (k * 2)).block, (A.add (k * 2)).off + 1, none⟩ = some (.slice fa fs.length fc))
      ((refine ⟨?_, ?_⟩ <;> (first | (with_reducible assumption) | (exact s0 _ _) | (exact s1 _ _))))
      (first | (go_at_call 49; (with_reducible refine HCl.out.mono ?_); rintro e w4 ⟨a4, c4, rfl, hfr4, hsep4, hb4⟩; have z0 := ekeep hb4 d0; have z1 := ekeep hb4 d1; have hbX := (vbelow_drew HB1.out).trans (hb4.mono (show _ ≤ w1.drew.heap.size from HB1.out.size)); obtain ⟨x0, x1, f0, f1, hbw⟩ := HX.out _ hbX; have s0 : ∀ u v, ((w4.setCell ⟨w.heap.size, 0, none⟩ u).setCell ⟨w.heap.size, 1, none⟩ v).cell? (A.add (k * 2)) = some (.string xn) := fun u v => (keep2 (by rw [fadd_block]; exact hne) u v).trans z0; have s1 : ∀ u v, ((w4.setCell ⟨w.heap.size, 0, none⟩ u).setCell ⟨w.heap.size, 1, none⟩ v).cell? ⟨(A.add (k * 2)).block, (A.add (k * 2)).off + 1, none⟩ = some (.slice fa fs.length fc) := fun u v => (keep2 (by dsimp only; rw [fadd_block]; exact hne) u v).trans z1))
    all_goals
      have hz1 : w.heap.size < w1.drew.heap.size := Nat.lt_of_lt_of_le hz (show _ ≤ w1.drew.heap.size from HB1.out.size)
      have HSep : Hid (∀ A, a4 = some A → A.block ≠ w.heap.size) := fun A hA => by have h9 := hsep4 A hA; omega
      have HFr := Lib.hid hfr4
      have HBw := Lib.hid hbw
      clear hfr4 hsep4 hbw hz1 s0 s1 z0 z1 hb4 hbX
      go_wp2
      refine bodyPost_ret (v := .tuple #[.agg #[.string xn, .slice a4 fs.length c4], .bool true]) (by simp [results, Try.results17, go_sem, x0, x1]) rfl ⟨xn, a4, c4, fs, by rw [HN.out]; rfl, by rw [HN.out]; rfl, by rw [HN.out]; rfl, ?_, below2 HBw.out (Nat.le_refl _) _ _⟩
      iterate 2 (refine FRow.set ?_ _ HSep.out)
      exact HFr.out

set_option maxHeartbeats 2000000 in
set_option maxRecDepth 100000 in
theorem sameS_calls (n : ByteArray) (a : Option Addr) (c : Nat) (b : Option Addr) (d : Nat) (fs : List FIn) (w : World) (ha : FRow w a fs) (hb : FRow w b fs) (hl : fs.length ≤ maxLen) :
    Calls Try.prog 23 #[.agg #[.string n, .slice a fs.length c], .agg #[.string n, .slice b fs.length d]] w fun e w' => e = .returned (.bool true) ∧ Below w.heap.size w w' := by
  obtain ⟨l, hll⟩ : ∃ l, fs.length = l := ⟨_, rfl⟩
  have hb0 : Below w.heap.size w ((w.alloc (.cells #[.string n, .slice a fs.length c] 31)).alloc (.cells #[.string n, .slice b fs.length d] 31)) := ((Below.refl _ _).alloc (Nat.le_refl _) _).alloc (by simp) _
  have HA := Lib.hid (ha.below hb0)
  have HBr := Lib.hid (hb.below hb0)
  have Hl := Lib.hid hll
  rw [hll] at hl hb0 HA HBr ⊢
  have HB0 := Lib.hid hb0
  have y1 : ((w.alloc (.cells #[.string n, .slice a l c] 31)).alloc (.cells #[.string n, .slice b l d] 31)).cell? ⟨w.heap.size, 1, none⟩ = some (.slice a l c) := by simp
  have z1 : ((w.alloc (.cells #[.string n, .slice a l c] 31)).alloc (.cells #[.string n, .slice b l d] 31)).cell? ⟨w.heap.size + 1, 1, none⟩ = some (.slice b l d) := by simp
  have HY := Lib.hid y1
  have HZ := Lib.hid z1
  unfold maxLen at hl
  clear ha hb hll hb0 y1 z1
  go_enter Try.func23, Try.ntmps23
  go_wp2
  generalize (w.alloc (.cells #[.string n, .slice a l c] 31)).alloc (.cells #[.string n, .slice b l d] 31) = w0 at *
  go_loopw [5] (fun i wr => ∃ k : Nat, i = .int .i64 k ∧ k ≤ l ∧ Hid (Below w0.heap.size w0 wr)) (fun i _ => l - (intOf i).toNat)
  case atStart => exact ⟨0, rfl, Nat.zero_le _, Below.refl _ _⟩
  case round =>
    obtain ⟨k, rfl, hk, HBl⟩ := hrel
    have y1 := ekeep HBl.out HY.out
    have z1 := ekeep HBl.out HZ.out
    by_cases hlt : k < l
    · obtain ⟨x, hx⟩ : ∃ x, fs[k]? = some x := ⟨_, List.getElem?_eq_getElem (by rw [Hl.out]; exact hlt)⟩
      obtain ⟨A, rfl, c0, c1, _⟩ := (HA.out.below HBl.out) k x hx
      obtain ⟨B, rfl, d0, d1, _⟩ := (HBr.out.below HBl.out) k x hx
      obtain ⟨xn, xk⟩ := x
      dsimp only at c0 c1 d0 d1
      unfold efld at c1 d1
      have hk0 : (0 : Int) ≤ (k : Int) := by omega
      have hk1 : (k : Int) < (l : Int) := by omega
      clear hx
      go_wp2_with fail
      go_quiet (fail)
      have HB1 : Hid (Below w0.heap.size w0 (wr.drewN nq)) := vbelow_drewN HBl.out _
      go_wp2_with fail
      go_roundw
      case rel => exact ⟨k + 1, by go_num, by omega, HB1⟩
      case measure => simp [intOf]; omega
    · go_wp2
      go_ret
      exact ⟨rfl, HB0.out.trans (HBl.out.mono HB0.out.size)⟩

end Go.Proofs.Ytppgecbjdkfohaa

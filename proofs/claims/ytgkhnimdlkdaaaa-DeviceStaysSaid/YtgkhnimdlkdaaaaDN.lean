/- The statement DeviceFuse, its walk. -/
import Derived.Test.YtgkhnimdlkdaaaaDM
namespace Go.Proofs.Ytgkhnimdlkdaaaa
open Go.RowKit Go.Lib Go.Maps Go.ChangeMaps

/-- The device with a fuse of F, behind k Syncs. -/
def fuM (F k : Nat) : DevM := { room := 4194304, acts := (min k F : Nat), fuse := ((F - k : Nat) : Int), down := decide (F < k), files := fun _ => none, gone := fun _ => none }

theorem sync_fu (F k : Nat) : syncM (fuM F k) = (fuM F (k + 1), if k < F then 0 else 13) := by
  by_cases h : k < F
  · have e1 : ¬ F < k := by omega
    have e2 : (((F - k : Nat) : Int) == 0) = false := by simp; omega
    have e3 : min k F = k := by omega
    have e4 : min (k + 1) F = k + 1 := by omega
    have e5 : ¬ F < k + 1 := by omega
    have e6 : (0 : Int) < ((F - k : Nat) : Int) := by omega
    have e7 : ((F - k : Nat) : Int) - 1 = ((F - (k + 1) : Nat) : Int) := by omega
    simp only [syncM, fuM, settleM, fuseLess, e1, e2, e3, e4, e5, if_pos h, if_pos e6, e7, decide_false, Bool.or_self, Bool.false_eq_true, if_false, Option.map_none]
    rfl
  · have e2 : (((F - k : Nat) : Int) == 0) = true := by simp; omega
    have e3 : min k F = F := by omega
    have e4 : min (k + 1) F = F := by omega
    have e5 : F < k + 1 := by omega
    have e6 : F - k = F - (k + 1) := by omega
    rw [e6] at e2
    simp only [syncM, fuM, e2, Bool.or_true, if_true, if_neg h, e3, e4, e5, decide_true, e6]

section
variable {S : Prop} {w w' : World} {own own' : Owner} {db fb rb : Nat} {D D' E E' : DataW Unit} {n n' : Nat} {m : DevM}

theorem Dev.fused (h : Dev S w own db fb rb D E n m) {x : Int} (hx : -9223372036854775808 ≤ x ∧ x ≤ 9223372036854775807) :
    Dev S (w.setCell ⟨db, 4, none⟩ (.int .i64 x)) own db fb rb D E n { m with fuse := x } ∧ Step own own w (w.setCell ⟨db, 4, none⟩ (.int .i64 x)) :=
  ⟨h.setBlk (by simp [World.setCell]) (fun b _ hb => Below.heap_setCell _ _ _ _ hb) (by rw [setCell_blk h.blk]; rfl) h.racts hx,
   Step.of_fr ((Fr.refl _ _).setCell _ _ (fun _ => by simp [h.odb]))⟩

end

set_option maxHeartbeats 4000000 in
set_option maxRecDepth 100000 in
theorem fuse_walk (x : Int) (a : Option Addr) (c : Nat) (os : List OpV) (w : World) (hx0 : 0 ≤ x) (hx1 : x ≤ 255) (hos : ORow w a os) (hl : os.length ≤ maxLen) :
    Calls Try.prog 6 #[.int .u8 x, .slice a os.length c] w (Fine w) := by
  have Hos := Lib.hid hos
  have hl' : Hid (os.length ≤ maxLen) := hl
  obtain ⟨l, hll⟩ : ∃ l, os.length = l := ⟨_, rfl⟩
  have Hl := Lib.hid hll
  rw [hll] at hl ⊢
  unfold maxLen at hl
  clear hos hll
  go_enter Try.func6, Try.ntmps6
  go_wp2_with fail
  refine (head_calls w).mono ?_
  rintro e w1 ⟨rfl, hb1⟩
  have Hb1 := Lib.hid hb1
  clear hb1
  go_wp2_with fail
  refine (Dev.new True w1 4194304 (by omega)).mono ?_
  rintro e w2 ⟨rfl, own2, h2, st2⟩
  have H2 := Lib.hid h2
  have ST2 := Lib.hid st2
  clear h2 st2
  go_wp2_with fail
  have hg := great_calls a c os w2 ((Hos.out.below Hb1.out).below ST2.out.below) hl'.out
  rw [Hl.out] at hg
  refine hg.mono ?_
  rintro e w3 ⟨g, rfl, hgl, hb3⟩
  have Hb3 := Lib.hid hb3
  have Hgl := Lib.hid hgl
  clear hg hgl hb3
  cases g with
  | true =>
    go_wp2_with fail
    go_ret
    exact ⟨rfl, Hb1.out.trans ((ST2.out.below.trans (Hb3.out.mono ST2.out.fr.size)).mono Hb1.out.size)⟩
  | false =>
    go_wp2_with fail
    obtain ⟨F, hF⟩ : ∃ F : Nat, x % 20 = (F : Int) := ⟨(x % 20).toNat, by omega⟩
    have hF20 : F < 20 := by omega
    have Hl300 : Hid (l ≤ 300) := Hgl.out trivial
    have h3 := H2.out.below Hb3.out
    have c4 := h3.c4
    have f4 := h3.f 4
    have hfu := h3.fused (x := (F : Int)) (by omega)
    have H4 : Hid (Dev True (w3.setCell ⟨w1.heap.size + 2, 4, none⟩ (.int .i64 (F : Int))) own2 (w1.heap.size + 2) w1.heap.size (w1.heap.size + 1) (.map []) (.map []) 0 (fuM F 0)) := by
      have e1 : fuM F 0 = { newM 4194304 with fuse := (F : Int) } := by simp [fuM, newM]
      rw [e1]
      exact hfu.1
    have HS4 : Hid (Step (fun _ => none) own2 w1 (w3.setCell ⟨w1.heap.size + 2, 4, none⟩ (.int .i64 (F : Int)))) := (ST2.out.trans (below_step own2 Hb3.out)).trans hfu.2
    clear h3 hfu Hgl
    rw [hF]
    refine (fuse_calls _ (F : Int) _ w3 c4 f4).mono ?_
    rintro e w4 ⟨rfl, rfl⟩
    clear c4 f4
    generalize w3.setCell ⟨w1.heap.size + 2, 4, none⟩ (.int .i64 (F : Int)) = w4 at *
    go_wp2_with fail
    go_loopw [7] (fun i wr => ∃ (k : Nat) (E : DataW Unit), k ≤ l ∧ i = .int .i64 k ∧ Hid (Dev True wr own2 (w1.heap.size + 2) w1.heap.size (w1.heap.size + 1) (.map []) E 0 (fuM F k)) ∧ Hid (Step (fun _ => none) own2 w1 wr)) (fun i _ => l - (intOf i).toNat)
    case atStart => exact ⟨0, _, Nat.zero_le _, rfl, H4, HS4⟩
    case round =>
      obtain ⟨k, E, hk, rfl, HD, HS⟩ := hrel
      by_cases hlt : k < l
      · have hsy := HD.out.sync (by have := Hl300.out; show ((min k F : Nat) : Int) ≤ _; omega)
        rw [sync_fu] at hsy
        dsimp only at hsy
        have c3 := HD.out.c3
        by_cases hkF : k < F
        · have e3 : (fuM F k).acts = (k : Int) := by show ((min k F : Nat) : Int) = _; omega
          have d1 : decide ((k : Int) = (F : Int)) = false := by simp; omega
          have d2 : ((k : Int) == (F : Int)) = false := by simp; omega
          rw [e3] at c3
          rw [if_pos hkF] at hsy
          clear e3
          go_wp2_with fail
          refine (acts_calls _ (k : Int) _ c3).mono ?_
          rintro e w5 ⟨rfl, rfl⟩
          clear c3
          go_wp2_with fail
          refine hsy.mono ?_
          rintro e w6 ⟨rfl, E6, h6, st6⟩
          have H6 := Lib.hid h6
          have HS6 := Lib.hid (HS.out.trans st6)
          have c3 : w6.cell? ⟨w1.heap.size + 2, 3, none⟩ = some (.int .i64 ((k : Int) + 1)) := by
            have h7 := h6.c3
            have e7 : (fuM F (k + 1)).acts = (k : Int) + 1 := by show ((min (k + 1) F : Nat) : Int) = _; omega
            rwa [e7] at h7
          have c5 : w6.cell? ⟨w1.heap.size + 2, 5, none⟩ = some (.bool false) := by
            have h7 := h6.c5
            have e7 : (fuM F (k + 1)).down = false := by show decide (F < k + 1) = _; simp; omega
            rwa [e7] at h7
          clear h6 st6 hsy
          go_wp2_with fail
          refine (down_calls _ false _ c5).mono ?_
          rintro e w7 ⟨rfl, rfl⟩
          clear c5
          go_wp2_with fail
          refine (acts_calls _ ((k : Int) + 1) _ c3).mono ?_
          rintro e w7 ⟨rfl, rfl⟩
          clear c3
          go_wp2_with fail
          go_roundw
          case rel => exact ⟨k + 1, E6, by omega, by go_num, H6, HS6⟩
          case measure => simp [intOf]; omega
        · have e3 : (fuM F k).acts = (F : Int) := by show ((min k F : Nat) : Int) = _; omega
          rw [e3] at c3
          rw [if_neg hkF] at hsy
          clear e3
          go_wp2_with fail
          refine (acts_calls _ (F : Int) _ c3).mono ?_
          rintro e w5 ⟨rfl, rfl⟩
          clear c3
          go_wp2_with fail
          refine hsy.mono ?_
          rintro e w6 ⟨rfl, E6, h6, st6⟩
          have H6 := Lib.hid h6
          have HS6 := Lib.hid (HS.out.trans st6)
          have c5 : w6.cell? ⟨w1.heap.size + 2, 5, none⟩ = some (.bool true) := by
            have h7 := h6.c5
            have e7 : (fuM F (k + 1)).down = true := by show decide (F < k + 1) = _; simp; omega
            rwa [e7] at h7
          clear h6 st6 hsy
          go_wp2_with fail
          refine (down_calls _ true _ c5).mono ?_
          rintro e w7 ⟨rfl, rfl⟩
          clear c5
          go_wp2_with fail
          go_roundw
          case rel => exact ⟨k + 1, E6, by omega, by go_num, H6, HS6⟩
          case measure => simp [intOf]; omega
      · obtain rfl : k = l := by omega
        have ecr : crashM [] (fuM F k) = emptyM 4194304 (min k F : Nat) := by simp [crashM, fuM, emptyM, crashFiles]
        have hcr := HD.out.crash trivial (by omega) (kv := .slice none 0 0) (ks := []) (Or.inl ⟨rfl, rfl⟩) (by simp)
        rw [ecr] at hcr
        clear ecr
        go_wp2_with fail
        refine hcr.mono ?_
        rintro e w5 ⟨rfl, own5, D5, h5, st5⟩
        have hap := h5.append (by omega) (by show ((min k F : Nat) : Int) ≤ _; omega) (s := ⟨#[97]⟩) (by unfold maxLen; decide) (bv := .slice none 0 0) (bs := []) (Or.inl ⟨rfl, rfl⟩)
        rw [(h5.size_empty).1, (h5.size_empty).2, append_empty (by decide) (by decide) (by decide)] at hap
        dsimp only at hap
        have HS5 := Lib.hid (HS.out.trans st5)
        clear h5 st5 hcr
        go_wp2_with fail
        refine hap.mono ?_
        rintro e w6 ⟨rfl, own6, D6, h6, st6⟩
        have H6 := Lib.hid h6
        have HS6 := Lib.hid (HS5.out.trans st6)
        have c5 := h6.c5
        clear h6 st6 hap
        go_wp2_with fail
        refine (down_calls _ false _ c5).mono ?_
        rintro e w7 ⟨rfl, rfl⟩
        clear c5
        go_wp2_with fail
        have hna := H6.out.names (by omega)
        refine hna.mono ?_
        rintro e w7 ⟨v, ss, rfl, hperm, hrow, hb7⟩
        have hlen := H6.out.names_len hperm
        rw [(H6.out.size_one).1] at hlen
        obtain ⟨av, cv, rfl⟩ := row_slice hrow
        rw [hlen]
        have HS7 := Lib.hid (HS6.out.trans (below_step own6 hb7))
        clear hlen hrow hperm hb7 hna
        go_wp2_with fail
        go_ret
        exact ⟨rfl, Hb1.out.trans (HS7.out.below.mono Hb1.out.size)⟩

end Go.Proofs.Ytgkhnimdlkdaaaa

/- The live question of the layer's statements is answered true. -/
import Derived.Test.YtppgecbjdkfohaaEDe
namespace Go.Proofs.Ytppgecbjdkfohaa
open Go.RowKit Go.Lib Go.Op

abbrev nA : ByteArray := ⟨#[97]⟩
def hFS : List FIn := [(⟨#[120]⟩, 1), (⟨#[121]⟩, 2)]
def hVS : List VIn := [(1, 1, ⟨#[]⟩), (2, 0, ⟨#[116]⟩)]

theorem head_right : rightE (pe 3 0 1 nA hVS) = true := by decide +kernel
theorem head_len : (putE (pe 3 0 1 nA hVS)).length = 11 := by
  rw [putE_right head_right]
  have e : bodyE (pe 3 0 1 nA hVS) = digsN 3 ++ (digsN 0 ++ (digsN 1 ++ (digsN 1 ++ ([97] ++ (digsN 2 ++ (putV ⟨1, 1, []⟩ ++ (putV ⟨2, 0, [116]⟩ ++ []))))))) := rfl
  rw [e, digsN_lt (by decide), digsN_lt (by decide), digsN_lt (by decide), digsN_lt (by decide), putV_1 (by decide) (by decide), show zigN 1 = 2 from rfl, digsN_lt (by decide), putV_2 (by decide)]
  rfl
theorem head_field : fieldI hFS ⟨#[121]⟩ = (1, 2) := by decide +kernel
theorem head_schema : schemaB nA hFS = true := by decide +kernel
theorem head_fits1 (a : Option Addr) (c : Nat) : fitsI [⟨nA, a, c, hFS⟩] nA hVS = 0 := by
  unfold fitsI
  rw [idx_hit (k := 0) (x := ⟨nA, a, c, hFS⟩) rfl (show nameIs nA nA = true by decide +kernel) (fun j y hj => by omega)]
  have : kindsB hVS hFS = true := by decide +kernel
  simp [this]
theorem head_fits2 : fitsI [] nA hVS = 12 := rfl
theorem head_fits3 (a : Option Addr) (c : Nat) : fitsI [⟨nA, a, c, []⟩] nA hVS = 42 := by
  unfold fitsI
  rw [idx_hit (k := 0) (x := ⟨nA, a, c, []⟩) rfl (show nameIs nA nA = true by decide +kernel) (fun j y hj => by omega)]
  have : kindsB hVS [] = false := by decide +kernel
  simp [this]
theorem head_less1 : lessE 3 0 1 3 1 0 = true := by decide
theorem head_less2 : lessE 3 0 1 3 0 1 = false := by decide
theorem head_word1 : wordB [97, 95, 49] = true := by decide
theorem head_word2 : wordB [49, 97] = false := by decide

theorem pv_inj : ∀ {l m : List VIn}, l.map pv = m.map pv → l = m
  | [], [], _ => rfl
  | [], x :: m, h => by simp at h
  | x :: l, [], h => by simp at h
  | x :: l, y :: m, h => by
    simp only [List.map_cons, List.cons.injEq] at h
    obtain ⟨h1, h2⟩ := h
    obtain ⟨k, n, s⟩ := x
    obtain ⟨k', n', s'⟩ := y
    simp only [pv, PVal.mk.injEq] at h1
    obtain ⟨rfl, rfl, h3⟩ := h1
    obtain rfl : s = s' := by rw [← strB_of s, ← strB_of s', h3]
    rw [pv_inj h2]

/-- What head holds in memory: the schema, the event. -/
structure HS (w : World) (rf sb rv eb : Nat) (W : World) : Prop where
  s0 : W.cell? ⟨sb, 0, none⟩ = some (.string nA)
  s1 : W.cell? ⟨sb, 1, none⟩ = some (.slice (some ⟨rf, 0, none⟩) 2 2)
  fr : FRow W (some ⟨rf, 0, none⟩) hFS
  e0 : W.cell? ⟨eb, 0, none⟩ = some (.int .i64 3)
  e1 : W.cell? ⟨eb, 1, none⟩ = some (.int .i64 0)
  e2 : W.cell? ⟨eb, 2, none⟩ = some (.int .i64 1)
  e3 : W.cell? ⟨eb, 3, none⟩ = some (.string nA)
  e4 : W.cell? ⟨eb, 4, none⟩ = some (.slice (some ⟨rv, 0, none⟩) 2 2)
  vr : VRow W (some ⟨rv, 0, none⟩) hVS
  hb : Below w.heap.size w W

theorem HS.below {w : World} {rf sb rv eb : Nat} {W W' : World} (h : HS w rf sb rv eb W) (hb : Below W.heap.size W W') : HS w rf sb rv eb W' :=
  ⟨ekeep hb h.s0, ekeep hb h.s1, h.fr.below hb, ekeep hb h.e0, ekeep hb h.e1, ekeep hb h.e2, ekeep hb h.e3, ekeep hb h.e4, h.vr.below hb, h.hb.trans (hb.mono h.hb.size)⟩

/-- And the event that was read. -/
structure HW (w : World) (rf sb rv eb fb : Nat) (ra : Option Addr) (rc : Nat) (W : World) : Prop where
  h : HS w rf sb rv eb W
  g0 : W.cell? ⟨fb, 0, none⟩ = some (.int .i64 3)
  g1 : W.cell? ⟨fb, 1, none⟩ = some (.int .i64 0)
  g2 : W.cell? ⟨fb, 2, none⟩ = some (.int .i64 1)
  g3 : W.cell? ⟨fb, 3, none⟩ = some (.string nA)
  g4 : W.cell? ⟨fb, 4, none⟩ = some (.slice ra 2 rc)
  vr : VRow W ra hVS

theorem HW.below {w : World} {rf sb rv eb fb : Nat} {ra : Option Addr} {rc : Nat} {W W' : World} (h : HW w rf sb rv eb fb ra rc W) (hb : Below W.heap.size W W') : HW w rf sb rv eb fb ra rc W' :=
  ⟨h.h.below hb, ekeep hb h.g0, ekeep hb h.g1, ekeep hb h.g2, ekeep hb h.g3, ekeep hb h.g4, h.vr.below hb⟩
theorem HW.cells {w : World} {rf sb rv eb fb : Nat} {ra : Option Addr} {rc : Nat} {W : World} (h : HW w rf sb rv eb fb ra rc W) :
    W.cell? ⟨sb, 0, none⟩ = some (.string nA) ∧ W.cell? ⟨sb, 1, none⟩ = some (.slice (some ⟨rf, 0, none⟩) 2 2) ∧ W.cell? ⟨eb, 0, none⟩ = some (.int .i64 3) ∧ W.cell? ⟨eb, 1, none⟩ = some (.int .i64 0) ∧ W.cell? ⟨eb, 2, none⟩ = some (.int .i64 1) ∧ W.cell? ⟨eb, 3, none⟩ = some (.string nA) ∧ W.cell? ⟨eb, 4, none⟩ = some (.slice (some ⟨rv, 0, none⟩) 2 2) ∧
      W.cell? ⟨fb, 0, none⟩ = some (.int .i64 3) ∧ W.cell? ⟨fb, 1, none⟩ = some (.int .i64 0) ∧ W.cell? ⟨fb, 2, none⟩ = some (.int .i64 1) ∧ W.cell? ⟨fb, 3, none⟩ = some (.string nA) ∧ W.cell? ⟨fb, 4, none⟩ = some (.slice ra 2 rc) :=
  ⟨h.h.s0, h.h.s1, h.h.e0, h.h.e1, h.h.e2, h.h.e3, h.h.e4, h.g0, h.g1, h.g2, h.g3, h.g4⟩

theorem addr0 (b q : Nat) : ((⟨b, 0, none⟩ : Addr).add q) = ⟨b, q, none⟩ := by unfold Addr.add; split <;> simp_all
theorem nA_size : nA.size ≤ maxLen := size_small (by decide)

theorem srow_new (W : World) (nm : ByteArray) (fa : Option Addr) (fc : Nat) (fs : List FIn) (hf : FRow W fa fs) (hl : fs.length ≤ maxLen) (hn : nm.size ≤ maxLen) : SRow (W.alloc (.cells #[.string nm, .slice fa fs.length fc] 31)) (some ⟨W.heap.size, 0, none⟩) [⟨nm, fa, fc, fs⟩] := fun j x hj => by
  match j, hj with
  | 0, hj =>
    simp at hj
    subst hj
    exact ⟨_, rfl, by rw [addr0]; exact new_cell _ _ _ rfl rfl, by unfold efld; rw [addr0]; exact new_cell _ _ _ rfl rfl, hf.below ((Below.refl _ _).alloc (Nat.le_refl _) _), hl, hn⟩
  | j + 1, hj => simp at hj

theorem HS.start (w : World) : HS w w.heap.size (w.heap.size + 1) (w.heap.size + 1 + 1) (w.heap.size + 1 + 1 + 1)
    ((((w.alloc (.cells #[.string ⟨#[120]⟩, .int .i64 1, .string ⟨#[121]⟩, .int .i64 2] 55)).alloc (.cells #[.string nA, .slice (some ⟨w.heap.size, 0, none⟩) 2 2] 31)).alloc (.cells #[.int .i64 1, .int .i64 1, .string ⟨#[]⟩, .int .i64 2, .int .i64 0, .string ⟨#[116]⟩] 52)).alloc (.cells #[.int .i64 3, .int .i64 0, .int .i64 1, .string nA, .slice (some ⟨w.heap.size + 1 + 1, 0, none⟩) 2 2] 25)) where
  s0 := ekeepAl _ (ekeepAl _ (new_cell _ _ _ (by simp) rfl))
  s1 := ekeepAl _ (ekeepAl _ (new_cell _ _ _ (by simp) rfl))
  fr := fun j x hj => by
    match j, hj with
    | 0, hj => simp [hFS] at hj; subst hj; exact ⟨_, rfl, by rw [addr0]; exact ekeepAl _ (ekeepAl _ (ekeepAl _ (new_cell _ _ _ rfl rfl))), by unfold efld; rw [addr0]; exact ekeepAl _ (ekeepAl _ (ekeepAl _ (new_cell _ _ _ rfl rfl))), size_small (by dsimp only; decide)⟩
    | 1, hj => simp [hFS] at hj; subst hj; exact ⟨_, rfl, by rw [addr0]; exact ekeepAl _ (ekeepAl _ (ekeepAl _ (new_cell _ _ _ rfl rfl))), by unfold efld; rw [addr0]; exact ekeepAl _ (ekeepAl _ (ekeepAl _ (new_cell _ _ _ rfl rfl))), size_small (by dsimp only; decide)⟩
    | j + 2, hj => simp [hFS] at hj
  e0 := new_cell _ _ _ (by simp) rfl
  e1 := new_cell _ _ _ (by simp) rfl
  e2 := new_cell _ _ _ (by simp) rfl
  e3 := new_cell _ _ _ (by simp) rfl
  e4 := new_cell _ _ _ (by simp) rfl
  vr := fun j x hj => by
    match j, hj with
    | 0, hj => simp [hVS] at hj; subst hj; exact ⟨_, rfl, by rw [addr0]; exact ekeepAl _ (new_cell _ _ _ (by simp) rfl), by unfold efld; rw [addr0]; exact ekeepAl _ (new_cell _ _ _ (by simp) rfl), by unfold efld; rw [addr0]; exact ekeepAl _ (new_cell _ _ _ (by simp) rfl), size_small (by dsimp only; decide)⟩
    | 1, hj => simp [hVS] at hj; subst hj; exact ⟨_, rfl, by rw [addr0]; exact ekeepAl _ (new_cell _ _ _ (by simp) rfl), by unfold efld; rw [addr0]; exact ekeepAl _ (new_cell _ _ _ (by simp) rfl), by unfold efld; rw [addr0]; exact ekeepAl _ (new_cell _ _ _ (by simp) rfl), size_small (by dsimp only; decide)⟩
    | j + 2, hj => simp [hVS] at hj
  hb := by repeat' (first | exact Below.refl _ _ | refine Below.alloc ?_ (by simp <;> omega) _)

/-- What Get leaves of its bytes. -/
def HGot (w : World) (e : Ending) (w' : World) : Prop := ∃ (a : Option Addr) (c : Nat), e = .returned (.tuple #[evV 3 0 1 nA (.slice a 2 c), .bool true]) ∧ VRow w' a hVS ∧ Below w.heap.size w w'
theorem HGot.of {w : World} {e : Ending} {w' : World} (h : GetE w (some (pe 3 0 1 nA hVS)) e w') : HGot w e w' := by
  obtain ⟨n, a, c, vs, he, h1, _, h2, h3, h4⟩ := h
  obtain rfl : n = nA := by
    rw [← strB_of n, h1]; rfl
  obtain rfl : vs = hVS := pv_inj h2
  exact ⟨a, c, he, h3, h4⟩

set_option maxHeartbeats 8000000 in
set_option maxRecDepth 100000 in
theorem ehead_calls (w : World) : Calls Try.prog 14 #[] w fun e w' => e = .returned (.bool true) ∧ Below w.heap.size w w' := by
  have HS0 := Lib.hid (HS.start w)
  go_enter Try.func14, Try.ntmps14
  go_upto_region 3 with fail
  obtain ⟨W4, hW4⟩ : ∃ W4, W4 = ((((w.alloc (.cells #[.string ⟨#[120]⟩, .int .i64 1, .string ⟨#[121]⟩, .int .i64 2] 55)).alloc (.cells #[.string nA, .slice (some ⟨w.heap.size, 0, none⟩) 2 2] 31)).alloc (.cells #[.int .i64 1, .int .i64 1, .string ⟨#[]⟩, .int .i64 2, .int .i64 0, .string ⟨#[116]⟩] 52)).alloc (.cells #[.int .i64 3, .int .i64 0, .int .i64 1, .string nA, .slice (some ⟨w.heap.size + 1 + 1, 0, none⟩) 2 2] 25)) := ⟨_, rfl⟩
  rw [← hW4] at HS0 ⊢
  clear hW4
  generalize w.heap.size + 1 + 1 + 1 = eb at *
  generalize w.heap.size + 1 + 1 = rv at *
  generalize w.heap.size + 1 = sb at *
  obtain ⟨rf, hrf⟩ : ∃ rf, rf = w.heap.size := ⟨_, rfl⟩
  have HS1 : Hid (HS w rf sb rv eb W4) := by rw [hrf]; exact HS0
  clear HS0 hrf
  have e0 := HS1.out.e0
  have e1 := HS1.out.e1
  have e2 := HS1.out.e2
  have e3 := HS1.out.e3
  have e4 := HS1.out.e4
  have HP := Lib.hid (eput_calls 3 0 1 nA (some ⟨rv, 0, none⟩) 2 hVS W4 nA_size HS1.out.vr (by decide))
  have hlen := head_len
  have hget := getE_put head_right
  generalize putE (pe 3 0 1 nA hVS) = y at HP hlen hget
  go_upto_region 4 with (go_at_call 26; refine HP.out.mono ?_; rintro e w5 ⟨v5, rfl, hown5, hb5⟩)
  have HS5 := Lib.hid (HS1.out.below hb5)
  have hr5 := BRow.of_owns hown5
  obtain ⟨a5, c5, rfl, _, _⟩ := hr5.len
  have HGet := eget_calls w5 _ y hr5
  rw [hget] at HGet
  rw [hlen] at HGet ⊢
  have HG := Lib.hid (HGet.mono fun e w' h => HGot.of h)
  clear hown5 hb5 hr5 hlen hget HGet HP HS1 e0 e1 e2 e3 e4
  go_upto_region 5 with (go_at_call 30; refine HG.out.mono ?_; rintro e w6 ⟨a6, c6, rfl, hrow6, hb6⟩)
  have HW6 : Hid (HW w rf sb rv eb w6.heap.size a6 c6 (w6.alloc (.cells #[.int .i64 3, .int .i64 0, .int .i64 1, .string nA, .slice a6 2 c6] 25))) :=
    ⟨(HS5.out.below hb6).below ((Below.refl _ _).alloc (Nat.le_refl _) _), new_cell _ _ _ rfl rfl, new_cell _ _ _ rfl rfl, new_cell _ _ _ rfl rfl, new_cell _ _ _ rfl rfl, new_cell _ _ _ rfl rfl, hrow6.below ((Below.refl _ _).alloc (Nat.le_refl _) _)⟩
  obtain ⟨W7, hW7⟩ : ∃ W, W = w6.alloc (.cells #[.int .i64 3, .int .i64 0, .int .i64 1, .string nA, .slice a6 2 c6] 25) := ⟨_, rfl⟩
  rw [← hW7] at HW6 ⊢
  clear hW7 hrow6 hb6 HG HS5
  generalize w6.heap.size = fb at *
  have HFd := Lib.hid (field_calls nA (some ⟨rf, 0, none⟩) 2 hFS ⟨#[121]⟩ W7 HW6.out.h.fr (by decide))
  rw [head_field] at HFd
  obtain ⟨s0, s1, e0, e1, e2, e3, e4, g0, g1, g2, g3, g4⟩ := HW6.out.cells
  go_upto_region 6 with (go_at_call 19; refine HFd.out.mono ?_; rintro e w8 ⟨rfl, hb8⟩)
  have HH := Lib.hid (HW6.out.below hb8)
  obtain ⟨s0', s1', e0', e1', e2', e3', e4', g0', g1', g2', g3', g4'⟩ := HH.out.cells
  clear s0 s1 e0 e1 e2 e3 e4 g0 g1 g2 g3 g4 hb8 HW6 HFd
  have CS : Hid (∀ W : World, Hid (HW w rf sb rv eb fb a6 c6 W) → Calls Try.prog 21 #[.agg #[.string nA, .slice (some ⟨rf, 0, none⟩) 2 2]] (W) fun e w' => e = .returned (.bool true) ∧ Hid (HW w rf sb rv eb fb a6 c6 w')) :=
    fun W hW => by
      have h := schema_calls nA (some ⟨rf, 0, none⟩) 2 hFS W nA_size hW.out.h.fr (by decide)
      rw [head_schema] at h
      exact h.mono fun e w' ⟨h1, h2⟩ => ⟨h1, hW.out.below h2⟩
  have CF1 : Hid (∀ W : World, Hid (HW w rf sb rv eb fb a6 c6 W) → Calls Try.prog 24 #[.slice (some ⟨W.heap.size, 0, none⟩) 1 1, evV 3 0 1 nA (.slice (some ⟨rv, 0, none⟩) 2 2)] (W.alloc (.cells #[.string nA, .slice (some ⟨rf, 0, none⟩) 2 2] 31)) fun e w' => e = .returned (.int .i64 0) ∧ Hid (HW w rf sb rv eb fb a6 c6 w')) :=
    fun W hW => by
      have hb : Below W.heap.size W (W.alloc (.cells #[.string nA, .slice (some ⟨rf, 0, none⟩) 2 2] 31)) := (Below.refl _ _).alloc (Nat.le_refl _) _
      have h := fits_calls (some ⟨W.heap.size, 0, none⟩) 1 [⟨nA, some ⟨rf, 0, none⟩, 2, hFS⟩] 3 0 1 nA (some ⟨rv, 0, none⟩) 2 hVS (W.alloc (.cells #[.string nA, .slice (some ⟨rf, 0, none⟩) 2 2] 31)) (srow_new W nA (some ⟨rf, 0, none⟩) 2 hFS hW.out.h.fr (by decide) nA_size) (show (1 : Nat) ≤ maxLen by decide) nA_size (hW.out.h.vr.below hb) (by decide)
      rw [if_pos head_right, head_fits1] at h
      exact h.mono fun e w' ⟨h1, h2⟩ => ⟨h1, (hW.out.below hb).below h2⟩
  have CF2 : Hid (∀ W : World, Hid (HW w rf sb rv eb fb a6 c6 W) → Calls Try.prog 24 #[.slice none 0 0, evV 3 0 1 nA (.slice (some ⟨rv, 0, none⟩) 2 2)] (W) fun e w' => e = .returned (.int .i64 12) ∧ Hid (HW w rf sb rv eb fb a6 c6 w')) :=
    fun W hW => by
      have h := fits_calls none 0 [] 3 0 1 nA (some ⟨rv, 0, none⟩) 2 hVS W (fun j x hj => by simp at hj) (by decide) nA_size hW.out.h.vr (by decide)
      rw [if_pos head_right, head_fits2] at h
      exact h.mono fun e w' ⟨h1, h2⟩ => ⟨h1, hW.out.below h2⟩
  have CF3 : Hid (∀ W : World, Hid (HW w rf sb rv eb fb a6 c6 W) → Calls Try.prog 24 #[.slice (some ⟨W.heap.size, 0, none⟩) 1 1, evV 3 0 1 nA (.slice (some ⟨rv, 0, none⟩) 2 2)] (W.alloc (.cells #[.string nA, .slice none 0 0] 31)) fun e w' => e = .returned (.int .i64 42) ∧ Hid (HW w rf sb rv eb fb a6 c6 w')) :=
    fun W hW => by
      have hb : Below W.heap.size W (W.alloc (.cells #[.string nA, .slice none 0 0] 31)) := (Below.refl _ _).alloc (Nat.le_refl _) _
      have h := fits_calls (some ⟨W.heap.size, 0, none⟩) 1 [⟨nA, none, 0, []⟩] 3 0 1 nA (some ⟨rv, 0, none⟩) 2 hVS (W.alloc (.cells #[.string nA, .slice none 0 0] 31)) (srow_new W nA none 0 [] (fun j x hj => by simp at hj) (by decide) nA_size) (show (1 : Nat) ≤ maxLen by decide) nA_size (hW.out.h.vr.below hb) (by decide)
      rw [if_pos head_right, head_fits3] at h
      exact h.mono fun e w' ⟨h1, h2⟩ => ⟨h1, (hW.out.below hb).below h2⟩
  have CSm : Hid (∀ W : World, Hid (HW w rf sb rv eb fb a6 c6 W) → Calls Try.prog 32 #[evV 3 0 1 nA (.slice (some ⟨rv, 0, none⟩) 2 2), evV 3 0 1 nA (.slice a6 2 c6)] (W) fun e w' => e = .returned (.bool true) ∧ Hid (HW w rf sb rv eb fb a6 c6 w')) :=
    fun W hW => by
      exact (sameOne_calls 3 0 1 nA (some ⟨rv, 0, none⟩) 2 a6 c6 hVS W hW.out.h.vr hW.out.vr (by decide)).mono fun e w' ⟨h1, h2⟩ => ⟨h1, hW.out.below h2⟩
  have CL1 : Hid (∀ W : World, Hid (HW w rf sb rv eb fb a6 c6 W) → Calls Try.prog 33 #[evV 3 0 1 nA (.slice (some ⟨rv, 0, none⟩) 2 2), evV 3 1 0 ⟨#[]⟩ (.slice none 0 0)] (W) fun e w' => e = .returned (.bool true) ∧ Hid (HW w rf sb rv eb fb a6 c6 w')) :=
    fun W hW => by
      have h := less_calls 3 0 1 nA (.slice (some ⟨rv, 0, none⟩) 2 2) 3 1 0 ⟨#[]⟩ (.slice none 0 0) W
      rw [head_less1] at h
      exact h.mono fun e w' ⟨h1, h2⟩ => ⟨h1, hW.out.below h2⟩
  have CL2 : Hid (∀ W : World, Hid (HW w rf sb rv eb fb a6 c6 W) → Calls Try.prog 33 #[evV 3 0 1 nA (.slice (some ⟨rv, 0, none⟩) 2 2), evV 3 0 1 nA (.slice (some ⟨rv, 0, none⟩) 2 2)] (W) fun e w' => e = .returned (.bool false) ∧ Hid (HW w rf sb rv eb fb a6 c6 w')) :=
    fun W hW => by
      have h := less_calls 3 0 1 nA (.slice (some ⟨rv, 0, none⟩) 2 2) 3 0 1 nA (.slice (some ⟨rv, 0, none⟩) 2 2) W
      rw [head_less2] at h
      exact h.mono fun e w' ⟨h1, h2⟩ => ⟨h1, hW.out.below h2⟩
  have CW1 : Hid (∀ W : World, Hid (HW w rf sb rv eb fb a6 c6 W) → Calls Try.prog 28 #[.string ⟨#[97, 95, 49]⟩] (W) fun e w' => e = .returned (.bool true) ∧ Hid (HW w rf sb rv eb fb a6 c6 w')) :=
    fun W hW => by
      exact (word_calls ⟨#[97, 95, 49]⟩ W (size_small (by decide))).mono fun e w' ⟨h1, h2⟩ => ⟨h1.trans (by rw [show wordB (⟨#[97, 95, 49]⟩ : ByteArray).data.toList = true from head_word1]), hW.out.below h2⟩
  have CW2 : Hid (∀ W : World, Hid (HW w rf sb rv eb fb a6 c6 W) → Calls Try.prog 28 #[.string ⟨#[49, 97]⟩] (W) fun e w' => e = .returned (.bool false) ∧ Hid (HW w rf sb rv eb fb a6 c6 w')) :=
    fun W hW => by
      exact (word_calls ⟨#[49, 97]⟩ W (size_small (by decide))).mono fun e w' ⟨h1, h2⟩ => ⟨h1.trans (by rw [show wordB (⟨#[49, 97]⟩ : ByteArray).data.toList = false from head_word2]), hW.out.below h2⟩
  go_wp2_with (first
    | (go_at_call 21; (with_reducible refine (CS.out _ ?_).mono ?_); (exact HH); rintro e wq ⟨rfl, HH⟩; obtain ⟨s0', s1', e0', e1', e2', e3', e4', g0', g1', g2', g3', g4'⟩ := HH.out.cells; have k0 := ekeepAl (.cells #[.string nA, .slice (some ⟨rf, 0, none⟩) 2 2] 31) e0'; have k1 := ekeepAl (.cells #[.string nA, .slice (some ⟨rf, 0, none⟩) 2 2] 31) e1'; have k2 := ekeepAl (.cells #[.string nA, .slice (some ⟨rf, 0, none⟩) 2 2] 31) e2'; have k3 := ekeepAl (.cells #[.string nA, .slice (some ⟨rf, 0, none⟩) 2 2] 31) e3'; have k4 := ekeepAl (.cells #[.string nA, .slice (some ⟨rf, 0, none⟩) 2 2] 31) e4')
    | (go_at_call 24; (with_reducible refine (CF1.out _ ?_).mono ?_); (exact HH); rintro e wq ⟨rfl, HH⟩; obtain ⟨s0', s1', e0', e1', e2', e3', e4', g0', g1', g2', g3', g4'⟩ := HH.out.cells)
    | (go_at_call 24; (with_reducible refine (CF2.out _ ?_).mono ?_); (exact HH); rintro e wq ⟨rfl, HH⟩; obtain ⟨s0', s1', e0', e1', e2', e3', e4', g0', g1', g2', g3', g4'⟩ := HH.out.cells; have k0 := ekeepAl (.cells #[.string nA, .slice none 0 0] 31) e0'; have k1 := ekeepAl (.cells #[.string nA, .slice none 0 0] 31) e1'; have k2 := ekeepAl (.cells #[.string nA, .slice none 0 0] 31) e2'; have k3 := ekeepAl (.cells #[.string nA, .slice none 0 0] 31) e3'; have k4 := ekeepAl (.cells #[.string nA, .slice none 0 0] 31) e4')
    | (go_at_call 24; (with_reducible refine (CF3.out _ ?_).mono ?_); (exact HH); rintro e wq ⟨rfl, HH⟩; obtain ⟨s0', s1', e0', e1', e2', e3', e4', g0', g1', g2', g3', g4'⟩ := HH.out.cells)
    | (go_at_call 32; (with_reducible refine (CSm.out _ ?_).mono ?_); (exact HH); rintro e wq ⟨rfl, HH⟩; obtain ⟨s0', s1', e0', e1', e2', e3', e4', g0', g1', g2', g3', g4'⟩ := HH.out.cells)
    | (go_at_call 33; (with_reducible refine (CL1.out _ ?_).mono ?_); (exact HH); rintro e wq ⟨rfl, HH⟩; obtain ⟨s0', s1', e0', e1', e2', e3', e4', g0', g1', g2', g3', g4'⟩ := HH.out.cells)
    | (go_at_call 33; (with_reducible refine (CL2.out _ ?_).mono ?_); (exact HH); rintro e wq ⟨rfl, HH⟩; obtain ⟨s0', s1', e0', e1', e2', e3', e4', g0', g1', g2', g3', g4'⟩ := HH.out.cells)
    | (go_at_call 28; (with_reducible refine (CW1.out _ ?_).mono ?_); (exact HH); rintro e wq ⟨rfl, HH⟩; obtain ⟨s0', s1', e0', e1', e2', e3', e4', g0', g1', g2', g3', g4'⟩ := HH.out.cells)
    | (go_at_call 28; (with_reducible refine (CW2.out _ ?_).mono ?_); (exact HH); rintro e wq ⟨rfl, HH⟩; obtain ⟨s0', s1', e0', e1', e2', e3', e4', g0', g1', g2', g3', g4'⟩ := HH.out.cells))
  go_ret
  exact ⟨rfl, HH.out.h.hb⟩

end Go.Proofs.Ytppgecbjdkfohaa

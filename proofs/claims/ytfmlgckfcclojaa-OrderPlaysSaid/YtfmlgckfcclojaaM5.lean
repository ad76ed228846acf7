/- Events: Equal of bytes; Get. | The live question of the layer's statements is answered true. | The statement EventWords, its walk. -/
import Derived.Test.YtfmlgckfcclojaaM4
namespace Go.Proofs.Ytfmlgckfcclojaa
open Go.RowKit Go.Lib Go.Op

theorem strB_beq (a b : List UInt8) : ((strB a).toList == (strB b).toList) = decide (a = b) := by
  rw [strB_toL, strB_toL]
  by_cases h : a = b
  · rw [decide_eq_true h, beq_iff_eq]; exact h
  · rw [decide_eq_false h, beq_eq_false_iff_ne]; exact h

set_option maxRecDepth 100000 in
theorem bequal_calls (w : World) (u v : Value) (xs ys : List UInt8) (hu : BRow w u xs) (hv : BRow w v ys) :
    Calls Try.prog 62 #[u, v] w fun e w' => e = .returned (.bool (decide (xs = ys))) ∧ w = w' := by
  have h1 := conv_brow hu
  have h2 := conv_brow hv
  have h3 := strB_beq xs ys
  generalize strB xs = a at *
  generalize strB ys = b at *
  generalize decide (xs = ys) = r at *
  clear hu hv
  go_enter Try.func62, Try.ntmps62
  go_wp2
  go_ret
  exact ⟨rfl, rfl⟩

theorem pe_eq {p : PEv} {n : ByteArray} {vs : List VIn} (h1 : n.data.toList = p.name) (h2 : vs.map pv = p.vals) : pe p.ts p.dep p.seq n vs = p := by
  cases p
  simp only at h1 h2
  simp only [pe, h1, h2]

theorem readE_vals (b : List UInt8) : (readE b).vals.length ≤ 8 := by
  unfold readE
  simp only [valsD_len]
  omega

/-- What Get leaves of an event's bytes, and of what is none. -/
def GotPost (w : World) (p : PEv) (e : Ending) (w' : World) : Prop := ∃ (n : ByteArray) (a : Option Addr) (c : Nat) (vs : List VIn), e = .returned (.tuple #[evV p.ts p.dep p.seq n (.slice a vs.length c), .bool true]) ∧ n.data.toList = p.name ∧ n.size ≤ 16 ∧ vs.map pv = p.vals ∧ VRow w' a vs ∧ Below w.heap.size w w'
def NotPost (w : World) (e : Ending) (w' : World) : Prop := e = .returned (.tuple #[evV 0 0 0 ⟨#[]⟩ (.slice none 0 0), .bool false]) ∧ Below w.heap.size w w'
def GetE (w : World) (o : Option PEv) (e : Ending) (w' : World) : Prop := match o with
  | some p => GotPost w p e w'
  | none => NotPost w e w'

theorem GetE.none {w w' : World} {o : Option PEv} (h : o = none) (hb : Below w.heap.size w w') : GetE w o (.returned (.tuple #[evV 0 0 0 ⟨#[]⟩ (.slice none 0 0), .bool false])) w' := by
  rw [h]; exact ⟨rfl, hb⟩
theorem GetE.some {w w' : World} {o : Option PEv} {p : PEv} {n : ByteArray} {a : Option Addr} {c q : Nat} {vs : List VIn} (h : o = some p) (hq : vs.length = q) (h1 : n.data.toList = p.name ∧ n.size ≤ 16 ∧ vs.map pv = p.vals) (hr : VRow w' a vs) (hb : Below w.heap.size w w') : GetE w o (.returned (.tuple #[evV p.ts p.dep p.seq n (.slice a q c), .bool true])) w' := by
  rw [h, ← hq]; exact ⟨n, a, c, vs, rfl, h1.1, h1.2.1, h1.2.2, hr, hb⟩

theorem VRow.set {w : World} {a : Option Addr} {vs : List VIn} (h : VRow w a vs) {b i : Nat} (x : Value) (hs : ∀ A, a = some A → A.block ≠ b) : VRow (w.setCell ⟨b, i, none⟩ x) a vs := fun j y hj => by
  obtain ⟨A, h1, h2, h3, h4, h5⟩ := h j y hj
  have hne := hs A h1
  have key : ∀ q : Addr, q.block = A.block → (w.setCell ⟨b, i, none⟩ x).cell? q = w.cell? q := fun q hq => World.cell?_setCell_other _ _ _ _ (fun e => hne (by rw [← hq, ← e]))
  exact ⟨A, h1, (key _ (fadd_block _ _)).trans h2, (key (efld A 3 j 1) (fadd_block _ _)).trans h3, (key (efld A 3 j 2) (fadd_block _ _)).trans h4, h5⟩

theorem getE_of {bs : List UInt8} (h1 : rightE (readE bs) = true) (h2 : putE (readE bs) = bs) : getE bs = some (readE bs) := by
  unfold getE; rw [h1, h2]; simp
theorem getE_wrong {bs : List UInt8} (h : rightE (readE bs) = false) : getE bs = none := by
  unfold getE; rw [h]; rfl
theorem getE_unlike {bs : List UInt8} (h : putE (readE bs) ≠ bs) : getE bs = none := by
  unfold getE; rw [decide_eq_false h, Bool.and_false]; rfl

theorem le_of_size {w W : World} {o : Obj} (h : Below (w.heap.size + 1) (w.alloc o) W) : w.heap.size + 1 ≤ W.heap.size := by have := h.size; simpa using this

theorem zkeep {w W : World} (hb : Below (w.heap.size + 1) (w.alloc (.cells zeroC 25)) W) :
    W.cell? ⟨w.heap.size, 0, none⟩ = some (.int .i64 0) ∧ W.cell? ⟨w.heap.size, 1, none⟩ = some (.int .i64 0) ∧ W.cell? ⟨w.heap.size, 2, none⟩ = some (.int .i64 0) ∧ W.cell? ⟨w.heap.size, 3, none⟩ = some (.string ⟨#[]⟩) ∧ W.cell? ⟨w.heap.size, 4, none⟩ = some (.slice none 0 0) ∧ ∀ i : Nat, W.frozen? ⟨w.heap.size, i, none⟩ = false := by
  have k : ∀ {i : Nat} {x : Value}, zeroC[i]? = some x → W.cell? ⟨w.heap.size, i, none⟩ = some x := fun {i x} hx => (hb.cell (p := ⟨w.heap.size, i, none⟩) (by dsimp only; omega)).trans (new_cell _ _ _ rfl hx)
  exact ⟨k rfl, k rfl, k rfl, k rfl, k rfl, fun i => (hb.frozen (p := ⟨w.heap.size, i, none⟩) (by dsimp only; omega)).trans (new_frozen _ _ _ rfl)⟩

set_option maxHeartbeats 4000000 in
set_option maxRecDepth 100000 in
theorem eget_calls (w : World) (v : Value) (bs : List UInt8) (h : BRow w v bs) : Calls Try.prog 30 #[v] w (GetE w (getE bs)) := by
  obtain ⟨av, cv, rfl, hcl, hcm⟩ := h.len
  have hb0 : Below w.heap.size w (w.alloc (.cells zeroC 25)) := (Below.refl _ _).alloc (Nat.le_refl _) _
  have HRd := Lib.hid (eread_calls (w.alloc (.cells zeroC 25)) _ bs (h.below hb0))
  have HRow := Lib.hid h
  have HB0 := Lib.hid hb0
  have hwrong := fun h => getE_wrong (bs := bs) h
  have hof := fun h1 h2 => getE_of (bs := bs) h1 h2
  have hun := fun h => getE_unlike (bs := bs) h
  have h8 := readE_vals bs
  generalize readE bs = p at *
  obtain ⟨l, hl⟩ : ∃ l, bs.length = l := ⟨_, rfl⟩
  rw [hl] at HRd HRow ⊢
  clear h hb0 hcl hcm hl
  go_enter Try.func30, Try.ntmps30
  go_wp2_with fail
  refine HRd.out.mono ?_
  rintro _ w1 ⟨n, a, c, vs, rfl, hn1, hn2, hvs, hrow, hsep, hb1⟩
  have HSep : Hid (∀ A, a = some A → A.block ≠ w.heap.size) := fun A hA => by have := hsep A hA; simp at this; omega
  have hpe := pe_eq hn1 hvs
  have hv8 : vs.length ≤ 8 := by
    have := congrArg List.length hvs
    rw [List.length_map] at this
    omega
  have hvl : vs.length ≤ maxLen := by unfold maxLen; omega
  have hnl : n.size ≤ maxLen := by unfold maxLen; omega
  have HR := Lib.hid (eright_calls p.ts p.dep p.seq n a c vs (w1.alloc (.cells #[.int .i64 p.ts, .int .i64 p.dep, .int .i64 p.seq, .string n, .slice a vs.length c] 25)) hnl (hrow.below ((Below.refl _ _).alloc (Nat.le_refl _) _)) hvl)
  have HPt := Lib.hid (fun (W : World) (hb : Below w1.heap.size w1 W) => eput_calls p.ts p.dep p.seq n a c vs W hnl (hrow.below hb) hvl)
  rw [hpe] at HR HPt
  have HVr := Lib.hid hrow
  have HN := Lib.hid (And.intro hn1 (And.intro hn2 hvs))
  obtain ⟨q, hq⟩ : ∃ q, vs.length = q := ⟨_, rfl⟩
  have Hq := Lib.hid hq
  rw [hq] at HR HPt ⊢
  have HX1 : Hid (Below (w.heap.size + 1) (w.alloc (.cells zeroC 25)) (w1.alloc (.cells #[.int .i64 p.ts, .int .i64 p.dep, .int .i64 p.seq, .string n, .slice a q c] 25))) := (show Below (w.heap.size + 1) (w.alloc (.cells zeroC 25)) w1 by simpa using hb1).alloc (by have := hb1.size; simpa using this) _
  have HB1 : Hid (Below w.heap.size w w1) := HB0.out.trans (hb1.mono HB0.out.size)
  clear hrow hsep hn1 hn2 hvs hq hb1 hpe h8 hv8 hvl hnl
  cases hr : rightE p with
  | false =>
    have HE := Lib.hid (hwrong hr)
    rw [hr] at HR
    clear hwrong hof hun hr
    rw [HE.out]
    go_wp2_with (go_at_call 52; refine HR.out.mono ?_; rintro e w3 ⟨rfl, hb3⟩; have HX3 : Hid (Below (w.heap.size + 1) (w.alloc (.cells zeroC 25)) w3) := (HX1.out.trans (hb3.mono (le_of_size HX1.out))); obtain ⟨r0, r1, r2, r3, r4, rf⟩ := zkeep HX3.out; have f0 := rf 0; have f1 := rf 1; have f2 := rf 2; have f3 := rf 3; have f4 := rf 4; clear rf; have HB3 : Hid (Below w.heap.size w w3) := ((HB1.out.alloc HB1.out.size _).trans (hb3.mono (by have := HB1.out.size; simp; omega))); clear hb3)
    refine bodyPost_ret (v := .tuple #[evV 0 0 0 ⟨#[]⟩ (.slice none 0 0), .bool false]) (by simp [results, Try.results30, go_sem, r0, r1, r2, r3, r4]) rfl (GetE.none HE.out ?_)
    exact below5 HB3.out (Nat.le_refl _) _ _ _ _ _
  | true =>
    obtain ⟨y, hy⟩ : ∃ y, putE p = y := ⟨_, rfl⟩
    rw [hr] at HR
    rw [hy] at HPt hof hun
    have HHof := Lib.hid (hof hr)
    have HHun := Lib.hid hun
    clear hwrong hof hun hr hy
    go_wp2_with (first
      | (go_at_call 52; refine HR.out.mono ?_; rintro e w3 ⟨rfl, hb3⟩; have HX3 : Hid (Below (w.heap.size + 1) (w.alloc (.cells zeroC 25)) w3) := (HX1.out.trans (hb3.mono (le_of_size HX1.out))); have HB3 : Hid (Below w1.heap.size w1 w3) := (((Below.refl _ _).alloc (Nat.le_refl _) _).trans (hb3.mono (by simp))); have t0 : w3.cell? ⟨w1.heap.size, 0, none⟩ = some (.int .i64 p.ts) := ekeep hb3 (new_cell _ _ _ rfl rfl); have t1 : w3.cell? ⟨w1.heap.size, 1, none⟩ = some (.int .i64 p.dep) := ekeep hb3 (new_cell _ _ _ rfl rfl); have t2 : w3.cell? ⟨w1.heap.size, 2, none⟩ = some (.int .i64 p.seq) := ekeep hb3 (new_cell _ _ _ rfl rfl); have t3 : w3.cell? ⟨w1.heap.size, 3, none⟩ = some (.string n) := ekeep hb3 (new_cell _ _ _ rfl rfl); have t4 : w3.cell? ⟨w1.heap.size, 4, none⟩ = some (.slice a q c) := ekeep hb3 (new_cell _ _ _ rfl rfl); clear hb3)
      | (go_at_call 26; refine (HPt.out _ HB3.out).mono ?_; rintro e w4 ⟨v4, rfl, hown4, hb4⟩; have HX4 : Hid (Below (w.heap.size + 1) (w.alloc (.cells zeroC 25)) w4) := (HX3.out.trans (hb4.mono (le_of_size HX3.out))); have HB4 : Hid (Below w1.heap.size w1 w4) := (HB3.out.trans (hb4.mono HB3.out.size)); have HBW : Hid (Below w.heap.size w w4) := (HB1.out.trans (HB4.out.mono HB1.out.size)); have HEql := Lib.hid (bequal_calls w4 v4 _ y bs (BRow.of_owns hown4) (HRow.out.below HBW.out)); have u0 := ekeep hb4 t0; have u1 := ekeep hb4 t1; have u2 := ekeep hb4 t2; have u3 := ekeep hb4 t3; have u4 := ekeep hb4 t4; obtain ⟨r0, r1, r2, r3, r4, rf⟩ := zkeep HX4.out; have f0 := rf 0; have f1 := rf 1; have f2 := rf 2; have f3 := rf 3; have f4 := rf 4; clear rf hown4 hb4))
    by_cases he : y = bs
    · have HE := Lib.hid (HHof.out he)
      rw [decide_eq_true he] at HEql
      refine HEql.out.mono ?_
      rintro _ w5 ⟨rfl, rfl⟩
      have HV4 := Lib.hid (HVr.out.below HB4.out)
      go_wp2
      refine bodyPost_ret (v := .tuple #[evV p.ts p.dep p.seq n (.slice a q c), .bool true]) (by simp [results, Try.results30, go_sem, r0, r1, r2, r3, r4]) rfl (GetE.some HE.out Hq.out HN.out ?_ ?_)
      · iterate 5 (refine VRow.set ?_ _ HSep.out)
        exact HV4.out
      · exact below5 HBW.out (Nat.le_refl _) _ _ _ _ _
    · have HE := Lib.hid (HHun.out he)
      rw [decide_eq_false he] at HEql
      refine HEql.out.mono ?_
      rintro _ w5 ⟨rfl, rfl⟩
      go_wp2
      refine bodyPost_ret (v := .tuple #[evV 0 0 0 ⟨#[]⟩ (.slice none 0 0), .bool false]) (by simp [results, Try.results30, go_sem, r0, r1, r2, r3, r4]) rfl (GetE.none HE.out ?_)
      exact below5 HBW.out (Nat.le_refl _) _ _ _ _ _

end Go.Proofs.Ytfmlgckfcclojaa
namespace Go.Proofs.Ytfmlgckfcclojaa
open Go.RowKit Go.Lib Go.Op

abbrev nA : ByteArray := ⟨#[97]⟩
def hFS : List FIn := [(⟨#[120]⟩, 1), (⟨#[121]⟩, 2)]
def hVS : List VIn := [(1, 1, ⟨#[]⟩), (2, 0, ⟨#[116]⟩)]

theorem head_right : rightE (pe 3 0 1 nA hVS) = true := by decide +kernel
theorem head_len : (putE (pe 3 0 1 nA hVS)).length = 11 := by
  rw [putE_right head_right]
  have e : bodyE (pe 3 0 1 nA hVS) = digsN 3 ++ (digsN 0 ++ (digsN 1 ++ (digsN 1 ++ ([97] ++ (digsN 2 ++ (putV ⟨1, 1, []⟩ ++ (putV ⟨2, 0, [116]⟩ ++ []))))))) := rfl
  rw [e, digsN_lt (by decide), digsN_lt (by decide), digsN_lt (by decide), digsN_lt (by decide), putV_1 (by decide) (by decide), show zigN 1 = 2 from rfl, digsN_lt (by decide), putV_2 (by decide)]
  rfl
theorem head_field : fieldI hFS ⟨#[121]⟩ = (1, 2) := by decide +kernel
theorem head_schema : schemaB nA hFS = true := by decide +kernel
theorem head_fits1 (a : Option Addr) (c : Nat) : fitsI [⟨nA, a, c, hFS⟩] nA hVS = 0 := by
  unfold fitsI
  rw [idx_hit (k := 0) (x := ⟨nA, a, c, hFS⟩) rfl (show nameIs nA nA = true by decide +kernel) (fun j y hj => by omega)]
  have : kindsB hVS hFS = true := by decide +kernel
  simp [this]
theorem head_fits2 : fitsI [] nA hVS = 12 := rfl
theorem head_fits3 (a : Option Addr) (c : Nat) : fitsI [⟨nA, a, c, []⟩] nA hVS = 42 := by
  unfold fitsI
  rw [idx_hit (k := 0) (x := ⟨nA, a, c, []⟩) rfl (show nameIs nA nA = true by decide +kernel) (fun j y hj => by omega)]
  have : kindsB hVS [] = false := by decide +kernel
  simp [this]
theorem head_less1 : lessE 3 0 1 3 1 0 = true := by decide
theorem head_less2 : lessE 3 0 1 3 0 1 = false := by decide
theorem head_word1 : wordB [97, 95, 49] = true := by decide
theorem head_word2 : wordB [49, 97] = false := by decide

theorem pv_inj : ∀ {l m : List VIn}, l.map pv = m.map pv → l = m
  | [], [], _ => rfl
  | [], x :: m, h => by simp at h
  | x :: l, [], h => by simp at h
  | x :: l, y :: m, h => by
    simp only [List.map_cons, List.cons.injEq] at h
    obtain ⟨h1, h2⟩ := h
    obtain ⟨k, n, s⟩ := x
    obtain ⟨k', n', s'⟩ := y
    simp only [pv, PVal.mk.injEq] at h1
    obtain ⟨rfl, rfl, h3⟩ := h1
    obtain rfl : s = s' := by rw [← strB_of s, ← strB_of s', h3]
    rw [pv_inj h2]

/-- What head holds in memory: the schema, the event. -/
structure HS (w : World) (rf sb rv eb : Nat) (W : World) : Prop where
  s0 : W.cell? ⟨sb, 0, none⟩ = some (.string nA)
  s1 : W.cell? ⟨sb, 1, none⟩ = some (.slice (some ⟨rf, 0, none⟩) 2 2)
  fr : FRow W (some ⟨rf, 0, none⟩) hFS
  e0 : W.cell? ⟨eb, 0, none⟩ = some (.int .i64 3)
  e1 : W.cell? ⟨eb, 1, none⟩ = some (.int .i64 0)
  e2 : W.cell? ⟨eb, 2, none⟩ = some (.int .i64 1)
  e3 : W.cell? ⟨eb, 3, none⟩ = some (.string nA)
  e4 : W.cell? ⟨eb, 4, none⟩ = some (.slice (some ⟨rv, 0, none⟩) 2 2)
  vr : VRow W (some ⟨rv, 0, none⟩) hVS
  hb : Below w.heap.size w W

theorem HS.below {w : World} {rf sb rv eb : Nat} {W W' : World} (h : HS w rf sb rv eb W) (hb : Below W.heap.size W W') : HS w rf sb rv eb W' :=
  ⟨ekeep hb h.s0, ekeep hb h.s1, h.fr.below hb, ekeep hb h.e0, ekeep hb h.e1, ekeep hb h.e2, ekeep hb h.e3, ekeep hb h.e4, h.vr.below hb, h.hb.trans (hb.mono h.hb.size)⟩

/-- And the event that was read. -/
structure HW (w : World) (rf sb rv eb fb : Nat) (ra : Option Addr) (rc : Nat) (W : World) : Prop where
  h : HS w rf sb rv eb W
  g0 : W.cell? ⟨fb, 0, none⟩ = some (.int .i64 3)
  g1 : W.cell? ⟨fb, 1, none⟩ = some (.int .i64 0)
  g2 : W.cell? ⟨fb, 2, none⟩ = some (.int .i64 1)
  g3 : W.cell? ⟨fb, 3, none⟩ = some (.string nA)
  g4 : W.cell? ⟨fb, 4, none⟩ = some (.slice ra 2 rc)
  vr : VRow W ra hVS

theorem HW.below {w : World} {rf sb rv eb fb : Nat} {ra : Option Addr} {rc : Nat} {W W' : World} (h : HW w rf sb rv eb fb ra rc W) (hb : Below W.heap.size W W') : HW w rf sb rv eb fb ra rc W' :=
  ⟨h.h.below hb, ekeep hb h.g0, ekeep hb h.g1, ekeep hb h.g2, ekeep hb h.g3, ekeep hb h.g4, h.vr.below hb⟩
theorem HW.cells {w : World} {rf sb rv eb fb : Nat} {ra : Option Addr} {rc : Nat} {W : World} (h : HW w rf sb rv eb fb ra rc W) :
    W.cell? ⟨sb, 0, none⟩ = some (.string nA) ∧ W.cell? ⟨sb, 1, none⟩ = some (.slice (some ⟨rf, 0, none⟩) 2 2) ∧ W.cell? ⟨eb, 0, none⟩ = some (.int .i64 3) ∧ W.cell? ⟨eb, 1, none⟩ = some (.int .i64 0) ∧ W.cell? ⟨eb, 2, none⟩ = some (.int .i64 1) ∧ W.cell? ⟨eb, 3, none⟩ = some (.string nA) ∧ W.cell? ⟨eb, 4, none⟩ = some (.slice (some ⟨rv, 0, none⟩) 2 2) ∧
      W.cell? ⟨fb, 0, none⟩ = some (.int .i64 3) ∧ W.cell? ⟨fb, 1, none⟩ = some (.int .i64 0) ∧ W.cell? ⟨fb, 2, none⟩ = some (.int .i64 1) ∧ W.cell? ⟨fb, 3, none⟩ = some (.string nA) ∧ W.cell? ⟨fb, 4, none⟩ = some (.slice ra 2 rc) :=
  ⟨h.h.s0, h.h.s1, h.h.e0, h.h.e1, h.h.e2, h.h.e3, h.h.e4, h.g0, h.g1, h.g2, h.g3, h.g4⟩

theorem addr0 (b q : Nat) : ((⟨b, 0, none⟩ : Addr).add q) = ⟨b, q, none⟩ := by unfold Addr.add; split <;> simp_all
theorem nA_size : nA.size ≤ maxLen := size_small (by decide)

theorem srow_new (W : World) (nm : ByteArray) (fa : Option Addr) (fc : Nat) (fs : List FIn) (hf : FRow W fa fs) (hl : fs.length ≤ maxLen) (hn : nm.size ≤ maxLen) : SRow (W.alloc (.cells #[.string nm, .slice fa fs.length fc] 31)) (some ⟨W.heap.size, 0, none⟩) [⟨nm, fa, fc, fs⟩] := fun j x hj => by
  match j, hj with
  | 0, hj =>
    simp at hj
    subst hj
    exact ⟨_, rfl, by rw [addr0]; exact new_cell _ _ _ rfl rfl, by unfold efld; rw [addr0]; exact new_cell _ _ _ rfl rfl, hf.below ((Below.refl _ _).alloc (Nat.le_refl _) _), hl, hn⟩
  | j + 1, hj => simp at hj

theorem HS.start (w : World) : HS w w.heap.size (w.heap.size + 1) (w.heap.size + 1 + 1) (w.heap.size + 1 + 1 + 1)
    ((((w.alloc (.cells #[.string ⟨#[120]⟩, .int .i64 1, .string ⟨#[121]⟩, .int .i64 2] 55)).alloc (.cells #[.string nA, .slice (some ⟨w.heap.size, 0, none⟩) 2 2] 31)).alloc (.cells #[.int .i64 1, .int .i64 1, .string ⟨#[]⟩, .int .i64 2, .int .i64 0, .string ⟨#[116]⟩] 52)).alloc (.cells #[.int .i64 3, .int .i64 0, .int .i64 1, .string nA, .slice (some ⟨w.heap.size + 1 + 1, 0, none⟩) 2 2] 25)) where
  s0 := ekeepAl _ (ekeepAl _ (new_cell _ _ _ (by simp) rfl))
  s1 := ekeepAl _ (ekeepAl _ (new_cell _ _ _ (by simp) rfl))
  fr := fun j x hj => by
    match j, hj with
    | 0, hj => simp [hFS] at hj; subst hj; exact ⟨_, rfl, by rw [addr0]; exact ekeepAl _ (ekeepAl _ (ekeepAl _ (new_cell _ _ _ rfl rfl))), by unfold efld; rw [addr0]; exact ekeepAl _ (ekeepAl _ (ekeepAl _ (new_cell _ _ _ rfl rfl))), size_small (by dsimp only; decide)⟩
    | 1, hj => simp [hFS] at hj; subst hj; exact ⟨_, rfl, by rw [addr0]; exact ekeepAl _ (ekeepAl _ (ekeepAl _ (new_cell _ _ _ rfl rfl))), by unfold efld; rw [addr0]; exact ekeepAl _ (ekeepAl _ (ekeepAl _ (new_cell _ _ _ rfl rfl))), size_small (by dsimp only; decide)⟩
    | j + 2, hj => simp [hFS] at hj
  e0 := new_cell _ _ _ (by simp) rfl
  e1 := new_cell _ _ _ (by simp) rfl
  e2 := new_cell _ _ _ (by simp) rfl
  e3 := new_cell _ _ _ (by simp) rfl
  e4 := new_cell _ _ _ (by simp) rfl
  vr := fun j x hj => by
    match j, hj with
    | 0, hj => simp [hVS] at hj; subst hj; exact ⟨_, rfl, by rw [addr0]; exact ekeepAl _ (new_cell _ _ _ (by simp) rfl), by unfold efld; rw [addr0]; exact ekeepAl _ (new_cell _ _ _ (by simp) rfl), by unfold efld; rw [addr0]; exact ekeepAl _ (new_cell _ _ _ (by simp) rfl), size_small (by dsimp only; decide)⟩
    | 1, hj => simp [hVS] at hj; subst hj; exact ⟨_, rfl, by rw [addr0]; exact ekeepAl _ (new_cell _ _ _ (by simp) rfl), by unfold efld; rw [addr0]; exact ekeepAl _ (new_cell _ _ _ (by simp) rfl), by unfold efld; rw [addr0]; exact ekeepAl _ (new_cell _ _ _ (by simp) rfl), size_small (by dsimp only; decide)⟩
    | j + 2, hj => simp [hVS] at hj
  hb := by repeat' (first | exact Below.refl _ _ | refine Below.alloc ?_ (by simp <;> omega) _)

/-- What Get leaves of its bytes. -/
def HGot (w : World) (e : Ending) (w' : World) : Prop := ∃ (a : Option Addr) (c : Nat), e = .returned (.tuple #[evV 3 0 1 nA (.slice a 2 c), .bool true]) ∧ VRow w' a hVS ∧ Below w.heap.size w w'
theorem HGot.of {w : World} {e : Ending} {w' : World} (h : GetE w (some (pe 3 0 1 nA hVS)) e w') : HGot w e w' := by
  obtain ⟨n, a, c, vs, he, h1, _, h2, h3, h4⟩ := h
  obtain rfl : n = nA := by
    rw [← strB_of n, h1]; rfl
  obtain rfl : vs = hVS := pv_inj h2
  exact ⟨a, c, he, h3, h4⟩

set_option maxHeartbeats 8000000 in
set_option maxRecDepth 100000 in
theorem ehead_calls (w : World) : Calls Try.prog 14 #[] w fun e w' => e = .returned (.bool true) ∧ Below w.heap.size w w' := by
  have HS0 := Lib.hid (HS.start w)
  go_enter Try.func14, Try.ntmps14
  go_upto_region 3 with fail
  obtain ⟨W4, hW4⟩ : ∃ W4, W4 = ((((w.alloc (.cells #[.string ⟨#[120]⟩, .int .i64 1, .string ⟨#[121]⟩, .int .i64 2] 55)).alloc (.cells #[.string nA, .slice (some ⟨w.heap.size, 0, none⟩) 2 2] 31)).alloc (.cells #[.int .i64 1, .int .i64 1, .string ⟨#[]⟩, .int .i64 2, .int .i64 0, .string ⟨#[116]⟩] 52)).alloc (.cells #[.int .i64 3, .int .i64 0, .int .i64 1, .string nA, .slice (some ⟨w.heap.size + 1 + 1, 0, none⟩) 2 2] 25)) := ⟨_, rfl⟩
  rw [← hW4] at HS0 ⊢
  clear hW4
  generalize w.heap.size + 1 + 1 + 1 = eb at *
  generalize w.heap.size + 1 + 1 = rv at *
  generalize w.heap.size + 1 = sb at *
  obtain ⟨rf, hrf⟩ : ∃ rf, rf = w.heap.size := ⟨_, rfl⟩
  have HS1 : Hid (HS w rf sb rv eb W4) := by rw [hrf]; exact HS0
  clear HS0 hrf
  have e0 := HS1.out.e0
  have e1 := HS1.out.e1
  have e2 := HS1.out.e2
  have e3 := HS1.out.e3
  have e4 := HS1.out.e4
  have HP := Lib.hid (eput_calls 3 0 1 nA (some ⟨rv, 0, none⟩) 2 hVS W4 nA_size HS1.out.vr (by decide))
  have hlen := head_len
  have hget := getE_put head_right
  generalize putE (pe 3 0 1 nA hVS) = y at HP hlen hget
  go_upto_region 4 with (go_at_call 26; refine HP.out.mono ?_; rintro e w5 ⟨v5, rfl, hown5, hb5⟩)
  have HS5 := Lib.hid (HS1.out.below hb5)
  have hr5 := BRow.of_owns hown5
  obtain ⟨a5, c5, rfl, _, _⟩ := hr5.len
  have HGet := eget_calls w5 _ y hr5
  rw [hget] at HGet
  rw [hlen] at HGet ⊢
  have HG := Lib.hid (HGet.mono fun e w' h => HGot.of h)
  clear hown5 hb5 hr5 hlen hget HGet HP HS1 e0 e1 e2 e3 e4
  go_upto_region 5 with (go_at_call 30; refine HG.out.mono ?_; rintro e w6 ⟨a6, c6, rfl, hrow6, hb6⟩)
  have HW6 : Hid (HW w rf sb rv eb w6.heap.size a6 c6 (w6.alloc (.cells #[.int .i64 3, .int .i64 0, .int .i64 1, .string nA, .slice a6 2 c6] 25))) :=
    ⟨(HS5.out.below hb6).below ((Below.refl _ _).alloc (Nat.le_refl _) _), new_cell _ _ _ rfl rfl, new_cell _ _ _ rfl rfl, new_cell _ _ _ rfl rfl, new_cell _ _ _ rfl rfl, new_cell _ _ _ rfl rfl, hrow6.below ((Below.refl _ _).alloc (Nat.le_refl _) _)⟩
  obtain ⟨W7, hW7⟩ : ∃ W, W = w6.alloc (.cells #[.int .i64 3, .int .i64 0, .int .i64 1, .string nA, .slice a6 2 c6] 25) := ⟨_, rfl⟩
  rw [← hW7] at HW6 ⊢
  clear hW7 hrow6 hb6 HG HS5
  generalize w6.heap.size = fb at *
  have HFd := Lib.hid (field_calls nA (some ⟨rf, 0, none⟩) 2 hFS ⟨#[121]⟩ W7 HW6.out.h.fr (by decide))
  rw [head_field] at HFd
  obtain ⟨s0, s1, e0, e1, e2, e3, e4, g0, g1, g2, g3, g4⟩ := HW6.out.cells
  go_upto_region 6 with (go_at_call 19; refine HFd.out.mono ?_; rintro e w8 ⟨rfl, hb8⟩)
  have HH := Lib.hid (HW6.out.below hb8)
  obtain ⟨s0', s1', e0', e1', e2', e3', e4', g0', g1', g2', g3', g4'⟩ := HH.out.cells
  clear s0 s1 e0 e1 e2 e3 e4 g0 g1 g2 g3 g4 hb8 HW6 HFd
  have CS : Hid (∀ W : World, Hid (HW w rf sb rv eb fb a6 c6 W) → Calls Try.prog 21 #[.agg #[.string nA, .slice (some ⟨rf, 0, none⟩) 2 2]] (W) fun e w' => e = .returned (.bool true) ∧ Hid (HW w rf sb rv eb fb a6 c6 w')) :=
    fun W hW => by
      have h := schema_calls nA (some ⟨rf, 0, none⟩) 2 hFS W nA_size hW.out.h.fr (by decide)
      rw [head_schema] at h
      exact h.mono fun e w' ⟨h1, h2⟩ => ⟨h1, hW.out.below h2⟩
  have CF1 : Hid (∀ W : World, Hid (HW w rf sb rv eb fb a6 c6 W) → Calls Try.prog 24 #[.slice (some ⟨W.heap.size, 0, none⟩) 1 1, evV 3 0 1 nA (.slice (some ⟨rv, 0, none⟩) 2 2)] (W.alloc (.cells #[.string nA, .slice (some ⟨rf, 0, none⟩) 2 2] 31)) fun e w' => e = .returned (.int .i64 0) ∧ Hid (HW w rf sb rv eb fb a6 c6 w')) :=
    fun W hW => by
      have hb : Below W.heap.size W (W.alloc (.cells #[.string nA, .slice (some ⟨rf, 0, none⟩) 2 2] 31)) := (Below.refl _ _).alloc (Nat.le_refl _) _
      have h := fits_calls (some ⟨W.heap.size, 0, none⟩) 1 [⟨nA, some ⟨rf, 0, none⟩, 2, hFS⟩] 3 0 1 nA (some ⟨rv, 0, none⟩) 2 hVS (W.alloc (.cells #[.string nA, .slice (some ⟨rf, 0, none⟩) 2 2] 31)) (srow_new W nA (some ⟨rf, 0, none⟩) 2 hFS hW.out.h.fr (by decide) nA_size) (show (1 : Nat) ≤ maxLen by decide) nA_size (hW.out.h.vr.below hb) (by decide)
      rw [if_pos head_right, head_fits1] at h
      exact h.mono fun e w' ⟨h1, h2⟩ => ⟨h1, (hW.out.below hb).below h2⟩
  have CF2 : Hid (∀ W : World, Hid (HW w rf sb rv eb fb a6 c6 W) → Calls Try.prog 24 #[.slice none 0 0, evV 3 0 1 nA (.slice (some ⟨rv, 0, none⟩) 2 2)] (W) fun e w' => e = .returned (.int .i64 12) ∧ Hid (HW w rf sb rv eb fb a6 c6 w')) :=
    fun W hW => by
      have h := fits_calls none 0 [] 3 0 1 nA (some ⟨rv, 0, none⟩) 2 hVS W (fun j x hj => by simp at hj) (by decide) nA_size hW.out.h.vr (by decide)
      rw [if_pos head_right, head_fits2] at h
      exact h.mono fun e w' ⟨h1, h2⟩ => ⟨h1, hW.out.below h2⟩
  have CF3 : Hid (∀ W : World, Hid (HW w rf sb rv eb fb a6 c6 W) → Calls Try.prog 24 #[.slice (some ⟨W.heap.size, 0, none⟩) 1 1, evV 3 0 1 nA (.slice (some ⟨rv, 0, none⟩) 2 2)] (W.alloc (.cells #[.string nA, .slice none 0 0] 31)) fun e w' => e = .returned (.int .i64 42) ∧ Hid (HW w rf sb rv eb fb a6 c6 w')) :=
    fun W hW => by
      have hb : Below W.heap.size W (W.alloc (.cells #[.string nA, .slice none 0 0] 31)) := (Below.refl _ _).alloc (Nat.le_refl _) _
      have h := fits_calls (some ⟨W.heap.size, 0, none⟩) 1 [⟨nA, none, 0, []⟩] 3 0 1 nA (some ⟨rv, 0, none⟩) 2 hVS (W.alloc (.cells #[.string nA, .slice none 0 0] 31)) (srow_new W nA none 0 [] (fun j x hj => by simp at hj) (by decide) nA_size) (show (1 : Nat) ≤ maxLen by decide) nA_size (hW.out.h.vr.below hb) (by decide)
      rw [if_pos head_right, head_fits3] at h
      exact h.mono fun e w' ⟨h1, h2⟩ => ⟨h1, (hW.out.below hb).below h2⟩
  have CSm : Hid (∀ W : World, Hid (HW w rf sb rv eb fb a6 c6 W) → Calls Try.prog 32 #[evV 3 0 1 nA (.slice (some ⟨rv, 0, none⟩) 2 2), evV 3 0 1 nA (.slice a6 2 c6)] (W) fun e w' => e = .returned (.bool true) ∧ Hid (HW w rf sb rv eb fb a6 c6 w')) :=
    fun W hW => by
      exact (sameOne_calls 3 0 1 nA (some ⟨rv, 0, none⟩) 2 a6 c6 hVS W hW.out.h.vr hW.out.vr (by decide)).mono fun e w' ⟨h1, h2⟩ => ⟨h1, hW.out.below h2⟩
  have CL1 : Hid (∀ W : World, Hid (HW w rf sb rv eb fb a6 c6 W) → Calls Try.prog 33 #[evV 3 0 1 nA (.slice (some ⟨rv, 0, none⟩) 2 2), evV 3 1 0 ⟨#[]⟩ (.slice none 0 0)] (W) fun e w' => e = .returned (.bool true) ∧ Hid (HW w rf sb rv eb fb a6 c6 w')) :=
    fun W hW => by
      have h := less_calls 3 0 1 nA (.slice (some ⟨rv, 0, none⟩) 2 2) 3 1 0 ⟨#[]⟩ (.slice none 0 0) W
      rw [head_less1] at h
      exact h.mono fun e w' ⟨h1, h2⟩ => ⟨h1, hW.out.below h2⟩
  have CL2 : Hid (∀ W : World, Hid (HW w rf sb rv eb fb a6 c6 W) → Calls Try.prog 33 #[evV 3 0 1 nA (.slice (some ⟨rv, 0, none⟩) 2 2), evV 3 0 1 nA (.slice (some ⟨rv, 0, none⟩) 2 2)] (W) fun e w' => e = .returned (.bool false) ∧ Hid (HW w rf sb rv eb fb a6 c6 w')) :=
    fun W hW => by
      have h := less_calls 3 0 1 nA (.slice (some ⟨rv, 0, none⟩) 2 2) 3 0 1 nA (.slice (some ⟨rv, 0, none⟩) 2 2) W
      rw [head_less2] at h
      exact h.mono fun e w' ⟨h1, h2⟩ => ⟨h1, hW.out.below h2⟩
  have CW1 : Hid (∀ W : World, Hid (HW w rf sb rv eb fb a6 c6 W) → Calls Try.prog 28 #[.string ⟨#[97, 95, 49]⟩] (W) fun e w' => e = .returned (.bool true) ∧ Hid (HW w rf sb rv eb fb a6 c6 w')) :=
    fun W hW => by
      exact (word_calls ⟨#[97, 95, 49]⟩ W (size_small (by decide))).mono fun e w' ⟨h1, h2⟩ => ⟨h1.trans (by rw [show wordB (⟨#[97, 95, 49]⟩ : ByteArray).data.toList = true from head_word1]), hW.out.below h2⟩
  have CW2 : Hid (∀ W : World, Hid (HW w rf sb rv eb fb a6 c6 W) → Calls Try.prog 28 #[.string ⟨#[49, 97]⟩] (W) fun e w' => e = .returned (.bool false) ∧ Hid (HW w rf sb rv eb fb a6 c6 w')) :=
    fun W hW => by
      exact (word_calls ⟨#[49, 97]⟩ W (size_small (by decide))).mono fun e w' ⟨h1, h2⟩ => ⟨h1.trans (by rw [show wordB (⟨#[49, 97]⟩ : ByteArray).data.toList = false from head_word2]), hW.out.below h2⟩
  go_wp2_with (first
    | (go_at_call 21; (with_reducible refine (CS.out _ ?_).mono ?_); (exact HH); rintro e wq ⟨rfl, HH⟩; obtain ⟨s0', s1', e0', e1', e2', e3', e4', g0', g1', g2', g3', g4'⟩ := HH.out.cells; have k0 := ekeepAl (.cells #[.string nA, .slice (some ⟨rf, 0, none⟩) 2 2] 31) e0'; have k1 := ekeepAl (.cells #[.string nA, .slice (some ⟨rf, 0, none⟩) 2 2] 31) e1'; have k2 := ekeepAl (.cells #[.string nA, .slice (some ⟨rf, 0, none⟩) 2 2] 31) e2'; have k3 := ekeepAl (.cells #[.string nA, .slice (some ⟨rf, 0, none⟩) 2 2] 31) e3'; have k4 := ekeepAl (.cells #[.string nA, .slice (some ⟨rf, 0, none⟩) 2 2] 31) e4')
    | (go_at_call 24; (with_reducible refine (CF1.out _ ?_).mono ?_); (exact HH); rintro e wq ⟨rfl, HH⟩; obtain ⟨s0', s1', e0', e1', e2', e3', e4', g0', g1', g2', g3', g4'⟩ := HH.out.cells)
    | (go_at_call 24; (with_reducible refine (CF2.out _ ?_).mono ?_); (exact HH); rintro e wq ⟨rfl, HH⟩; obtain ⟨s0', s1', e0', e1', e2', e3', e4', g0', g1', g2', g3', g4'⟩ := HH.out.cells; have k0 := ekeepAl (.cells #[.string nA, .slice none 0 0] 31) e0'; have k1 := ekeepAl (.cells #[.string nA, .slice none 0 0] 31) e1'; have k2 := ekeepAl (.cells #[.string nA, .slice none 0 0] 31) e2'; have k3 := ekeepAl (.cells #[.string nA, .slice none 0 0] 31) e3'; have k4 := ekeepAl (.cells #[.string nA, .slice none 0 0] 31) e4')
    | (go_at_call 24; (with_reducible refine (CF3.out _ ?_).mono ?_); (exact HH); rintro e wq ⟨rfl, HH⟩; obtain ⟨s0', s1', e0', e1', e2', e3', e4', g0', g1', g2', g3', g4'⟩ := HH.out.cells)
    | (go_at_call 32; (with_reducible refine (CSm.out _ ?_).mono ?_); (exact HH); rintro e wq ⟨rfl, HH⟩; obtain ⟨s0', s1', e0', e1', e2', e3', e4', g0', g1', g2', g3', g4'⟩ := HH.out.cells)
    | (go_at_call 33; (with_reducible refine (CL1.out _ ?_).mono ?_); (exact HH); rintro e wq ⟨rfl, HH⟩; obtain ⟨s0', s1', e0', e1', e2', e3', e4', g0', g1', g2', g3', g4'⟩ := HH.out.cells)
    | (go_at_call 33; (with_reducible refine (CL2.out _ ?_).mono ?_); (exact HH); rintro e wq ⟨rfl, HH⟩; obtain ⟨s0', s1', e0', e1', e2', e3', e4', g0', g1', g2', g3', g4'⟩ := HH.out.cells)
    | (go_at_call 28; (with_reducible refine (CW1.out _ ?_).mono ?_); (exact HH); rintro e wq ⟨rfl, HH⟩; obtain ⟨s0', s1', e0', e1', e2', e3', e4', g0', g1', g2', g3', g4'⟩ := HH.out.cells)
    | (go_at_call 28; (with_reducible refine (CW2.out _ ?_).mono ?_); (exact HH); rintro e wq ⟨rfl, HH⟩; obtain ⟨s0', s1', e0', e1', e2', e3', e4', g0', g1', g2', g3', g4'⟩ := HH.out.cells))
  go_ret
  exact ⟨rfl, HH.out.h.hb⟩

end Go.Proofs.Ytfmlgckfcclojaa
namespace Go.Proofs.Ytfmlgckfcclojaa
open Go.RowKit Go.Lib Go.Op

/-- What a law's call leaves. -/
def EFine (w : World) (e : Ending) (w' : World) : Prop := e = .returned (.bool true) ∧ Below w.heap.size w w'

theorem app_list (a b : ByteArray) : (a ++ b).data.toList = a.data.toList ++ b.data.toList := by simp

theorem word_one (c : UInt8) : wordB [c] = letterB c := by simp [wordB]
theorem word_parts {l : List UInt8} (h : wordB l = true) : ∃ x t, l = x :: t ∧ letterB x = true ∧ t.length ≤ 15 ∧ t.all charB = true := by
  cases l with
  | nil => cases h
  | cons x t =>
    simp only [wordB, Bool.and_eq_true, decide_eq_true_eq] at h
    exact ⟨x, t, rfl, h.1, h.2.1, h.2.2⟩
theorem letter_char {c : UInt8} (h : letterB c = true) : charB c = true := by unfold charB; rw [h]; rfl
theorem word_behind {l : List UInt8} (h : wordB l = true) (c : UInt8) : wordB (l ++ [c]) = (charB c && decide (l.length < 16)) := by
  obtain ⟨x, t, rfl, h1, h2, h3⟩ := word_parts h
  simp only [List.cons_append, wordB, h1, Bool.true_and, List.length_append, List.length_cons, List.length_nil, List.all_append, h3, List.all_cons, List.all_nil, Bool.and_true]
  rw [Bool.and_comm]
  congr 1
  rw [Bool.eq_iff_iff]
  simp only [decide_eq_true_eq]
  omega
theorem word_ahead {l : List UInt8} (h : wordB l = true) (c : UInt8) : wordB ([c] ++ l) = (letterB c && decide (l.length < 16)) := by
  obtain ⟨x, t, rfl, h1, h2, h3⟩ := word_parts h
  simp only [List.cons_append, List.nil_append, wordB, List.all_cons, letter_char h1, h3, Bool.and_self, Bool.and_true, List.length_cons]
  congr 1
  rw [Bool.eq_iff_iff]
  simp only [decide_eq_true_eq]
  omega

theorem word_of {w : World} {s : ByteArray} {b : Bool} (hs : s.size ≤ 100000) (h : wordB s.data.toList = b) : Calls Try.prog 28 #[.string s] w fun e w' => e = .returned (.bool b) ∧ Below w.heap.size w w' := by
  have h1 := word_calls s w (by unfold maxLen; omega)
  rwa [h] at h1

set_option maxHeartbeats 8000000 in
set_option maxRecDepth 100000 in
theorem words_walk (w : World) (s : ByteArray) (c : UInt8) (hs : s.size ≤ maxLen) : Calls Try.prog 8 #[.string s, .int .u8 c.toNat] w (EFine w) := by
  unfold maxLen at hs
  by_cases hbig : 1000 < s.size
  · go_enter Try.func8, Try.ntmps8
    go_wp2_with fail
    refine (ehead_calls w).mono ?_
    rintro _ w1 ⟨rfl, hb1⟩
    go_wp2
    go_ret
    exact ⟨rfl, hb1⟩
  have hl : s.data.toList.length = s.size := by simp
  have hsm : s.size ≤ 1000 := by omega
  have hcv := fun W : World => conv_brow (brow_new W [c] #[.int .u8 c.toNat] 5 (0, 0) rfl 1 (Nat.le_refl 1) (by unfold maxLen; decide))
  obtain ⟨o, ho⟩ : ∃ o, strB [c] = o := ⟨_, rfl⟩
  have hol : o.data.toList = [c] := by rw [← ho, strB_list]
  have hos : o.size = 1 := by rw [← ho]; exact strB_size _
  have hcv' : ∀ W : World, (convert 40 9 (.slice (some ⟨W.heap.size, 0, none⟩) 1 1)).run Try.prog (W.alloc (.cells #[.int .u8 c.toNat] 5)) = .ok (.string o) (W.alloc (.cells #[.int .u8 c.toNat] 5)) := fun W => ho ▸ hcv W
  have hc8 := c.toNat_lt
  have HCV := Lib.hid hcv'
  have hlt : letterB c = decide (97 ≤ c.toNat ∧ c.toNat ≤ 122) := rfl
  have hch : charB c = (decide (97 ≤ c.toNat ∧ c.toNat ≤ 122) || (decide (c.toNat = 95) || decide (48 ≤ c.toNat ∧ c.toNat ≤ 57))) := rfl
  have K1 := Lib.hid (fun W : World => word_of (w := W) (s := o) (by omega) ((congrArg wordB hol).trans ((word_one c).trans hlt)))
  have hcase : (97 ≤ c.toNat ∧ c.toNat ≤ 122) ∨ (48 ≤ c.toNat ∧ c.toNat ≤ 57) ∨ c.toNat = 95 ∨ c.toNat < 48 ∨ (57 < c.toNat ∧ c.toNat < 97 ∧ c.toNat ≠ 95) ∨ 122 < c.toNat := by omega
  cases hw : wordB s.data.toList with
  | false =>
    have K0 := Lib.hid (fun W : World => word_of (w := W) (s := s) (by omega) hw)
    clear hcv hcv' ho hol hos hl hw hlt hch
    generalize c.toNat = cn at *
    rcases hcase with ⟨h1, h2⟩ | ⟨h1, h2⟩ | h1 | h1 | ⟨h1, h2, h3⟩ | h1
    · rw [decide_eq_true (show 97 ≤ cn ∧ cn ≤ 122 by omega)] at K1
      go_enter Try.func8, Try.ntmps8
      go_wp2_with fail
      refine (ehead_calls w).mono ?_
      rintro _ w1 ⟨rfl, hb1⟩
      have HB : Hid (Below w.heap.size w (w1.alloc (.cells #[.int .u8 cn] 5))) := hb1.alloc hb1.size _
      have HB1 := Lib.hid hb1
      have hcw := HCV.out w1
      clear hb1
      go_wp2_with (go_at_call 28; (first | (with_reducible refine (K0.out _).mono ?_) | (with_reducible refine (K1.out _).mono ?_)); rintro e wq ⟨rfl, hbq⟩; have HB := Lib.hid (HB.out.trans (hbq.mono HB.out.size)); clear hbq)
      go_ret
      exact ⟨by first | rfl | (simp; done) | (simp; omega), HB.out⟩
    · rw [decide_eq_false (show ¬ (97 ≤ cn ∧ cn ≤ 122) by omega)] at K1
      go_enter Try.func8, Try.ntmps8
      go_wp2_with fail
      refine (ehead_calls w).mono ?_
      rintro _ w1 ⟨rfl, hb1⟩
      have HB : Hid (Below w.heap.size w (w1.alloc (.cells #[.int .u8 cn] 5))) := hb1.alloc hb1.size _
      have HB1 := Lib.hid hb1
      have hcw := HCV.out w1
      clear hb1
      go_wp2_with (go_at_call 28; (first | (with_reducible refine (K0.out _).mono ?_) | (with_reducible refine (K1.out _).mono ?_)); rintro e wq ⟨rfl, hbq⟩; have HB := Lib.hid (HB.out.trans (hbq.mono HB.out.size)); clear hbq)
      go_ret
      exact ⟨by first | rfl | (simp; done) | (simp; omega), HB.out⟩
    · rw [decide_eq_false (show ¬ (97 ≤ cn ∧ cn ≤ 122) by omega)] at K1
      subst h1
      go_enter Try.func8, Try.ntmps8
      go_wp2_with fail
      refine (ehead_calls w).mono ?_
      rintro _ w1 ⟨rfl, hb1⟩
      have HB : Hid (Below w.heap.size w (w1.alloc (.cells #[.int .u8 95] 5))) := hb1.alloc hb1.size _
      have HB1 := Lib.hid hb1
      have hcw : (convert 40 9 (.slice (some ⟨w1.heap.size, 0, none⟩) 1 1)).run Try.prog (w1.alloc (.cells #[.int .u8 95] 5)) = .ok (.string o) (w1.alloc (.cells #[.int .u8 95] 5)) := HCV.out w1
      clear hb1
      go_wp2_with (go_at_call 28; (first | (with_reducible refine (K0.out _).mono ?_) | (with_reducible refine (K1.out _).mono ?_)); rintro e wq ⟨rfl, hbq⟩; have HB := Lib.hid (HB.out.trans (hbq.mono HB.out.size)); clear hbq)
      go_ret
      exact ⟨by first | rfl | (simp; done) | (simp; omega), HB.out⟩
    · rw [decide_eq_false (show ¬ (97 ≤ cn ∧ cn ≤ 122) by omega)] at K1
      have h4 : ((cn : Int) == 95) = false := by rw [beq_eq_false_iff_ne]; omega
      go_enter Try.func8, Try.ntmps8
      go_wp2_with fail
      refine (ehead_calls w).mono ?_
      rintro _ w1 ⟨rfl, hb1⟩
      have HB : Hid (Below w.heap.size w (w1.alloc (.cells #[.int .u8 cn] 5))) := hb1.alloc hb1.size _
      have HB1 := Lib.hid hb1
      have hcw := HCV.out w1
      clear hb1
      go_wp2_with (go_at_call 28; (first | (with_reducible refine (K0.out _).mono ?_) | (with_reducible refine (K1.out _).mono ?_)); rintro e wq ⟨rfl, hbq⟩; have HB := Lib.hid (HB.out.trans (hbq.mono HB.out.size)); clear hbq)
      go_ret
      exact ⟨by first | rfl | (simp; done) | (simp; omega), HB.out⟩
    · rw [decide_eq_false (show ¬ (97 ≤ cn ∧ cn ≤ 122) by omega)] at K1
      have h4 : ((cn : Int) == 95) = false := by rw [beq_eq_false_iff_ne]; omega
      go_enter Try.func8, Try.ntmps8
      go_wp2_with fail
      refine (ehead_calls w).mono ?_
      rintro _ w1 ⟨rfl, hb1⟩
      have HB : Hid (Below w.heap.size w (w1.alloc (.cells #[.int .u8 cn] 5))) := hb1.alloc hb1.size _
      have HB1 := Lib.hid hb1
      have hcw := HCV.out w1
      clear hb1
      go_wp2_with (go_at_call 28; (first | (with_reducible refine (K0.out _).mono ?_) | (with_reducible refine (K1.out _).mono ?_)); rintro e wq ⟨rfl, hbq⟩; have HB := Lib.hid (HB.out.trans (hbq.mono HB.out.size)); clear hbq)
      go_ret
      exact ⟨by first | rfl | (simp; done) | (simp; omega), HB.out⟩
    · rw [decide_eq_false (show ¬ (97 ≤ cn ∧ cn ≤ 122) by omega)] at K1
      have h4 : ((cn : Int) == 95) = false := by rw [beq_eq_false_iff_ne]; omega
      go_enter Try.func8, Try.ntmps8
      go_wp2_with fail
      refine (ehead_calls w).mono ?_
      rintro _ w1 ⟨rfl, hb1⟩
      have HB : Hid (Below w.heap.size w (w1.alloc (.cells #[.int .u8 cn] 5))) := hb1.alloc hb1.size _
      have HB1 := Lib.hid hb1
      have hcw := HCV.out w1
      clear hb1
      go_wp2_with (go_at_call 28; (first | (with_reducible refine (K0.out _).mono ?_) | (with_reducible refine (K1.out _).mono ?_)); rintro e wq ⟨rfl, hbq⟩; have HB := Lib.hid (HB.out.trans (hbq.mono HB.out.size)); clear hbq)
      go_ret
      exact ⟨by first | rfl | (simp; done) | (simp; omega), HB.out⟩
  | true =>
    have K0 := Lib.hid (fun W : World => word_of (w := W) (s := s) (by omega) hw)
    have k2 : wordB (s ++ o).data.toList = (charB c && decide (s.size < 16)) := by rw [app_list, hol, word_behind hw, hl]
    have k3 : wordB (o ++ s).data.toList = (letterB c && decide (s.size < 16)) := by rw [app_list, hol, word_ahead hw, hl]
    have k4 : wordB (s ++ ⟨#[65]⟩).data.toList = false := by rw [app_list, show (⟨#[65]⟩ : ByteArray).data.toList = [65] from rfl, word_behind hw]; rfl
    have k5 : wordB (s ++ ⟨#[32]⟩).data.toList = false := by rw [app_list, show (⟨#[32]⟩ : ByteArray).data.toList = [32] from rfl, word_behind hw]; rfl
    rw [hch] at k2
    rw [hlt] at k3
    have K2 := Lib.hid (fun W : World => word_of (w := W) (s := s ++ o) (by rw [ByteArray.size_append]; omega) k2)
    have K3 := Lib.hid (fun W : World => word_of (w := W) (s := o ++ s) (by rw [ByteArray.size_append]; omega) k3)
    have K4 := Lib.hid (fun W : World => word_of (w := W) (s := s ++ ⟨#[65]⟩) (by rw [ByteArray.size_append, show (⟨#[65]⟩ : ByteArray).size = 1 from rfl]; omega) k4)
    have K5 := Lib.hid (fun W : World => word_of (w := W) (s := s ++ ⟨#[32]⟩) (by rw [ByteArray.size_append, show (⟨#[32]⟩ : ByteArray).size = 1 from rfl]; omega) k5)
    clear hcv hcv' ho hol hl hw hlt hch k2 k3 k4 k5
    generalize c.toNat = cn at *
    by_cases h16 : s.size < 16
    · rw [decide_eq_true h16] at K2 K3
      rcases hcase with ⟨h1, h2⟩ | ⟨h1, h2⟩ | h1 | h1 | ⟨h1, h2, h3⟩ | h1
      · rw [decide_eq_true (show 97 ≤ cn ∧ cn ≤ 122 by omega)] at K1 K3
        rw [decide_eq_true (show 97 ≤ cn ∧ cn ≤ 122 by omega), decide_eq_false (show ¬ cn = 95 by omega), decide_eq_false (show ¬ (48 ≤ cn ∧ cn ≤ 57) by omega)] at K2
        simp only [Bool.true_and, Bool.or_false, Bool.or_self] at K2 K3
        go_enter Try.func8, Try.ntmps8
        go_wp2_with fail
        refine (ehead_calls w).mono ?_
        rintro _ w1 ⟨rfl, hb1⟩
        have HB : Hid (Below w.heap.size w (w1.alloc (.cells #[.int .u8 cn] 5))) := hb1.alloc hb1.size _
        have HB1 := Lib.hid hb1
        have hcw := HCV.out w1
        clear hb1
        go_wp2_with (go_at_call 28; (first | (with_reducible refine (K0.out _).mono ?_) | (with_reducible refine (K1.out _).mono ?_) | (with_reducible refine (K2.out _).mono ?_) | (with_reducible refine (K3.out _).mono ?_) | (with_reducible refine (K4.out _).mono ?_) | (with_reducible refine (K5.out _).mono ?_)); rintro e wq ⟨rfl, hbq⟩; have HB := Lib.hid (HB.out.trans (hbq.mono HB.out.size)); clear hbq)
        go_ret
        exact ⟨by first | rfl | (simp; done) | (simp; omega), HB.out⟩
      · rw [decide_eq_false (show ¬ (97 ≤ cn ∧ cn ≤ 122) by omega)] at K1 K3
        rw [decide_eq_false (show ¬ (97 ≤ cn ∧ cn ≤ 122) by omega), decide_eq_false (show ¬ cn = 95 by omega), decide_eq_true (show 48 ≤ cn ∧ cn ≤ 57 by omega)] at K2
        simp only [Bool.true_and, Bool.false_and, Bool.or_true] at K2 K3
        go_enter Try.func8, Try.ntmps8
        go_wp2_with fail
        refine (ehead_calls w).mono ?_
        rintro _ w1 ⟨rfl, hb1⟩
        have HB : Hid (Below w.heap.size w (w1.alloc (.cells #[.int .u8 cn] 5))) := hb1.alloc hb1.size _
        have HB1 := Lib.hid hb1
        have hcw := HCV.out w1
        clear hb1
        go_wp2_with (go_at_call 28; (first | (with_reducible refine (K0.out _).mono ?_) | (with_reducible refine (K1.out _).mono ?_) | (with_reducible refine (K2.out _).mono ?_) | (with_reducible refine (K3.out _).mono ?_) | (with_reducible refine (K4.out _).mono ?_) | (with_reducible refine (K5.out _).mono ?_)); rintro e wq ⟨rfl, hbq⟩; have HB := Lib.hid (HB.out.trans (hbq.mono HB.out.size)); clear hbq)
        go_ret
        exact ⟨by first | rfl | (simp; done) | (simp; omega), HB.out⟩
      · rw [decide_eq_false (show ¬ (97 ≤ cn ∧ cn ≤ 122) by omega)] at K1 K3
        rw [decide_eq_false (show ¬ (97 ≤ cn ∧ cn ≤ 122) by omega), decide_eq_true (show cn = 95 by omega), decide_eq_false (show ¬ (48 ≤ cn ∧ cn ≤ 57) by omega)] at K2
        simp only [Bool.true_and, Bool.false_and, Bool.or_true, Bool.or_false] at K2 K3
        subst h1
        go_enter Try.func8, Try.ntmps8
        go_wp2_with fail
        refine (ehead_calls w).mono ?_
        rintro _ w1 ⟨rfl, hb1⟩
        have HB : Hid (Below w.heap.size w (w1.alloc (.cells #[.int .u8 95] 5))) := hb1.alloc hb1.size _
        have HB1 := Lib.hid hb1
        have hcw : (convert 40 9 (.slice (some ⟨w1.heap.size, 0, none⟩) 1 1)).run Try.prog (w1.alloc (.cells #[.int .u8 95] 5)) = .ok (.string o) (w1.alloc (.cells #[.int .u8 95] 5)) := HCV.out w1
        clear hb1
        go_wp2_with (go_at_call 28; (first | (with_reducible refine (K0.out _).mono ?_) | (with_reducible refine (K1.out _).mono ?_) | (with_reducible refine (K2.out _).mono ?_) | (with_reducible refine (K3.out _).mono ?_) | (with_reducible refine (K4.out _).mono ?_) | (with_reducible refine (K5.out _).mono ?_)); rintro e wq ⟨rfl, hbq⟩; have HB := Lib.hid (HB.out.trans (hbq.mono HB.out.size)); clear hbq)
        go_ret
        exact ⟨by first | rfl | (simp; done) | (simp; omega), HB.out⟩
      · rw [decide_eq_false (show ¬ (97 ≤ cn ∧ cn ≤ 122) by omega)] at K1 K3
        rw [decide_eq_false (show ¬ (97 ≤ cn ∧ cn ≤ 122) by omega), decide_eq_false (show ¬ cn = 95 by omega), decide_eq_false (show ¬ (48 ≤ cn ∧ cn ≤ 57) by omega)] at K2
        simp only [Bool.false_and, Bool.or_self] at K2 K3
        have h4 : ((cn : Int) == 95) = false := by rw [beq_eq_false_iff_ne]; omega
        go_enter Try.func8, Try.ntmps8
        go_wp2_with fail
        refine (ehead_calls w).mono ?_
        rintro _ w1 ⟨rfl, hb1⟩
        have HB : Hid (Below w.heap.size w (w1.alloc (.cells #[.int .u8 cn] 5))) := hb1.alloc hb1.size _
        have HB1 := Lib.hid hb1
        have hcw := HCV.out w1
        clear hb1
        go_wp2_with (go_at_call 28; (first | (with_reducible refine (K0.out _).mono ?_) | (with_reducible refine (K1.out _).mono ?_) | (with_reducible refine (K2.out _).mono ?_) | (with_reducible refine (K3.out _).mono ?_) | (with_reducible refine (K4.out _).mono ?_) | (with_reducible refine (K5.out _).mono ?_)); rintro e wq ⟨rfl, hbq⟩; have HB := Lib.hid (HB.out.trans (hbq.mono HB.out.size)); clear hbq)
        go_ret
        exact ⟨by first | rfl | (simp; done) | (simp; omega), HB.out⟩
      · rw [decide_eq_false (show ¬ (97 ≤ cn ∧ cn ≤ 122) by omega)] at K1 K3
        rw [decide_eq_false (show ¬ (97 ≤ cn ∧ cn ≤ 122) by omega), decide_eq_false (show ¬ cn = 95 by omega), decide_eq_false (show ¬ (48 ≤ cn ∧ cn ≤ 57) by omega)] at K2
        simp only [Bool.false_and, Bool.or_self] at K2 K3
        have h4 : ((cn : Int) == 95) = false := by rw [beq_eq_false_iff_ne]; omega
        go_enter Try.func8, Try.ntmps8
        go_wp2_with fail
        refine (ehead_calls w).mono ?_
        rintro _ w1 ⟨rfl, hb1⟩
        have HB : Hid (Below w.heap.size w (w1.alloc (.cells #[.int .u8 cn] 5))) := hb1.alloc hb1.size _
        have HB1 := Lib.hid hb1
        have hcw := HCV.out w1
        clear hb1
        go_wp2_with (go_at_call 28; (first | (with_reducible refine (K0.out _).mono ?_) | (with_reducible refine (K1.out _).mono ?_) | (with_reducible refine (K2.out _).mono ?_) | (with_reducible refine (K3.out _).mono ?_) | (with_reducible refine (K4.out _).mono ?_) | (with_reducible refine (K5.out _).mono ?_)); rintro e wq ⟨rfl, hbq⟩; have HB := Lib.hid (HB.out.trans (hbq.mono HB.out.size)); clear hbq)
        go_ret
        exact ⟨by first | rfl | (simp; done) | (simp; omega), HB.out⟩
      · rw [decide_eq_false (show ¬ (97 ≤ cn ∧ cn ≤ 122) by omega)] at K1 K3
        rw [decide_eq_false (show ¬ (97 ≤ cn ∧ cn ≤ 122) by omega), decide_eq_false (show ¬ cn = 95 by omega), decide_eq_false (show ¬ (48 ≤ cn ∧ cn ≤ 57) by omega)] at K2
        simp only [Bool.false_and, Bool.or_self] at K2 K3
        have h4 : ((cn : Int) == 95) = false := by rw [beq_eq_false_iff_ne]; omega
        go_enter Try.func8, Try.ntmps8
        go_wp2_with fail
        refine (ehead_calls w).mono ?_
        rintro _ w1 ⟨rfl, hb1⟩
        have HB : Hid (Below w.heap.size w (w1.alloc (.cells #[.int .u8 cn] 5))) := hb1.alloc hb1.size _
        have HB1 := Lib.hid hb1
        have hcw := HCV.out w1
        clear hb1
        go_wp2_with (go_at_call 28; (first | (with_reducible refine (K0.out _).mono ?_) | (with_reducible refine (K1.out _).mono ?_) | (with_reducible refine (K2.out _).mono ?_) | (with_reducible refine (K3.out _).mono ?_) | (with_reducible refine (K4.out _).mono ?_) | (with_reducible refine (K5.out _).mono ?_)); rintro e wq ⟨rfl, hbq⟩; have HB := Lib.hid (HB.out.trans (hbq.mono HB.out.size)); clear hbq)
        go_ret
        exact ⟨by first | rfl | (simp; done) | (simp; omega), HB.out⟩
    · rw [decide_eq_false h16] at K2 K3
      rcases hcase with ⟨h1, h2⟩ | ⟨h1, h2⟩ | h1 | h1 | ⟨h1, h2, h3⟩ | h1
      · rw [decide_eq_true (show 97 ≤ cn ∧ cn ≤ 122 by omega)] at K1 K3
        rw [decide_eq_true (show 97 ≤ cn ∧ cn ≤ 122 by omega), decide_eq_false (show ¬ cn = 95 by omega), decide_eq_false (show ¬ (48 ≤ cn ∧ cn ≤ 57) by omega)] at K2
        simp only [Bool.true_and, Bool.or_false, Bool.or_self] at K2 K3
        go_enter Try.func8, Try.ntmps8
        go_wp2_with fail
        refine (ehead_calls w).mono ?_
        rintro _ w1 ⟨rfl, hb1⟩
        have HB : Hid (Below w.heap.size w (w1.alloc (.cells #[.int .u8 cn] 5))) := hb1.alloc hb1.size _
        have HB1 := Lib.hid hb1
        have hcw := HCV.out w1
        clear hb1
        go_wp2_with (go_at_call 28; (first | (with_reducible refine (K0.out _).mono ?_) | (with_reducible refine (K1.out _).mono ?_) | (with_reducible refine (K2.out _).mono ?_) | (with_reducible refine (K3.out _).mono ?_) | (with_reducible refine (K4.out _).mono ?_) | (with_reducible refine (K5.out _).mono ?_)); rintro e wq ⟨rfl, hbq⟩; have HB := Lib.hid (HB.out.trans (hbq.mono HB.out.size)); clear hbq)
        go_ret
        exact ⟨by first | rfl | (simp; done) | (simp; omega), HB.out⟩
      · rw [decide_eq_false (show ¬ (97 ≤ cn ∧ cn ≤ 122) by omega)] at K1 K3
        rw [decide_eq_false (show ¬ (97 ≤ cn ∧ cn ≤ 122) by omega), decide_eq_false (show ¬ cn = 95 by omega), decide_eq_true (show 48 ≤ cn ∧ cn ≤ 57 by omega)] at K2
        simp only [Bool.true_and, Bool.false_and, Bool.or_true] at K2 K3
        go_enter Try.func8, Try.ntmps8
        go_wp2_with fail
        refine (ehead_calls w).mono ?_
        rintro _ w1 ⟨rfl, hb1⟩
        have HB : Hid (Below w.heap.size w (w1.alloc (.cells #[.int .u8 cn] 5))) := hb1.alloc hb1.size _
        have HB1 := Lib.hid hb1
        have hcw := HCV.out w1
        clear hb1
        go_wp2_with (go_at_call 28; (first | (with_reducible refine (K0.out _).mono ?_) | (with_reducible refine (K1.out _).mono ?_) | (with_reducible refine (K2.out _).mono ?_) | (with_reducible refine (K3.out _).mono ?_) | (with_reducible refine (K4.out _).mono ?_) | (with_reducible refine (K5.out _).mono ?_)); rintro e wq ⟨rfl, hbq⟩; have HB := Lib.hid (HB.out.trans (hbq.mono HB.out.size)); clear hbq)
        go_ret
        exact ⟨by first | rfl | (simp; done) | (simp; omega), HB.out⟩
      · rw [decide_eq_false (show ¬ (97 ≤ cn ∧ cn ≤ 122) by omega)] at K1 K3
        rw [decide_eq_false (show ¬ (97 ≤ cn ∧ cn ≤ 122) by omega), decide_eq_true (show cn = 95 by omega), decide_eq_false (show ¬ (48 ≤ cn ∧ cn ≤ 57) by omega)] at K2
        simp only [Bool.true_and, Bool.false_and, Bool.or_true, Bool.or_false] at K2 K3
        subst h1
        go_enter Try.func8, Try.ntmps8
        go_wp2_with fail
        refine (ehead_calls w).mono ?_
        rintro _ w1 ⟨rfl, hb1⟩
        have HB : Hid (Below w.heap.size w (w1.alloc (.cells #[.int .u8 95] 5))) := hb1.alloc hb1.size _
        have HB1 := Lib.hid hb1
        have hcw : (convert 40 9 (.slice (some ⟨w1.heap.size, 0, none⟩) 1 1)).run Try.prog (w1.alloc (.cells #[.int .u8 95] 5)) = .ok (.string o) (w1.alloc (.cells #[.int .u8 95] 5)) := HCV.out w1
        clear hb1
        go_wp2_with (go_at_call 28; (first | (with_reducible refine (K0.out _).mono ?_) | (with_reducible refine (K1.out _).mono ?_) | (with_reducible refine (K2.out _).mono ?_) | (with_reducible refine (K3.out _).mono ?_) | (with_reducible refine (K4.out _).mono ?_) | (with_reducible refine (K5.out _).mono ?_)); rintro e wq ⟨rfl, hbq⟩; have HB := Lib.hid (HB.out.trans (hbq.mono HB.out.size)); clear hbq)
        go_ret
        exact ⟨by first | rfl | (simp; done) | (simp; omega), HB.out⟩
      · rw [decide_eq_false (show ¬ (97 ≤ cn ∧ cn ≤ 122) by omega)] at K1 K3
        rw [decide_eq_false (show ¬ (97 ≤ cn ∧ cn ≤ 122) by omega), decide_eq_false (show ¬ cn = 95 by omega), decide_eq_false (show ¬ (48 ≤ cn ∧ cn ≤ 57) by omega)] at K2
        simp only [Bool.false_and, Bool.or_self] at K2 K3
        have h4 : ((cn : Int) == 95) = false := by rw [beq_eq_false_iff_ne]; omega
        go_enter Try.func8, Try.ntmps8
        go_wp2_with fail
        refine (ehead_calls w).mono ?_
        rintro _ w1 ⟨rfl, hb1⟩
        have HB : Hid (Below w.heap.size w (w1.alloc (.cells #[.int .u8 cn] 5))) := hb1.alloc hb1.size _
        have HB1 := Lib.hid hb1
        have hcw := HCV.out w1
        clear hb1
        go_wp2_with (go_at_call 28; (first | (with_reducible refine (K0.out _).mono ?_) | (with_reducible refine (K1.out _).mono ?_) | (with_reducible refine (K2.out _).mono ?_) | (with_reducible refine (K3.out _).mono ?_) | (with_reducible refine (K4.out _).mono ?_) | (with_reducible refine (K5.out _).mono ?_)); rintro e wq ⟨rfl, hbq⟩; have HB := Lib.hid (HB.out.trans (hbq.mono HB.out.size)); clear hbq)
        go_ret
        exact ⟨by first | rfl | (simp; done) | (simp; omega), HB.out⟩
      · rw [decide_eq_false (show ¬ (97 ≤ cn ∧ cn ≤ 122) by omega)] at K1 K3
        rw [decide_eq_false (show ¬ (97 ≤ cn ∧ cn ≤ 122) by omega), decide_eq_false (show ¬ cn = 95 by omega), decide_eq_false (show ¬ (48 ≤ cn ∧ cn ≤ 57) by omega)] at K2
        simp only [Bool.false_and, Bool.or_self] at K2 K3
        have h4 : ((cn : Int) == 95) = false := by rw [beq_eq_false_iff_ne]; omega
        go_enter Try.func8, Try.ntmps8
        go_wp2_with fail
        refine (ehead_calls w).mono ?_
        rintro _ w1 ⟨rfl, hb1⟩
        have HB : Hid (Below w.heap.size w (w1.alloc (.cells #[.int .u8 cn] 5))) := hb1.alloc hb1.size _
        have HB1 := Lib.hid hb1
        have hcw := HCV.out w1
        clear hb1
        go_wp2_with (go_at_call 28; (first | (with_reducible refine (K0.out _).mono ?_) | (with_reducible refine (K1.out _).mono ?_) | (with_reducible refine (K2.out _).mono ?_) | (with_reducible refine (K3.out _).mono ?_) | (with_reducible refine (K4.out _).mono ?_) | (with_reducible refine (K5.out _).mono ?_)); rintro e wq ⟨rfl, hbq⟩; have HB := Lib.hid (HB.out.trans (hbq.mono HB.out.size)); clear hbq)
        go_ret
        exact ⟨by first | rfl | (simp; done) | (simp; omega), HB.out⟩
      · rw [decide_eq_false (show ¬ (97 ≤ cn ∧ cn ≤ 122) by omega)] at K1 K3
        rw [decide_eq_false (show ¬ (97 ≤ cn ∧ cn ≤ 122) by omega), decide_eq_false (show ¬ cn = 95 by omega), decide_eq_false (show ¬ (48 ≤ cn ∧ cn ≤ 57) by omega)] at K2
        simp only [Bool.false_and, Bool.or_self] at K2 K3
        have h4 : ((cn : Int) == 95) = false := by rw [beq_eq_false_iff_ne]; omega
        go_enter Try.func8, Try.ntmps8
        go_wp2_with fail
        refine (ehead_calls w).mono ?_
        rintro _ w1 ⟨rfl, hb1⟩
        have HB : Hid (Below w.heap.size w (w1.alloc (.cells #[.int .u8 cn] 5))) := hb1.alloc hb1.size _
        have HB1 := Lib.hid hb1
        have hcw := HCV.out w1
        clear hb1
        go_wp2_with (go_at_call 28; (first | (with_reducible refine (K0.out _).mono ?_) | (with_reducible refine (K1.out _).mono ?_) | (with_reducible refine (K2.out _).mono ?_) | (with_reducible refine (K3.out _).mono ?_) | (with_reducible refine (K4.out _).mono ?_) | (with_reducible refine (K5.out _).mono ?_)); rintro e wq ⟨rfl, hbq⟩; have HB := Lib.hid (HB.out.trans (hbq.mono HB.out.size)); clear hbq)
        go_ret
        exact ⟨by first | rfl | (simp; done) | (simp; omega), HB.out⟩

end Go.Proofs.Ytfmlgckfcclojaa

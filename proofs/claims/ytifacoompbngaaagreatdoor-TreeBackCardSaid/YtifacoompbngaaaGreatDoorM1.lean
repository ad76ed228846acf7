/- Queries: expressions in memory; fields, calls, values. | Queries: calls and values. | Queries: values. | Queries in plain words: nothing that is read makes more tokens. -/
import Derived.Test.YtifacoompbngaaaGreatDoorM0
namespace Go.Proofs.YtifacoompbngaaaGreatDoor
open Go.RowKit Go.Lib Go.Op

/-- A block of cells that nothing froze. -/
def UBlk (w : World) (g : Nat) : Prop := ∃ cs t, w.heap[g]? = some (.cells cs t (0, 0))
theorem UBlk.keep {K : Nat → Prop} {w w' : World} (hf : TFr K w w') {g : Nat} (hg : ¬ K g) (h : UBlk w g) : UBlk w' g := by
  obtain ⟨cs, t, hb⟩ := h
  exact ⟨cs, t, (hf.block g (Array.getElem?_eq_some_iff.1 hb).1 hg).trans hb⟩
/-- The Kids of an expression in memory; K 0 says that nothing froze their rows, too. -/
def ExK (K : Nat → Prop) (w : World) : Nat → Value → List PEx → Prop
  | 0, kv, ks => (∃ a c, kv = .slice a 0 c) ∧ ks = []
  | d + 1, kv, ks => ∃ a c, kv = .slice a ks.length c ∧ ∀ j x, ks[j]? = some x → ∃ g o kv', a = some ⟨g, o, none⟩ ∧ (¬ K g ∧ (K 0 → UBlk w g)) ∧
      (w.cell? ⟨g, o + j * 7, none⟩ = some (.int .i64 x.k) ∧ w.cell? ⟨g, o + j * 7 + 1, none⟩ = some (.int .i64 x.v.k) ∧ w.cell? ⟨g, o + j * 7 + 2, none⟩ = some (.int .i64 x.v.n) ∧ w.cell? ⟨g, o + j * 7 + 3, none⟩ = some (.string (strB x.v.s)) ∧ w.cell? ⟨g, o + j * 7 + 4, none⟩ = some (.string (strB x.x)) ∧ w.cell? ⟨g, o + j * 7 + 5, none⟩ = some (.string (strB x.f)) ∧ w.cell? ⟨g, o + j * 7 + 6, none⟩ = some kv') ∧
      ExK K w d kv' x.ks
theorem ExK.slice {K : Nat → Prop} {w : World} {d : Nat} {kv : Value} {ks : List PEx} (h : ExK K w d kv ks) : ∃ a c, kv = .slice a ks.length c := by
  cases d with
  | zero => obtain ⟨⟨a, c, rfl⟩, rfl⟩ := h; exact ⟨a, c, rfl⟩
  | succ d => obtain ⟨a, c, rfl, _⟩ := h; exact ⟨a, c, rfl⟩
theorem ExK.keep {K : Nat → Prop} {w w' : World} (hf : TFr K w w') : ∀ {d : Nat} {kv : Value} {ks : List PEx}, ExK K w d kv ks → ExK K w' d kv ks
  | 0, _, _, h => h
  | d + 1, kv, ks, ⟨a, c, e, h⟩ => ⟨a, c, e, fun j x hj => by
    obtain ⟨g, o, kv', ea, hg, ⟨h0, h1, h2, h3, h4, h5, h6⟩, hk⟩ := h j x hj
    exact ⟨g, o, kv', ea, ⟨hg.1, fun z => (hg.2 z).keep hf hg.1⟩, ⟨hf.cell h0 hg.1, hf.cell h1 hg.1, hf.cell h2 hg.1, hf.cell h3 hg.1, hf.cell h4 hg.1, hf.cell h5 hg.1, hf.cell h6 hg.1⟩, ExK.keep hf hk⟩⟩
theorem ExK.mono {K K' : Nat → Prop} (hs : ∀ k, K' k → K k) {w : World} : ∀ {d : Nat} {kv : Value} {ks : List PEx}, ExK K w d kv ks → ExK K' w d kv ks
  | 0, _, _, h => h
  | d + 1, kv, ks, ⟨a, c, e, h⟩ => ⟨a, c, e, fun j x hj => by
    obtain ⟨g, o, kv', ea, hg, hc, hk⟩ := h j x hj
    exact ⟨g, o, kv', ea, ⟨fun hn => hg.1 (hs g hn), fun z => hg.2 (hs 0 z)⟩, hc, ExK.mono hs hk⟩⟩
theorem ExK.up {K : Nat → Prop} {w : World} : ∀ {d : Nat} {kv : Value} {ks : List PEx}, ExK K w d kv ks → ExK K w (d + 1) kv ks
  | 0, kv, ks, ⟨⟨a, c, e⟩, h0⟩ => by
    subst h0
    exact ⟨a, c, e, fun j x hj => by simp at hj⟩
  | d + 1, kv, ks, ⟨a, c, e, h⟩ => ⟨a, c, e, fun j x hj => by
    obtain ⟨g, o, kv', ea, hg, hc, hk⟩ := h j x hj
    exact ⟨g, o, kv', ea, hg, hc, ExK.up hk⟩⟩
theorem ExK.le {K : Nat → Prop} {w : World} {d : Nat} {kv : Value} {ks : List PEx} (h : ExK K w d kv ks) : ∀ {e : Nat}, d ≤ e → ExK K w e kv ks := fun {e} he => by
  induction e with
  | zero => obtain rfl : d = 0 := by omega
            exact h
  | succ e ih =>
    by_cases h2 : d = e + 1
    · rw [← h2]; exact h
    · exact (ih (by omega)).up
theorem ExK.nil (K : Nat → Prop) (w : World) : ExK K w 0 (.slice none 0 0) [] := ⟨⟨none, 0, rfl⟩, rfl⟩

theorem ExK.keepR {K : Nat → Prop} {R : Nat} {w w' : World} {d : Nat} {kv : Value} {ks : List PEx} (h : ExK K w d kv ks) (hf : TFr (· = R) w w') (hR : K R) : ExK K w' d kv ks := h.keep (hf.mono (fun _ _ e => e ▸ hR))
theorem ExK.set {K : Nat → Prop} {w : World} {d : Nat} {kv : Value} {ks : List PEx} (h : ExK K w d kv ks) {b : Nat} (hb : K b) (k : Nat) (v : Value) : ExK K (w.setCell ⟨b, k, none⟩ v) d kv ks := h.keepR (TFr.at b k v) hb
theorem ExK.after {w w1 : World} {W : World} {d : Nat} {kv : Value} {ks : List PEx} (h : ExK (· < w1.heap.size) W d kv ks) (hb : w.heap.size ≤ w1.heap.size) : ExK (· < w.heap.size) W d kv ks := h.mono (fun _ hk => Nat.lt_of_lt_of_le hk hb)

/-- An expression in a block of its own. -/
def XBlk (w : World) (b : Nat) (t0 t1 t2 t3 t4 t5 t6 : Value) : Prop := w.heap[b]? = some (.cells #[t0, t1, t2, t3, t4, t5, t6] 38 (0, 0))
section
variable {w w' : World} {b : Nat} {t0 t1 t2 t3 t4 t5 t6 : Value}
theorem XBlk.new (w : World) (t0 t1 t2 t3 t4 t5 t6 : Value) : XBlk (w.alloc (.cells #[t0, t1, t2, t3, t4, t5, t6] 38)) w.heap.size t0 t1 t2 t3 t4 t5 t6 := heap_alloc_new w _
theorem XBlk.all (h : XBlk w b t0 t1 t2 t3 t4 t5 t6) : w.cell? ⟨b, 0, none⟩ = some t0 ∧ w.cell? ⟨b, 1, none⟩ = some t1 ∧ w.cell? ⟨b, 2, none⟩ = some t2 ∧ w.cell? ⟨b, 3, none⟩ = some t3 ∧ w.cell? ⟨b, 4, none⟩ = some t4 ∧ w.cell? ⟨b, 5, none⟩ = some t5 ∧ w.cell? ⟨b, 6, none⟩ = some t6 ∧ w.frozen? ⟨b, 0, none⟩ = false ∧ w.frozen? ⟨b, 1, none⟩ = false ∧ w.frozen? ⟨b, 2, none⟩ = false ∧ w.frozen? ⟨b, 3, none⟩ = false ∧ w.frozen? ⟨b, 4, none⟩ = false ∧ w.frozen? ⟨b, 5, none⟩ = false ∧ w.frozen? ⟨b, 6, none⟩ = false := ⟨tcell_of_blk h rfl, tcell_of_blk h rfl, tcell_of_blk h rfl, tcell_of_blk h rfl, tcell_of_blk h rfl, tcell_of_blk h rfl, tcell_of_blk h rfl, tfrozen_of_blk h, tfrozen_of_blk h, tfrozen_of_blk h, tfrozen_of_blk h, tfrozen_of_blk h, tfrozen_of_blk h, tfrozen_of_blk h⟩
theorem XBlk.keep {K : Nat → Prop} (h : XBlk w b t0 t1 t2 t3 t4 t5 t6) (hf : TFr K w w') (hk : ¬ K b) : XBlk w' b t0 t1 t2 t3 t4 t5 t6 := (hf.block b (Array.getElem?_eq_some_iff.1 h).1 hk).trans h
theorem XBlk.set4 (h : XBlk w b t0 t1 t2 t3 t4 t5 t6) (v : Value) : XBlk (w.setCell ⟨b, 4, none⟩ v) b t0 t1 t2 t3 v t5 t6 := by
  unfold XBlk
  rw [tsetCell_blk h]
  rfl
theorem XBlk.set5 (h : XBlk w b t0 t1 t2 t3 t4 t5 t6) (v : Value) : XBlk (w.setCell ⟨b, 5, none⟩ v) b t0 t1 t2 t3 t4 v t6 := by
  unfold XBlk
  rw [tsetCell_blk h]
  rfl
theorem XBlk.lt (h : XBlk w b t0 t1 t2 t3 t4 t5 t6) : b < w.heap.size := (Array.getElem?_eq_some_iff.1 h).1
end

theorem RdTo.set {w w' : World} {R T E : Nat} {s : RS} (h : RdTo R T E s w w') (hR : R < w.heap.size) {b : Nat} (hb : w.heap.size ≤ b) (k : Nat) (v : Value) : RdTo R T E s w (w'.setCell ⟨b, k, none⟩ v) :=
  ⟨h.rd.other (TFr.at b k v) (fun j hj e => by omega), h.fr.setCell (p := ⟨b, k, none⟩) (fun hlt => absurd hlt (by show ¬ b < _; omega)) v⟩
theorem RdTo.set7 {w w' : World} {R T E : Nat} {s : RS} (h : RdTo R T E s w w') (hR : R < w.heap.size) {b : Nat} (hb : w.heap.size ≤ b) (t0 t1 t2 t3 t4 t5 t6 : Value) : RdTo R T E s w (((((((w'.setCell ⟨b, 0, none⟩ t0).setCell ⟨b, 1, none⟩ t1).setCell ⟨b, 2, none⟩ t2).setCell ⟨b, 3, none⟩ t3).setCell ⟨b, 4, none⟩ t4).setCell ⟨b, 5, none⟩ t5).setCell ⟨b, 6, none⟩ t6) :=
  ((((((h.set hR hb _ _).set hR hb _ _).set hR hb _ _).set hR hb _ _).set hR hb _ _).set hR hb _ _).set hR hb _ _
theorem ExK.set7 {K : Nat → Prop} {w : World} {d : Nat} {kv : Value} {ks : List PEx} (h : ExK K w d kv ks) {b : Nat} (hb : K b) (t0 t1 t2 t3 t4 t5 t6 : Value) : ExK K (((((((w.setCell ⟨b, 0, none⟩ t0).setCell ⟨b, 1, none⟩ t1).setCell ⟨b, 2, none⟩ t2).setCell ⟨b, 3, none⟩ t3).setCell ⟨b, 4, none⟩ t4).setCell ⟨b, 5, none⟩ t5).setCell ⟨b, 6, none⟩ t6) d kv ks :=
  ((((((h.set hb _ _).set hb _ _).set hb _ _).set hb _ _).set hb _ _).set hb _ _).set hb _ _

def exV (x : PEx) (kv : Value) : Value := .agg #[.int .i64 x.k, .int .i64 x.v.k, .int .i64 x.v.n, .string (strB x.v.s), .string (strB x.x), .string (strB x.f), kv]
/-- What a call leaves that reads an expression. -/
def ExTo (R T E : Nat) (p : PEx × RS) (w : World) (e : Ending) (w' : World) : Prop := ∃ kv d, e = .returned (exV p.1 kv) ∧ ExK (· < w.heap.size) w' d kv p.1.ks ∧ RdTo R T E p.2 w w'

section
variable {w : World} {R T E : Nat} {s : RS}

set_option maxHeartbeats 1000000 in
set_option maxRecDepth 100000 in
theorem fieldX_calls (h : RdR w R T E s) (k : Int) : Calls Tryz.prog 277 #[.pointer (some ⟨R, 0, none⟩), .int .i64 k] w (ExTo R T E (fieldT E s k) w) := by
  have H := Lib.hid h
  have hR := h.lt
  obtain ⟨a, ha⟩ : ∃ a, nameT E s = a := ⟨_, rfl⟩
  obtain ⟨b, hb⟩ : ∃ b, nameT E (needT E a.2 4 [46]) = b := ⟨_, rfl⟩
  have hs : fieldT E s k = (.mk k noV a.1 b.1 [], b.2) := by unfold fieldT; rw [ha]; dsimp only; rw [hb]
  rw [hs]
  have HBB := Lib.hid hb
  have hb1 := (Below.refl w.heap.size w).alloc (Nat.le_refl _) (.cells #[.int .i64 0, .int .i64 0, .int .i64 0, .string ⟨#[]⟩, .string ⟨#[]⟩, .string ⟨#[]⟩, .slice none 0 0] 38)
  have hb2 := hb1.alloc hb1.size (.cells #[.int .i64 k, .int .i64 0, .int .i64 0, .string ⟨#[]⟩, .string ⟨#[]⟩, .string ⟨#[]⟩, .slice none 0 0] 38)
  have hx4 := (XBlk.new w (.int .i64 0) (.int .i64 0) (.int .i64 0) (.string ⟨#[]⟩) (.string ⟨#[]⟩) (.string ⟨#[]⟩) (.slice none 0 0)).keep (TFr.of_below (K := fun _ => False) ((Below.refl _ _).alloc (Nat.le_refl _) (.cells #[.int .i64 k, .int .i64 0, .int .i64 0, .string ⟨#[]⟩, .string ⟨#[]⟩, .string ⟨#[]⟩, .slice none 0 0] 38))) id
  have hx5 := XBlk.new (w.alloc (.cells #[.int .i64 0, .int .i64 0, .int .i64 0, .string ⟨#[]⟩, .string ⟨#[]⟩, .string ⟨#[]⟩, .slice none 0 0] 38)) (.int .i64 k) (.int .i64 0) (.int .i64 0) (.string ⟨#[]⟩) (.string ⟨#[]⟩) (.string ⟨#[]⟩) (.slice none 0 0)
  rw [show (w.alloc (.cells #[.int .i64 0, .int .i64 0, .int .i64 0, .string ⟨#[]⟩, .string ⟨#[]⟩, .string ⟨#[]⟩, .slice none 0 0] 38)).heap.size = w.heap.size + 1 by simp] at hx5
  have HN := Lib.hid (nameR_calls (h.keep hb2))
  rw [ha] at HN
  have HB2 := Lib.hid hb2
  have HX4 := Lib.hid hx4
  have HX5 := Lib.hid hx5
  clear h ha hb hs hb1 hb2 hx4 hx5
  go_enter Tryz.func277, Tryz.ntmps277
  go_wp2_with fail
  with_reducible refine HN.out.mono ?_
  rintro e w1 ⟨rfl, hd1⟩
  have hf1 := hd1.fr
  have y4 := Lib.hid (HX4.out.keep hf1 (by omega))
  have y5 := HX5.out.keep hf1 (by omega)
  have D1 := Lib.hid (RdTo.after HB2.out hd1)
  clear hd1 hf1
  have Y5 := Lib.hid (y5.set4 (.string (strB a.1)))
  obtain ⟨c0, c1, c2, c3, c4, c5, c6, f0, f1, f2, f3, f4, f5, f6⟩ := y5.all
  have D2 := Lib.hid (D1.out.set hR (b := w.heap.size + 1) (by omega) 4 (.string (strB a.1)))
  have Y4 := Lib.hid (y4.out.keep (TFr.at (w.heap.size + 1) 4 (.string (strB a.1))) (by omega))
  clear y4 y5
  have HM := Lib.hid (fun W => sign_mark ⟨#[46]⟩ W)
  go_wp2_with fail
  with_reducible refine (HM.out _).mono ?_
  rintro e w2 ⟨rfl, hb2⟩
  have D3 := Lib.hid (D2.out.then hb2)
  have Z4 := Lib.hid (Y4.out.keep (TFr.of_below (K := fun _ => False) hb2) id)
  have Z5 := Lib.hid (Y5.out.keep (TFr.of_below (K := fun _ => False) hb2) id)
  have HND : Hid (Calls Tryz.prog 97 #[.pointer (some ⟨R, 0, none⟩), .agg #[.int .i64 4, .string ⟨#[46]⟩]] w2 fun e w' => e = .returned (.tuple #[]) ∧ RdTo R T E (needT E a.2 4 [46]) w2 w') := needS_calls D3.out.rd [46]
  clear hb2 Y4 Y5 D2 HM c0 c1 c2 c3 c4 c5 c6 f0 f1 f2 f3 f4 f5 f6
  go_wp2_with fail
  with_reducible refine HND.out.mono ?_
  rintro e w3 ⟨rfl, hd3⟩
  have V4 := Lib.hid (Z4.out.keep hd3.fr (by omega))
  have V5 := Lib.hid (Z5.out.keep hd3.fr (by omega))
  have D4 := Lib.hid (D3.out.trans hd3)
  have HN2 := nameR_calls hd3.rd
  rw [HBB.out] at HN2
  have HN3 := Lib.hid HN2
  clear hd3 Z4 Z5 HN2
  go_wp2_with fail
  with_reducible refine HN3.out.mono ?_
  rintro e w4 ⟨rfl, hd4⟩
  have U4 := Lib.hid ((V4.out.keep hd4.fr (by omega)).keep (TFr.at (w.heap.size + 1) 5 (.string (strB b.1))) (by omega))
  have u5 := V5.out.keep hd4.fr (by omega)
  obtain ⟨c0, c1, c2, c3, c4, c5, c6, f0, f1, f2, f3, f4, f5, f6⟩ := u5.all
  obtain ⟨d0, d1, d2, d3, d4, d5, d6, g0, g1, g2, g3, g4, g5, g6⟩ := (u5.set5 (.string (strB b.1))).all
  obtain ⟨r0, r1, r2, r3, r4, r5, r6, h0, h1, h2, h3, h4, h5, h6⟩ := U4.out.all
  have D5 := Lib.hid ((D4.out.trans hd4).set hR (b := w.heap.size + 1) (by omega) 5 (.string (strB b.1)))
  clear hd4 V4 V5 u5 U4 HBB HN HN3
  go_wp2
  refine bodyPost_ret (v := exV (.mk k noV a.1 b.1 []) (.slice none 0 0)) (by simp [results, Tryz.results277, go_sem, r0, r1, r2, r3, r4, r5, r6]; rfl) rfl ⟨_, 0, rfl, ExK.nil _ _, ?_⟩
  exact D5.out.set7 hR (Nat.le_refl _) _ _ _ _ _ _ _
end

end Go.Proofs.YtifacoompbngaaaGreatDoor
namespace Go.Proofs.YtifacoompbngaaaGreatDoor
open Go.RowKit Go.Lib Go.Op

section
variable {w w' : World} {b : Nat} {t0 t1 t2 t3 t4 t5 t6 : Value}
theorem XBlk.setAll (h : XBlk w b t0 t1 t2 t3 t4 t5 t6) (v0 v1 v2 v3 v4 v5 v6 : Value) : XBlk (((((((w.setCell ⟨b, 0, none⟩ v0).setCell ⟨b, 1, none⟩ v1).setCell ⟨b, 2, none⟩ v2).setCell ⟨b, 3, none⟩ v3).setCell ⟨b, 4, none⟩ v4).setCell ⟨b, 5, none⟩ v5).setCell ⟨b, 6, none⟩ v6) b v0 v1 v2 v3 v4 v5 v6 := by
  unfold XBlk at h ⊢
  rw [tsetCell_blk (tsetCell_blk (tsetCell_blk (tsetCell_blk (tsetCell_blk (tsetCell_blk (tsetCell_blk h _) _) _) _) _) _) _]
  rfl
theorem XBlk.past (h : XBlk w b t0 t1 t2 t3 t4 t5 t6) {b' : Nat} (hne : b ≠ b') (v0 v1 v2 v3 v4 v5 v6 : Value) : XBlk (((((((w.setCell ⟨b', 0, none⟩ v0).setCell ⟨b', 1, none⟩ v1).setCell ⟨b', 2, none⟩ v2).setCell ⟨b', 3, none⟩ v3).setCell ⟨b', 4, none⟩ v4).setCell ⟨b', 5, none⟩ v5).setCell ⟨b', 6, none⟩ v6) b t0 t1 t2 t3 t4 t5 t6 :=
  ((((((h.keep (TFr.at b' 0 v0) hne).keep (TFr.at b' 1 v1) hne).keep (TFr.at b' 2 v2) hne).keep (TFr.at b' 3 v3) hne).keep (TFr.at b' 4 v4) hne).keep (TFr.at b' 5 v5) hne).keep (TFr.at b' 6 v6) hne
end

section
variable {w : World} {R T E : Nat} {s : RS}

set_option maxHeartbeats 1000000 in
set_option maxRecDepth 100000 in
theorem callX_calls (h : RdR w R T E s) (k : Int) : Calls Tryz.prog 276 #[.pointer (some ⟨R, 0, none⟩), .int .i64 k] w (ExTo R T E (callT E s k) w) := by
  have hR := h.lt
  obtain ⟨s1, hs1⟩ : ∃ s1, needT E s 4 [40] = s1 := ⟨_, rfl⟩
  have hb1 := (Below.refl w.heap.size w).alloc (Nat.le_refl _) (.cells #[.int .i64 0, .int .i64 0, .int .i64 0, .string ⟨#[]⟩, .string ⟨#[]⟩, .string ⟨#[]⟩, .slice none 0 0] 38)
  have hb2 := hb1.alloc hb1.size (.cells #[.int .i64 0, .int .i64 0, .int .i64 0, .string ⟨#[]⟩, .string ⟨#[]⟩, .string ⟨#[]⟩, .slice none 0 0] 38)
  have hx4 := (XBlk.new w (.int .i64 0) (.int .i64 0) (.int .i64 0) (.string ⟨#[]⟩) (.string ⟨#[]⟩) (.string ⟨#[]⟩) (.slice none 0 0)).keep (TFr.of_below (K := fun _ => False) ((Below.refl _ _).alloc (Nat.le_refl _) (.cells #[.int .i64 0, .int .i64 0, .int .i64 0, .string ⟨#[]⟩, .string ⟨#[]⟩, .string ⟨#[]⟩, .slice none 0 0] 38))) id
  have hx5 := XBlk.new (w.alloc (.cells #[.int .i64 0, .int .i64 0, .int .i64 0, .string ⟨#[]⟩, .string ⟨#[]⟩, .string ⟨#[]⟩, .slice none 0 0] 38)) (.int .i64 0) (.int .i64 0) (.int .i64 0) (.string ⟨#[]⟩) (.string ⟨#[]⟩) (.string ⟨#[]⟩) (.slice none 0 0)
  rw [show (w.alloc (.cells #[.int .i64 0, .int .i64 0, .int .i64 0, .string ⟨#[]⟩, .string ⟨#[]⟩, .string ⟨#[]⟩, .slice none 0 0] 38)).heap.size = w.heap.size + 1 by simp] at hx5
  have HM := Lib.hid (fun W => sign_mark ⟨#[40]⟩ W)
  have HM2 := Lib.hid (fun W => sign_mark ⟨#[41]⟩ W)
  have H := Lib.hid (h.keep hb2)
  have HB2 := Lib.hid hb2
  have HX4 := Lib.hid hx4
  have HX5 := Lib.hid hx5
  by_cases hk : k = 3
  · obtain ⟨a, ha⟩ : ∃ a, nameT E s1 = a := ⟨_, rfl⟩
    have hs : callT E s k = (.mk 3 noV a.1 [] [], needT E a.2 4 [41]) := by unfold callT; rw [hs1]; dsimp only; rw [if_pos hk, ha]
    rw [hs]
    have HS1 := Lib.hid hs1
    have HA := Lib.hid ha
    subst hk
    clear h ha hs hb1 hb2 hx4 hx5 hs1
    go_enter Tryz.func276, Tryz.ntmps276
    go_wp2_with fail
    with_reducible refine (HM.out _).mono ?_
    rintro e w1 ⟨rfl, hb1⟩
    have Y4 := Lib.hid (HX4.out.keep (TFr.of_below (K := fun _ => False) hb1) id)
    have Y5 := Lib.hid (HX5.out.keep (TFr.of_below (K := fun _ => False) hb1) id)
    have HB1 := Lib.hid (HB2.out.trans (hb1.mono HB2.out.size))
    have hnd := needS_calls (H.out.keep hb1) [40]
    rw [HS1.out] at hnd
    have HND : Hid (Calls Tryz.prog 97 #[.pointer (some ⟨R, 0, none⟩), .agg #[.int .i64 4, .string ⟨#[40]⟩]] w1 fun e w' => e = .returned (.tuple #[]) ∧ RdTo R T E s1 w1 w') := hnd
    clear hb1 hnd HX4 HX5 HB2 H HM
    go_wp2_with fail
    with_reducible refine HND.out.mono ?_
    rintro e w2 ⟨rfl, hd2⟩
    have V4 := Lib.hid (Y4.out.keep hd2.fr (by omega))
    have V5 := Lib.hid (Y5.out.keep hd2.fr (by omega))
    have D2 := Lib.hid (RdTo.after HB1.out hd2)
    clear hd2 Y4 Y5 HND
    have hn := nameR_calls D2.out.rd
    rw [HA.out] at hn
    have HN := Lib.hid hn
    clear hn
    go_wp2_with fail
    with_reducible refine HN.out.mono ?_
    rintro e w3 ⟨rfl, hd3⟩
    have U4 := Lib.hid (V4.out.keep hd3.fr (by omega))
    have u5 := V5.out.keep hd3.fr (by omega)
    have D3 := Lib.hid (D2.out.trans hd3)
    clear hd3 V4 V5 HN D2
    have P5 := Lib.hid (u5.setAll (.int .i64 3) (.int .i64 0) (.int .i64 0) (.string ⟨#[]⟩) (.string (strB a.1)) (.string ⟨#[]⟩) (.slice none 0 0))
    have P4 := Lib.hid (U4.out.past (b' := w.heap.size + 1) (by omega) (.int .i64 3) (.int .i64 0) (.int .i64 0) (.string ⟨#[]⟩) (.string (strB a.1)) (.string ⟨#[]⟩) (.slice none 0 0))
    have D4 := Lib.hid (D3.out.set7 hR (b := w.heap.size + 1) (by omega) (.int .i64 3) (.int .i64 0) (.int .i64 0) (.string ⟨#[]⟩) (.string (strB a.1)) (.string ⟨#[]⟩) (.slice none 0 0))
    obtain ⟨c0, c1, c2, c3, c4, c5, c6, f0, f1, f2, f3, f4, f5, f6⟩ := u5.all
    clear u5 U4 D3
    go_wp2_with fail
    with_reducible refine (HM2.out _).mono ?_
    rintro e w4 ⟨rfl, hb4⟩
    have Q4 := Lib.hid (P4.out.keep (TFr.of_below (K := fun _ => False) hb4) id)
    have Q5 := Lib.hid (P5.out.keep (TFr.of_below (K := fun _ => False) hb4) id)
    have D5 := Lib.hid (D4.out.then hb4)
    skip
    have HNE : Hid (Calls Tryz.prog 97 #[.pointer (some ⟨R, 0, none⟩), .agg #[.int .i64 4, .string ⟨#[41]⟩]] w4 fun e w' => e = .returned (.tuple #[]) ∧ RdTo R T E (needT E a.2 4 [41]) w4 w') := needS_calls D5.out.rd [41]
    clear hb4 P4 P5 D4 HM2 c0 c1 c2 c3 c4 c5 c6 f0 f1 f2 f3 f4 f5 f6
    go_wp2_with fail
    with_reducible refine HNE.out.mono ?_
    rintro e w5 ⟨rfl, hd5⟩
    have W4 := (Q4.out.keep hd5.fr (by omega))
    have W5 := (Q5.out.keep hd5.fr (by omega))
    obtain ⟨d0, d1, d2, d3, d4, d5, d6, g0, g1, g2, g3, g4, g5, g6⟩ := W5.all
    obtain ⟨r0, r1, r2, r3, r4, r5, r6, h0, h1, h2, h3, h4, h5, h6⟩ := W4.all
    have D6 := Lib.hid (D5.out.trans hd5)
    skip
    clear hd5 Q4 Q5 W4 W5 HNE D5
    go_wp2
    refine bodyPost_ret (v := exV (.mk 3 noV a.1 [] []) (.slice none 0 0)) (by simp [results, Tryz.results276, go_sem, r0, r1, r2, r3, r4, r5, r6]; rfl) rfl ⟨_, 0, rfl, ExK.nil _ _, ?_⟩
    exact D6.out.set7 hR (Nat.le_refl _) _ _ _ _ _ _ _
  · obtain ⟨a, ha⟩ : ∃ a, fieldT E s1 k = a := ⟨_, rfl⟩
    have hs : callT E s k = (a.1, needT E a.2 4 [41]) := by unfold callT; rw [hs1]; dsimp only; rw [if_neg hk, ha]
    rw [hs]
    have HS1 := Lib.hid hs1
    have HA := Lib.hid ha
    have ht : (k == 3) = false := by rw [beq_eq_false_iff_ne]; exact hk
    clear h ha hs hb1 hb2 hx4 hx5 hs1
    go_enter Tryz.func276, Tryz.ntmps276
    go_wp2_with fail
    with_reducible refine (HM.out _).mono ?_
    rintro e w1 ⟨rfl, hb1⟩
    have Y4 := Lib.hid (HX4.out.keep (TFr.of_below (K := fun _ => False) hb1) id)
    have Y5 := Lib.hid (HX5.out.keep (TFr.of_below (K := fun _ => False) hb1) id)
    have HB1 := Lib.hid (HB2.out.trans (hb1.mono HB2.out.size))
    have hnd := needS_calls (H.out.keep hb1) [40]
    rw [HS1.out] at hnd
    have HND : Hid (Calls Tryz.prog 97 #[.pointer (some ⟨R, 0, none⟩), .agg #[.int .i64 4, .string ⟨#[40]⟩]] w1 fun e w' => e = .returned (.tuple #[]) ∧ RdTo R T E s1 w1 w') := hnd
    clear hb1 hnd HX4 HX5 HB2 H HM
    go_wp2_with fail
    with_reducible refine HND.out.mono ?_
    rintro e w2 ⟨rfl, hd2⟩
    have V4 := Lib.hid (Y4.out.keep hd2.fr (by omega))
    have V5 := Lib.hid (Y5.out.keep hd2.fr (by omega))
    have D2 := Lib.hid (RdTo.after HB1.out hd2)
    clear hd2 Y4 Y5 HND
    have hn := fieldX_calls D2.out.rd k
    rw [HA.out] at hn
    have HN := Lib.hid hn
    clear hn
    go_wp2_with fail
    with_reducible refine HN.out.mono ?_
    rintro e w3 ⟨kv, d, rfl, hkv, hd3⟩
    obtain ⟨q, x⟩ := a
    dsimp only at hkv hd3
    have U4 := Lib.hid (V4.out.keep hd3.fr (by omega))
    have u5 := V5.out.keep hd3.fr (by omega)
    have D3 := Lib.hid (D2.out.trans hd3)
    have hsz := V5.out.lt
    have hR2 : R < w2.heap.size := by omega
    have K3 := Lib.hid hkv
    obtain ⟨ka, kc, rfl⟩ := hkv.slice
    obtain ⟨kl, hkl⟩ : ∃ kl, q.ks.length = kl := ⟨_, rfl⟩
    rw [hkl] at K3 ⊢
    unfold exV
    clear hkv hkl
    clear hd3 V4 V5 HN D2
    have P5 := Lib.hid (u5.setAll (.int .i64 q.k) (.int .i64 q.v.k) (.int .i64 q.v.n) (.string (strB q.v.s)) (.string (strB q.x)) (.string (strB q.f)) (.slice ka kl kc))
    have P4 := Lib.hid (U4.out.past (b' := w.heap.size + 1) (by omega) (.int .i64 q.k) (.int .i64 q.v.k) (.int .i64 q.v.n) (.string (strB q.v.s)) (.string (strB q.x)) (.string (strB q.f)) (.slice ka kl kc))
    have D4 := Lib.hid (D3.out.set7 hR (b := w.heap.size + 1) (by omega) (.int .i64 q.k) (.int .i64 q.v.k) (.int .i64 q.v.n) (.string (strB q.v.s)) (.string (strB q.x)) (.string (strB q.f)) (.slice ka kl kc))
    obtain ⟨c0, c1, c2, c3, c4, c5, c6, f0, f1, f2, f3, f4, f5, f6⟩ := u5.all
    clear u5 U4 D3
    go_wp2_with fail
    with_reducible refine (HM2.out _).mono ?_
    rintro e w4 ⟨rfl, hb4⟩
    have Q4 := Lib.hid (P4.out.keep (TFr.of_below (K := fun _ => False) hb4) id)
    have Q5 := Lib.hid (P5.out.keep (TFr.of_below (K := fun _ => False) hb4) id)
    have D5 := Lib.hid (D4.out.then hb4)
    have K4 := Lib.hid ((K3.out.set7 (b := w.heap.size + 1) hsz (.int .i64 q.k) (.int .i64 q.v.k) (.int .i64 q.v.n) (.string (strB q.v.s)) (.string (strB q.x)) (.string (strB q.f)) (.slice ka kl kc)).keepR (TFr.of_below (K := (· = R)) hb4) hR2)
    have HNE : Hid (Calls Tryz.prog 97 #[.pointer (some ⟨R, 0, none⟩), .agg #[.int .i64 4, .string ⟨#[41]⟩]] w4 fun e w' => e = .returned (.tuple #[]) ∧ RdTo R T E (needT E x 4 [41]) w4 w') := needS_calls D5.out.rd [41]
    clear hb4 P4 P5 D4 HM2 c0 c1 c2 c3 c4 c5 c6 f0 f1 f2 f3 f4 f5 f6
    go_wp2_with fail
    with_reducible refine HNE.out.mono ?_
    rintro e w5 ⟨rfl, hd5⟩
    have W4 := (Q4.out.keep hd5.fr (by omega))
    have W5 := (Q5.out.keep hd5.fr (by omega))
    obtain ⟨d0, d1, d2, d3, d4, d5, d6, g0, g1, g2, g3, g4, g5, g6⟩ := W5.all
    obtain ⟨r0, r1, r2, r3, r4, r5, r6, h0, h1, h2, h3, h4, h5, h6⟩ := W4.all
    have D6 := Lib.hid (D5.out.trans hd5)
    have K5 := Lib.hid (K4.out.keepR hd5.fr hR2)
    clear hd5 Q4 Q5 W4 W5 HNE D5
    go_wp2
    refine bodyPost_ret (v := exV q (.slice ka kl kc)) (by simp [results, Tryz.results276, go_sem, r0, r1, r2, r3, r4, r5, r6]; rfl) rfl ⟨_, d, rfl, (K5.out.set7 (b := w.heap.size) (by show w.heap.size < w2.heap.size; omega) _ _ _ _ _ _ _).after (by omega), ?_⟩
    exact D6.out.set7 hR (Nat.le_refl _) _ _ _ _ _ _ _
end

end Go.Proofs.YtifacoompbngaaaGreatDoor
namespace Go.Proofs.YtifacoompbngaaaGreatDoor
open Go.RowKit Go.Lib Go.Op

/-- A value in a block of its own. -/
def VBlk (w : World) (b : Nat) (t0 t1 t2 : Value) : Prop := w.heap[b]? = some (.cells #[t0, t1, t2] 35 (0, 0))
section
variable {w w' : World} {b : Nat} {t0 t1 t2 : Value}
theorem VBlk.new (w : World) (t0 t1 t2 : Value) : VBlk (w.alloc (.cells #[t0, t1, t2] 35)) w.heap.size t0 t1 t2 := heap_alloc_new w _
theorem VBlk.all (h : VBlk w b t0 t1 t2) : w.cell? ⟨b, 0, none⟩ = some t0 ∧ w.cell? ⟨b, 1, none⟩ = some t1 ∧ w.cell? ⟨b, 2, none⟩ = some t2 ∧ w.frozen? ⟨b, 0, none⟩ = false ∧ w.frozen? ⟨b, 1, none⟩ = false ∧ w.frozen? ⟨b, 2, none⟩ = false := ⟨tcell_of_blk h rfl, tcell_of_blk h rfl, tcell_of_blk h rfl, tfrozen_of_blk h, tfrozen_of_blk h, tfrozen_of_blk h⟩
theorem VBlk.keep {K : Nat → Prop} (h : VBlk w b t0 t1 t2) (hf : TFr K w w') (hk : ¬ K b) : VBlk w' b t0 t1 t2 := (hf.block b (Array.getElem?_eq_some_iff.1 h).1 hk).trans h
end

theorem two_index0 (a b : Value) (W : World) : (Instr.index 305 (.agg #[a, b]) (.int .i64 0)).run Tryz.prog W = .ok a W := by kernel_rfl
theorem two_index1 (a b : Value) (W : World) : (Instr.index 305 (.agg #[a, b]) (.int .i64 1)).run Tryz.prog W = .ok b W := by kernel_rfl

/-- What a call leaves that reads a value. -/
def ValTo (R T E : Nat) (p : PVal × Bool × RS) (w : World) (e : Ending) (w' : World) : Prop := e = .returned (.tuple #[.agg #[.int .i64 p.1.k, .int .i64 p.1.n, .string (strB p.1.s)], .bool p.2.1]) ∧ RdTo R T E p.2.2 w w'

section
variable {w : World} {R T E : Nat} {s : RS}

set_option maxHeartbeats 1000000 in
set_option maxRecDepth 100000 in
theorem val_num (h : RdR w R T E s) (hk : (nextT E s).k = 2) : Calls Tryz.prog 273 #[.pointer (some ⟨R, 0, none⟩)] w (ValTo R T E (⟨1, (numberT E s).1, []⟩, true, (numberT E s).2) w) := by
  have hR := h.lt
  have hb0 := (Below.refl w.heap.size w).alloc (Nat.le_refl _) (.cells #[.int .i64 0, .int .i64 0, .string ⟨#[]⟩] 35)
  have HV := Lib.hid (VBlk.new w (.int .i64 0) (.int .i64 0) (.string ⟨#[]⟩))
  have H := Lib.hid (h.keep hb0)
  have HB0 := Lib.hid hb0
  obtain ⟨x, hx⟩ : ∃ x, nextT E s = x := ⟨_, rfl⟩
  rw [hx] at hk
  have HNX := Lib.hid (next_calls H.out)
  rw [hx] at HNX
  have hf := fun (v : Value) => field_kind v (.string (strB x.b)) (.int .i64 x.at_)
  rw [hk] at HNX
  have ht : (((2 : Nat) : Int) == 2) = true := rfl
  go_enter Tryz.func273, Tryz.ntmps273
  go_wp2_with fail
  with_reducible refine HNX.out.mono ?_
  rintro e w1 ⟨rfl, hb1⟩
  have HV1 := Lib.hid (HV.out.keep (TFr.of_below (K := fun _ => False) hb1) id)
  have D1 := Lib.hid (RdTo.of_below h (HB0.out.trans (hb1.mono HB0.out.size)))
  clear hb1
  have HNU := Lib.hid (numberR_calls D1.out.rd)
  go_wp2_with fail
  with_reducible refine HNU.out.mono ?_
  rintro e w2 ⟨rfl, hd⟩
  obtain ⟨r0, r1, r2, f0, f1, f2⟩ := (HV1.out.keep hd.fr (by omega)).all
  have D9 := Lib.hid (D1.out.trans hd)
  clear hd HV HV1 D1 HNU HNX h hb0 H HB0 hk hx
  go_wp2
  refine bodyPost_ret (v := .tuple #[.agg #[.int .i64 1, .int .i64 (numberT E s).1, .string ⟨#[]⟩], .bool true]) (by simp [results, Tryz.results273, go_sem, r0, r1, r2]) rfl ⟨rfl, ?_⟩
  exact ((D9.out.set hR (Nat.le_refl _) _ _).set hR (Nat.le_refl _) _ _).set hR (Nat.le_refl _) _ _

set_option maxHeartbeats 1000000 in
set_option maxRecDepth 100000 in
theorem val_minus (h : RdR w R T E s) (hk : (nextT E s).k ≠ 2) (hz : isT E s 4 [45] = true) : Calls Tryz.prog 273 #[.pointer (some ⟨R, 0, none⟩)] w (ValTo R T E (⟨1, - (numberT E (takeT E s 4 [45]).2).1, []⟩, true, (numberT E (takeT E s 4 [45]).2).2) w) := by
  have hR := h.lt
  have hb0 := (Below.refl w.heap.size w).alloc (Nat.le_refl _) (.cells #[.int .i64 0, .int .i64 0, .string ⟨#[]⟩] 35)
  have HV := Lib.hid (VBlk.new w (.int .i64 0) (.int .i64 0) (.string ⟨#[]⟩))
  have H := Lib.hid (h.keep hb0)
  have HB0 := Lib.hid hb0
  obtain ⟨x, hx⟩ : ∃ x, nextT E s = x := ⟨_, rfl⟩
  rw [hx] at hk
  have HNX := Lib.hid (next_calls H.out)
  rw [hx] at HNX
  have hf := fun (v : Value) => field_kind v (.string (strB x.b)) (.int .i64 x.at_)
  have ht : ((x.k : Int) == 2) = false := by rw [beq_eq_false_iff_ne]; omega
  obtain ⟨⟨z, s2⟩, hz2⟩ : ∃ z, numberT E (takeT E s 4 [45]).2 = z := ⟨_, rfl⟩
  rw [hz2]
  go_enter Tryz.func273, Tryz.ntmps273
  go_wp2_with fail
  with_reducible refine HNX.out.mono ?_
  rintro e w1 ⟨rfl, hb1⟩
  have HV1 := Lib.hid (HV.out.keep (TFr.of_below (K := fun _ => False) hb1) id)
  have D1 := Lib.hid (RdTo.of_below h (HB0.out.trans (hb1.mono HB0.out.size)))
  clear hb1
  have HM := Lib.hid (sign_mark ⟨#[45]⟩ w1)
  go_wp2_with fail
  with_reducible refine HM.out.mono ?_
  rintro e w2 ⟨rfl, hb2⟩
  have HV2 := Lib.hid (HV1.out.keep (TFr.of_below (K := fun _ => False) hb2) id)
  have D2 := Lib.hid (D1.out.then hb2)
  have htk := takeS_calls D2.out.rd [45]
  rw [hz] at htk
  have HT : Hid (Calls Tryz.prog 101 #[.pointer (some ⟨R, 0, none⟩), .agg #[.int .i64 4, .string ⟨#[45]⟩]] w2 fun e w' => e = .returned (.bool true) ∧ RdTo R T E (takeT E s 4 [45]).2 w2 w') := htk
  clear hb2 htk
  go_wp2_with fail
  with_reducible refine HT.out.mono ?_
  rintro e w3 ⟨rfl, hd3⟩
  have HV3 := Lib.hid (HV2.out.keep hd3.fr (by omega))
  have D3 := Lib.hid (D2.out.trans hd3)
  have HNU := Lib.hid (numberR_calls hd3.rd)
  obtain ⟨n1, n2⟩ := numberT_bd hd3.rd
  clear hd3
  rw [hz2] at HNU n1 n2
  dsimp only at HNU n1 n2
  go_wp2_with fail
  with_reducible refine HNU.out.mono ?_
  rintro e w4 ⟨rfl, hd⟩
  obtain ⟨r0, r1, r2, f0, f1, f2⟩ := (HV3.out.keep hd.fr (by omega)).all
  have D9 := Lib.hid (D3.out.trans hd)
  have hw : IntKind.i64.wrap (-z) = -z := IntWalk.i64_in (-z) (by omega)
  clear hd HV HV1 HV2 HV3 D1 D2 D3 HNU HNX HT HM h hb0 H HB0 hk hx hz hz2
  go_wp2
  refine bodyPost_ret (v := .tuple #[.agg #[.int .i64 1, .int .i64 (- z), .string ⟨#[]⟩], .bool true]) (by simp [results, Tryz.results273, go_sem, r0, r1, r2]) rfl ⟨rfl, ?_⟩
  exact ((D9.out.set hR (Nat.le_refl _) _ _).set hR (Nat.le_refl _) _ _).set hR (Nat.le_refl _) _ _

set_option maxHeartbeats 1000000 in
set_option maxRecDepth 100000 in
theorem val_quoted (h : RdR w R T E s) (_ : (nextT E s).k ≠ 2) (hz : isT E s 4 [45] = false) (hk : (nextT E s).k = 3) : Calls Tryz.prog 273 #[.pointer (some ⟨R, 0, none⟩)] w (ValTo R T E (⟨2, 0, (ofT E s 3).1⟩, true, (ofT E s 3).2) w) := by
  have hR := h.lt
  have hb0 := (Below.refl w.heap.size w).alloc (Nat.le_refl _) (.cells #[.int .i64 0, .int .i64 0, .string ⟨#[]⟩] 35)
  have HV := Lib.hid (VBlk.new w (.int .i64 0) (.int .i64 0) (.string ⟨#[]⟩))
  have H := Lib.hid (h.keep hb0)
  have HB0 := Lib.hid hb0
  obtain ⟨x, hx⟩ : ∃ x, nextT E s = x := ⟨_, rfl⟩
  rw [hx] at hk
  have HNX := Lib.hid (next_calls H.out)
  rw [hx] at HNX
  have hf := fun (v : Value) => field_kind v (.string (strB x.b)) (.int .i64 x.at_)
  rw [hk] at HNX
  have ht : (((3 : Nat) : Int) == 2) = false := rfl
  have ht3 : (((3 : Nat) : Int) == 3) = true := rfl
  go_enter Tryz.func273, Tryz.ntmps273
  go_wp2_with fail
  with_reducible refine HNX.out.mono ?_
  rintro e w1 ⟨rfl, hb1⟩
  have HV1 := Lib.hid (HV.out.keep (TFr.of_below (K := fun _ => False) hb1) id)
  have D1 := Lib.hid (RdTo.of_below h (HB0.out.trans (hb1.mono HB0.out.size)))
  clear hb1
  have HM := Lib.hid (sign_mark ⟨#[45]⟩ w1)
  go_wp2_with fail
  with_reducible refine HM.out.mono ?_
  rintro e w2 ⟨rfl, hb2⟩
  have HV2 := Lib.hid (HV1.out.keep (TFr.of_below (K := fun _ => False) hb2) id)
  have D2 := Lib.hid (D1.out.then hb2)
  have htk := takeS_calls D2.out.rd [45]
  rw [hz] at htk
  rw [takeT_no hz] at htk
  have HT : Hid (Calls Tryz.prog 101 #[.pointer (some ⟨R, 0, none⟩), .agg #[.int .i64 4, .string ⟨#[45]⟩]] w2 fun e w' => e = .returned (.bool false) ∧ RdTo R T E s w2 w') := htk
  clear hb2 htk
  go_wp2_with fail
  with_reducible refine HT.out.mono ?_
  rintro e w3 ⟨rfl, hd3⟩
  have HV3 := Lib.hid (HV2.out.keep hd3.fr (by omega))
  have D3 := Lib.hid (D2.out.trans hd3)
  have HNY := next_calls hd3.rd
  rw [hx, hk] at HNY
  have HNZ := Lib.hid HNY
  clear hd3 HNY
  go_wp2_with fail
  with_reducible refine HNZ.out.mono ?_
  rintro e w4 ⟨rfl, hb4⟩
  have HV4 := Lib.hid (HV3.out.keep (TFr.of_below (K := fun _ => False) hb4) id)
  have D4 := Lib.hid (D3.out.then hb4)
  clear hb4
  have HO := Lib.hid (of3_calls D4.out.rd)
  go_wp2_with fail
  with_reducible refine HO.out.mono ?_
  rintro e w5 ⟨rfl, hd⟩
  obtain ⟨r0, r1, r2, f0, f1, f2⟩ := (HV4.out.keep hd.fr (by omega)).all
  have D9 := Lib.hid (D4.out.trans hd)
  clear hd HV HV1 HV2 HV3 HV4 D1 D2 D3 D4 HO HNX HT HM HNZ h hb0 H HB0 hk hx hz
  go_wp2
  refine bodyPost_ret (v := .tuple #[.agg #[.int .i64 2, .int .i64 0, .string (strB (ofT E s 3).1)], .bool true]) (by simp [results, Tryz.results273, go_sem, r0, r1, r2]) rfl ⟨rfl, ?_⟩
  exact ((D9.out.set hR (Nat.le_refl _) _ _).set hR (Nat.le_refl _) _ _).set hR (Nat.le_refl _) _ _

/-- What is neither a number nor a quoted: a truth, or no value. -/
def truthT (E : Nat) (s : RS) : PVal × Bool × RS :=
  if isT E s 1 bFalse then (⟨3, 0, []⟩, true, (takeT E s 1 bFalse).2)
  else if isT E s 1 bTrue then (⟨3, 1, []⟩, true, (takeT E s 1 bTrue).2)
  else (noV, false, s)

set_option maxHeartbeats 1000000 in
set_option maxRecDepth 100000 in
theorem val_truth (h : RdR w R T E s) (hk : (nextT E s).k ≠ 2) (hz : isT E s 4 [45] = false) (hk3 : (nextT E s).k ≠ 3) : Calls Tryz.prog 273 #[.pointer (some ⟨R, 0, none⟩)] w (ValTo R T E (truthT E s) w) := by
  have hR := h.lt
  have hb0 := (Below.refl w.heap.size w).alloc (Nat.le_refl _) (.cells #[.int .i64 0, .int .i64 0, .string ⟨#[]⟩] 35)
  have HV := Lib.hid (VBlk.new w (.int .i64 0) (.int .i64 0) (.string ⟨#[]⟩))
  have H := Lib.hid (h.keep hb0)
  have HB0 := Lib.hid hb0
  obtain ⟨x, hx⟩ : ∃ x, nextT E s = x := ⟨_, rfl⟩
  rw [hx] at hk
  have HNX := Lib.hid (next_calls H.out)
  rw [hx] at HNX
  have hf := fun (v : Value) => field_kind v (.string (strB x.b)) (.int .i64 x.at_)
  rw [hx] at hk3
  have ht : ((x.k : Int) == 2) = false := by rw [beq_eq_false_iff_ne]; omega
  have ht3 : ((x.k : Int) == 3) = false := by rw [beq_eq_false_iff_ne]; omega
  go_enter Tryz.func273, Tryz.ntmps273
  go_wp2_with fail
  with_reducible refine HNX.out.mono ?_
  rintro e w1 ⟨rfl, hb1⟩
  have HV1 := Lib.hid (HV.out.keep (TFr.of_below (K := fun _ => False) hb1) id)
  have D1 := Lib.hid (RdTo.of_below h (HB0.out.trans (hb1.mono HB0.out.size)))
  clear hb1
  have HM := Lib.hid (sign_mark ⟨#[45]⟩ w1)
  go_wp2_with fail
  with_reducible refine HM.out.mono ?_
  rintro e w2 ⟨rfl, hb2⟩
  have HV2 := Lib.hid (HV1.out.keep (TFr.of_below (K := fun _ => False) hb2) id)
  have D2 := Lib.hid (D1.out.then hb2)
  have htk := takeS_calls D2.out.rd [45]
  rw [hz] at htk
  rw [takeT_no hz] at htk
  have HT : Hid (Calls Tryz.prog 101 #[.pointer (some ⟨R, 0, none⟩), .agg #[.int .i64 4, .string ⟨#[45]⟩]] w2 fun e w' => e = .returned (.bool false) ∧ RdTo R T E s w2 w') := htk
  clear hb2 htk
  go_wp2_with fail
  with_reducible refine HT.out.mono ?_
  rintro e w3 ⟨rfl, hd3⟩
  have HV3 := Lib.hid (HV2.out.keep hd3.fr (by omega))
  have D3 := Lib.hid (D2.out.trans hd3)
  have HNY := next_calls hd3.rd
  rw [hx] at HNY
  have HNZ := Lib.hid HNY
  clear hd3 HNY
  go_wp2_with fail
  with_reducible refine HNZ.out.mono ?_
  rintro e w4 ⟨rfl, hb4⟩
  have HV4 := Lib.hid (HV3.out.keep (TFr.of_below (K := fun _ => False) hb4) id)
  have D4 := Lib.hid (D3.out.then hb4)
  clear hb4
  obtain ⟨aa, cc, k4⟩ := D4.out.rd
  have u0 := k4.vars.t0
  have u1 := k4.vars.t1
  clear k4 HV HV1 HV2 HV3 D1 D2 D3 HNX HT HM HNZ hb0 H HB0 hk hx hz hk3
  go_wp2
  go_loopw [31] (fun i wr => ∃ j : Nat, i = .int .i64 j ∧ j ≤ 2 ∧ Hid (1 ≤ j → isT E s 1 bFalse = false) ∧ Hid (2 ≤ j → isT E s 1 bTrue = false) ∧ Hid (RdTo R T E s w wr) ∧ Hid (VBlk wr w.heap.size (.int .i64 0) (.int .i64 0) (.string ⟨#[]⟩))) (fun i _ => 2 - (RowKit.intOf i).toNat)
  case atStart => exact ⟨0, rfl, by omega, fun e => absurd e (by omega), fun e => absurd e (by omega), D4.out, HV4.out⟩
  case round =>
    obtain ⟨j, rfl, hj, HJ1, HJ2, HD, HW⟩ := hrel
    have hj3 : j = 0 ∨ j = 1 ∨ j = 2 := by omega
    rcases hj3 with rfl | rfl | rfl
    · have hix := two_index0 (.string ⟨#[102, 97, 108, 115, 101]⟩) (.string ⟨#[116, 114, 117, 101]⟩)
      have HM := Lib.hid (word_mark ⟨#[102, 97, 108, 115, 101]⟩ wr)
      cases hp : isT E s 1 bFalse with
      | true =>
        have hs : truthT E s = (⟨3, 0, []⟩, true, (takeT E s 1 bFalse).2) := by unfold truthT; rw [hp]; rfl
        rw [hs]
        go_wp2_with fail
        with_reducible refine HM.out.mono ?_
        rintro e w5 ⟨rfl, hb5⟩
        have HW5 := Lib.hid (HW.out.keep (TFr.of_below (K := fun _ => False) hb5) id)
        have D5 := Lib.hid (HD.out.then hb5)
        have htk := takeW_calls D5.out.rd bFalse
        rw [hp] at htk
        have HT : Hid (Calls Tryz.prog 101 #[.pointer (some ⟨R, 0, none⟩), .agg #[.int .i64 1, .string ⟨#[102, 97, 108, 115, 101]⟩]] w5 fun e w' => e = .returned (.bool true) ∧ RdTo R T E (takeT E s 1 bFalse).2 w5 w') := htk
        clear hb5 htk hs hp
        go_wp2_with fail
        with_reducible refine HT.out.mono ?_
        rintro e w6 ⟨rfl, hd⟩
        obtain ⟨r0, r1, r2, f0, f1, f2⟩ := (HW5.out.keep hd.fr (by omega)).all
        have D9 := Lib.hid (D5.out.trans hd)
        clear hd
        go_wp2
        refine bodyPost_ret (v := .tuple #[.agg #[.int .i64 3, .int .i64 0, .string ⟨#[]⟩], .bool true]) (by simp [results, Tryz.results273, go_sem, r0, r1, r2]) rfl ⟨rfl, ?_⟩
        exact ((D9.out.set hR (Nat.le_refl _) _ _).set hR (Nat.le_refl _) _ _).set hR (Nat.le_refl _) _ _
      | false =>
        go_wp2_with fail
        with_reducible refine HM.out.mono ?_
        rintro e w5 ⟨rfl, hb5⟩
        have HW5 := Lib.hid (HW.out.keep (TFr.of_below (K := fun _ => False) hb5) id)
        have D5 := Lib.hid (HD.out.then hb5)
        have htk := takeW_calls D5.out.rd bFalse
        rw [hp, takeT_no hp] at htk
        have HT : Hid (Calls Tryz.prog 101 #[.pointer (some ⟨R, 0, none⟩), .agg #[.int .i64 1, .string ⟨#[102, 97, 108, 115, 101]⟩]] w5 fun e w' => e = .returned (.bool false) ∧ RdTo R T E s w5 w') := htk
        have HP := Lib.hid hp
        clear hb5 htk hp
        go_wp2_with fail
        with_reducible refine HT.out.mono ?_
        rintro e w6 ⟨rfl, hd⟩
        have HW6 := Lib.hid (HW5.out.keep hd.fr (by omega))
        have D6 := Lib.hid (D5.out.trans hd)
        clear hd
        go_wp2
        go_round
        case rel => (refine ⟨1, by go_num, by omega, ?_, ?_, D6, HW6⟩ <;> first | exact (fun _ => HP.out) | exact (fun _ => HJ1.out (by omega)) | exact (fun e => absurd e (by omega)) | exact (fun _ => trivial) | trivial)
        case measure => simp [RowKit.intOf]
    · have hix := two_index1 (.string ⟨#[102, 97, 108, 115, 101]⟩) (.string ⟨#[116, 114, 117, 101]⟩)
      have HM := Lib.hid (word_mark ⟨#[116, 114, 117, 101]⟩ wr)
      cases hp : isT E s 1 bTrue with
      | true =>
        have hs : truthT E s = (⟨3, 1, []⟩, true, (takeT E s 1 bTrue).2) := by unfold truthT; rw [HJ1.out (by omega), hp]; rfl
        rw [hs]
        go_wp2_with fail
        with_reducible refine HM.out.mono ?_
        rintro e w5 ⟨rfl, hb5⟩
        have HW5 := Lib.hid (HW.out.keep (TFr.of_below (K := fun _ => False) hb5) id)
        have D5 := Lib.hid (HD.out.then hb5)
        have htk := takeW_calls D5.out.rd bTrue
        rw [hp] at htk
        have HT : Hid (Calls Tryz.prog 101 #[.pointer (some ⟨R, 0, none⟩), .agg #[.int .i64 1, .string ⟨#[116, 114, 117, 101]⟩]] w5 fun e w' => e = .returned (.bool true) ∧ RdTo R T E (takeT E s 1 bTrue).2 w5 w') := htk
        clear hb5 htk hs hp
        go_wp2_with fail
        with_reducible refine HT.out.mono ?_
        rintro e w6 ⟨rfl, hd⟩
        obtain ⟨r0, r1, r2, f0, f1, f2⟩ := (HW5.out.keep hd.fr (by omega)).all
        have D9 := Lib.hid (D5.out.trans hd)
        clear hd
        go_wp2
        refine bodyPost_ret (v := .tuple #[.agg #[.int .i64 3, .int .i64 1, .string ⟨#[]⟩], .bool true]) (by simp [results, Tryz.results273, go_sem, r0, r1, r2]) rfl ⟨rfl, ?_⟩
        exact ((D9.out.set hR (Nat.le_refl _) _ _).set hR (Nat.le_refl _) _ _).set hR (Nat.le_refl _) _ _
      | false =>
        go_wp2_with fail
        with_reducible refine HM.out.mono ?_
        rintro e w5 ⟨rfl, hb5⟩
        have HW5 := Lib.hid (HW.out.keep (TFr.of_below (K := fun _ => False) hb5) id)
        have D5 := Lib.hid (HD.out.then hb5)
        have htk := takeW_calls D5.out.rd bTrue
        rw [hp, takeT_no hp] at htk
        have HT : Hid (Calls Tryz.prog 101 #[.pointer (some ⟨R, 0, none⟩), .agg #[.int .i64 1, .string ⟨#[116, 114, 117, 101]⟩]] w5 fun e w' => e = .returned (.bool false) ∧ RdTo R T E s w5 w') := htk
        have HP := Lib.hid hp
        clear hb5 htk hp
        go_wp2_with fail
        with_reducible refine HT.out.mono ?_
        rintro e w6 ⟨rfl, hd⟩
        have HW6 := Lib.hid (HW5.out.keep hd.fr (by omega))
        have D6 := Lib.hid (D5.out.trans hd)
        clear hd
        go_wp2
        go_round
        case rel => (refine ⟨2, by go_num, by omega, ?_, ?_, D6, HW6⟩ <;> first | exact (fun _ => HP.out) | exact (fun _ => HJ1.out (by omega)) | exact (fun e => absurd e (by omega)) | exact (fun _ => trivial) | trivial)
        case measure => simp [RowKit.intOf]
    · have hs : truthT E s = (noV, false, s) := by unfold truthT; rw [HJ1.out (by omega), HJ2.out (by omega)]; rfl
      have HS := Lib.hid hs
      clear hs
      obtain ⟨r0, r1, r2, f0, f1, f2⟩ := HW.out.all
      have D9 := HD
      go_wp2
      refine bodyPost_ret (v := .tuple #[.agg #[.int .i64 0, .int .i64 0, .string ⟨#[]⟩], .bool false]) (by simp [results, Tryz.results273, go_sem, r0, r1, r2]) rfl ?_
      unfold ValTo
      rw [HS.out]
      refine ⟨rfl, ?_⟩
      exact ((D9.out.set hR (Nat.le_refl _) _ _).set hR (Nat.le_refl _) _ _).set hR (Nat.le_refl _) _ _

theorem val_calls (h : RdR w R T E s) : Calls Tryz.prog 273 #[.pointer (some ⟨R, 0, none⟩)] w (ValTo R T E (valT E s) w) := by
  unfold valT
  by_cases h2 : (nextT E s).k = 2
  · rw [if_pos h2]
    exact val_num h h2
  rw [if_neg h2]
  cases hz : isT E s 4 [45] with
  | true =>
    rw [if_pos rfl]
    exact val_minus h h2 hz
  | false =>
    rw [if_neg (by simp)]
    by_cases h3 : (nextT E s).k = 3
    · rw [if_pos h3]
      exact val_quoted h h2 hz h3
    rw [if_neg h3]
    exact val_truth h h2 hz h3
end

end Go.Proofs.YtifacoompbngaaaGreatDoor
namespace Go.Proofs.YtifacoompbngaaaGreatDoor
open Go.Lib

section
variable {E : Nat} {s : RS}
theorem takeT_le (k : Nat) (b : List UInt8) : (takeT E s k b).2.l.length ≤ s.l.length := by
  unfold takeT
  split
  · show s.l.tail.length ≤ _; rw [List.length_tail]; omega
  · exact Nat.le_refl _
theorem takeT_lt {k : Nat} {b : List UInt8} (h : isT E s k b = true) (hk : k ≠ 0) : (takeT E s k b).2.l.length < s.l.length := by
  obtain ⟨t, r, hl⟩ := isT_cons h hk
  unfold takeT
  rw [if_pos h, hl]
  show r.length < (t :: r).length
  simp
theorem failT_le : (failT E s).l.length ≤ s.l.length := by unfold failT; simp
theorem needT_le (k : Nat) (b : List UInt8) : (needT E s k b).l.length ≤ s.l.length := by
  unfold needT
  split
  · exact takeT_le k b
  · exact Nat.le_trans failT_le (takeT_le k b)
theorem ofT_le (k : Nat) : (ofT E s k).2.l.length ≤ s.l.length := by
  unfold ofT
  split
  · show s.l.tail.length ≤ _; rw [List.length_tail]; omega
  · exact failT_le
theorem numberT_le : (numberT E s).2.l.length ≤ s.l.length := ofT_le 2
theorem nameT_le : (nameT E s).2.l.length ≤ s.l.length := by
  unfold nameT
  refine Nat.le_trans (ofT_le 1) ?_
  split
  · exact failT_le
  · exact Nat.le_refl _
theorem amongT_le (k : Nat) : ∀ (l : List (List UInt8)) (n : Nat), (amongT E s k n l).2.l.length ≤ s.l.length
  | [], n => Nat.le_refl _
  | b :: r, n => by
    rw [amongT]
    split
    · exact takeT_le k b
    · exact amongT_le k r (n + 1)
/-- What is found is taken; if nothing is, nothing is taken. -/
theorem amongT_hitlt {k : Nat} (hk : k ≠ 0) : ∀ (l : List (List UInt8)) (n : Nat), (∃ b ∈ l, isT E s k b = true) → (amongT E s k n l).2.l.length < s.l.length
  | [], n, h => by obtain ⟨b, hb, _⟩ := h; cases hb
  | b :: r, n, h => by
    rw [amongT]
    split
    · rename_i hb
      exact takeT_lt hb hk
    · rename_i hb
      obtain ⟨c, hc, h2⟩ := h
      rcases List.mem_cons.1 hc with rfl | hc
      · exact absurd h2 hb
      · exact amongT_hitlt hk r (n + 1) ⟨c, hc, h2⟩
theorem amongT_none (k : Nat) : ∀ (l : List (List UInt8)) (n : Nat), (∀ b ∈ l, isT E s k b = false) → amongT E s k n l = (0, s)
  | [], n, _ => rfl
  | b :: r, n, h => by
    rw [amongT, h b List.mem_cons_self]
    exact amongT_none k r (n + 1) (fun c hc => h c (List.mem_cons_of_mem _ hc))
theorem amongT_nz {k : Nat} (hk : k ≠ 0) {l : List (List UInt8)} {n : Nat} (h : (amongT E s k n l).1 ≠ 0) : (amongT E s k n l).2.l.length < s.l.length := by
  by_cases hb : ∃ b ∈ l, isT E s k b = true
  · exact amongT_hitlt hk l n hb
  · refine absurd ?_ h
    rw [amongT_none k l n (fun b hb2 => by
      cases hc : isT E s k b with
      | false => rfl
      | true => exact absurd ⟨b, hb2, hc⟩ hb)]
theorem chooseT_le (k : Nat) (l : List (List UInt8)) : (chooseT E s k l).2.l.length ≤ s.l.length := by
  unfold chooseT
  split
  · exact Nat.le_trans failT_le (amongT_le k l 0)
  · exact amongT_le k l 0
theorem fieldT_le (k : Int) : (fieldT E s k).2.l.length ≤ s.l.length := by
  unfold fieldT
  exact Nat.le_trans nameT_le (Nat.le_trans (needT_le _ _) nameT_le)
theorem callT_le (k : Int) : (callT E s k).2.l.length ≤ s.l.length := by
  unfold callT
  refine Nat.le_trans (needT_le _ _) ?_
  split
  · exact Nat.le_trans nameT_le (needT_le _ _)
  · exact Nat.le_trans (fieldT_le _) (needT_le _ _)
theorem valT_le : (valT E s).2.2.l.length ≤ s.l.length := by
  unfold valT
  split
  · exact numberT_le
  · split
    · exact Nat.le_trans numberT_le (takeT_le _ _)
    · split
      · exact ofT_le 3
      · split
        · exact takeT_le _ _
        · split
          · exact takeT_le _ _
          · exact Nat.le_refl _
theorem valT_no (h : (valT E s).2.1 = false) : (valT E s).2.2 = s := by
  unfold valT at h ⊢
  split at h
  · cases h
  · rename_i h1
    rw [if_neg h1]
    split at h
    · cases h
    · rename_i h2
      rw [if_neg h2]
      split at h
      · cases h
      · rename_i h3
        rw [if_neg h3]
        split at h
        · cases h
        · rename_i h4
          rw [if_neg h4]
          split at h
          · cases h
          · rename_i h5
            rw [if_neg h5]
end

theorem sumsT_le {E : Nat} {tm : RS → PEx × RS} (ht : ∀ s, (tm s).2.l.length ≤ s.l.length) : ∀ (n : Nat) (x : PEx) (s : RS), (sumsT E tm n x s).2.l.length ≤ s.l.length
  | 0, x, s => Nat.le_refl _
  | n + 1, x, s => by
    rw [sumsT]
    split
    · exact amongT_le _ _ _
    · exact Nat.le_trans (sumsT_le ht n _ _) (Nat.le_trans (ht _) (amongT_le _ _ _))
theorem exprT_le {E : Nat} {tm : RS → PEx × RS} (ht : ∀ s, (tm s).2.l.length ≤ s.l.length) (n : Nat) (s : RS) : (exprT E tm n s).2.l.length ≤ s.l.length :=
  Nat.le_trans (sumsT_le ht n _ _) (ht s)
theorem innerT_le {E : Nat} {tm : RS → PEx × RS} (ht : ∀ s, (tm s).2.l.length ≤ s.l.length) (n : Nat) (s : RS) : (innerT E tm n s).2.l.length ≤ s.l.length := by
  unfold innerT
  refine Nat.le_trans (needT_le _ _) ?_
  refine Nat.le_trans (exprT_le ht n _) ?_
  refine Nat.le_trans (needT_le _ _) ?_
  split
  · exact failT_le
  · exact Nat.le_refl _
theorem termT_le {E : Nat} : ∀ (n : Nat) (s : RS), (termT E n s).2.l.length ≤ s.l.length
  | 0, s => Nat.le_refl _
  | n + 1, s => by
    rw [termT]
    split
    · exact valT_le
    · split
      · exact innerT_le (termT_le n) n s
      · split
        · exact Nat.le_trans (fieldT_le _) (amongT_le _ _ _)
        · exact Nat.le_trans (callT_le _) (amongT_le _ _ _)

section
variable {E : Nat} {s : RS}
theorem takeT_deep (k : Nat) (b : List UInt8) : (takeT E s k b).2.deep = s.deep := by
  unfold takeT
  split <;> rfl
theorem failT_deep : (failT E s).deep = s.deep := rfl
theorem needT_deep (k : Nat) (b : List UInt8) : (needT E s k b).deep = s.deep := by
  unfold needT
  split
  · exact takeT_deep k b
  · exact takeT_deep k b
theorem ofT_deep (k : Nat) : (ofT E s k).2.deep = s.deep := by
  unfold ofT
  split <;> rfl
theorem numberT_deep : (numberT E s).2.deep = s.deep := ofT_deep 2
theorem nameT_deep : (nameT E s).2.deep = s.deep := by
  unfold nameT
  rw [ofT_deep]
  split <;> rfl
theorem amongT_deep (k : Nat) : ∀ (l : List (List UInt8)) (n : Nat), (amongT E s k n l).2.deep = s.deep
  | [], n => rfl
  | b :: r, n => by
    rw [amongT]
    split
    · exact takeT_deep k b
    · exact amongT_deep k r (n + 1)
theorem chooseT_deep (k : Nat) (l : List (List UInt8)) : (chooseT E s k l).2.deep = s.deep := by
  unfold chooseT
  split
  · exact amongT_deep k l 0
  · exact amongT_deep k l 0
theorem fieldT_deep (k : Int) : (fieldT E s k).2.deep = s.deep := by
  unfold fieldT
  dsimp only
  rw [nameT_deep, needT_deep, nameT_deep]
theorem callT_deep (k : Int) : (callT E s k).2.deep = s.deep := by
  unfold callT
  dsimp only
  rw [needT_deep]
  split
  · dsimp only; rw [nameT_deep, needT_deep]
  · rw [fieldT_deep, needT_deep]
theorem valT_deep : (valT E s).2.2.deep = s.deep := by
  unfold valT
  split
  · exact numberT_deep
  · split
    · dsimp only; rw [numberT_deep, takeT_deep]
    · split
      · exact ofT_deep 3
      · split
        · exact takeT_deep _ _
        · split
          · exact takeT_deep _ _
          · rfl
theorem sumsT_deep {E : Nat} {tm : RS → PEx × RS} (ht : ∀ s, (tm s).2.deep = s.deep) : ∀ (n : Nat) (x : PEx) (s : RS), (sumsT E tm n x s).2.deep = s.deep
  | 0, x, s => rfl
  | n + 1, x, s => by
    rw [sumsT]
    split
    · exact amongT_deep _ _ _
    · dsimp only; rw [sumsT_deep ht n _ _, ht, amongT_deep]
theorem exprT_deep {E : Nat} {tm : RS → PEx × RS} (ht : ∀ s, (tm s).2.deep = s.deep) (n : Nat) (s : RS) : (exprT E tm n s).2.deep = s.deep := by
  unfold exprT
  rw [sumsT_deep ht, ht]
theorem innerT_deep {E : Nat} {tm : RS → PEx × RS} (ht : ∀ s, (tm s).2.deep = s.deep) (n : Nat) (s : RS) : (innerT E tm n s).2.deep = s.deep := by
  unfold innerT
  dsimp only
  rw [needT_deep]
  dsimp only
  rw [exprT_deep ht]
  dsimp only
  rw [needT_deep]
  split
  · rw [failT_deep]; omega
  · omega
theorem termT_deep {E : Nat} : ∀ (n : Nat) (s : RS), (termT E n s).2.deep = s.deep
  | 0, s => rfl
  | n + 1, s => by
    rw [termT]
    split
    · exact valT_deep
    · split
      · exact innerT_deep (termT_deep n) n s
      · split
        · rw [fieldT_deep, amongT_deep]
        · rw [callT_deep, amongT_deep]
/-- So deep are no brackets, as long as there is a token. -/
def DeepOk (s : RS) : Prop := s.deep ≤ 6 ∨ s.l = []
theorem DeepOk.le {s s' : RS} (h : DeepOk s) (hd : s'.deep = s.deep) (hl : s'.l.length ≤ s.l.length) : DeepOk s' := by
  rcases h with h | h
  · exact .inl (by omega)
  · rw [h] at hl
    exact .inr (List.eq_nil_of_length_eq_zero (by simpa using hl))
end

end Go.Proofs.YtifacoompbngaaaGreatDoor

/- Values: Get. -/
import Derived.Test.YtppgecbjdkfohaaV8
import Derived.Deep.DeepCutAuto
namespace Go.Proofs.Ytppgecbjdkfohaa
open Go.RowKit Go.Lib Go.Op

theorem getV_read (c : UInt8) (t : List UInt8) : getV (c :: t) = if (dgo (t.take 6) 0 0).2 = 0 then none else
    if (readM c.toNat (dgo (t.take 6) 0 0).1 (t.drop (dgo (t.take 6) 0 0).2)).2 = true ∧ rightB (readM c.toNat (dgo (t.take 6) 0 0).1 (t.drop (dgo (t.take 6) 0 0).2)).1 = true then
      some ((readM c.toNat (dgo (t.take 6) 0 0).1 (t.drop (dgo (t.take 6) 0 0).2)).1, 1 + (dgo (t.take 6) 0 0).2 + (readM c.toNat (dgo (t.take 6) 0 0).1 (t.drop (dgo (t.take 6) 0 0).2)).1.s.length) else none := by
  unfold getV
  simp only
  generalize dgo (t.take 6) 0 0 = D
  by_cases h0 : D.2 = 0
  · rw [if_pos h0, if_pos h0]
  rw [if_neg h0, if_neg h0]
  by_cases h2 : c.toNat = 2
  · rw [if_pos h2, h2]
    by_cases hm : min (t.drop D.2).length 64 < D.1
    · have e : readM (2 : Nat) D.1 (t.drop D.2) = (⟨0, 0, []⟩, false) := by unfold readM; rw [if_pos (show ((2 : Nat) : Int) = 2 from rfl), if_pos hm]
      rw [if_pos hm, e, if_neg (by simp)]
    · have e : readM (2 : Nat) D.1 (t.drop D.2) = (⟨2, 0, (t.drop D.2).take D.1⟩, true) := by unfold readM; rw [if_pos (show ((2 : Nat) : Int) = 2 from rfl), if_neg hm]
      have hl : ((t.drop D.2).take D.1).length = D.1 := by rw [List.length_take]; omega
      rw [if_neg hm, e, if_pos ⟨rfl, rightB_2.2 ⟨rfl, by omega⟩⟩]
      show _ = some (_, 1 + D.2 + ((t.drop D.2).take D.1).length)
      rw [hl]
  rw [if_neg h2]
  by_cases h3 : c.toNat = 3
  · have e : readM c.toNat D.1 (t.drop D.2) = (⟨3, D.1, []⟩, true) := by rw [h3]; rfl
    rw [if_pos h3, e]
    by_cases hle : D.1 ≤ 1
    · rw [if_pos hle, if_pos ⟨rfl, rightB_3.2 ⟨by omega, by omega, rfl⟩⟩]
      rfl
    · rw [if_neg hle, if_neg (fun h => by have := (rightB_3.1 h.2).2.1; omega)]
  rw [if_neg h3]
  by_cases h1 : c.toNat = 1
  · have e : readM c.toNat D.1 (t.drop D.2) = (⟨1, zagN D.1, []⟩, true) := by rw [h1]; rfl
    rw [if_pos h1, e]
    by_cases hz : -1099511627776 ≤ zagN D.1 ∧ zagN D.1 ≤ 1099511627776
    · rw [if_pos hz, if_pos ⟨rfl, rightB_1.2 ⟨hz.1, hz.2, rfl⟩⟩]
      rfl
    · rw [if_neg hz, if_neg (fun h => hz ⟨(rightB_1.1 h.2).1, (rightB_1.1 h.2).2.1⟩)]
  · have e : readM c.toNat D.1 (t.drop D.2) = (⟨c.toNat, 0, []⟩, true) := by
      unfold readM; rw [if_neg (by omega), if_neg (by omega), if_neg (by omega)]
    rw [if_neg h1, e, if_neg]
    intro h
    have := rightB_kind h.2
    simp only at this
    omega

/-- What Get answers. -/
def valO (o : Option (PVal × Nat)) : PVal := (o.map (·.1)).getD ⟨0, 0, []⟩
def GetPost (w : World) (o : Option (PVal × Nat)) (e : Ending) (w' : World) : Prop :=
  e = .returned (.tuple #[.agg #[.int .i64 (valO o).k, .int .i64 (valO o).n, .string (strB (valO o).s)], .int .i64 ((o.map (·.2)).getD 0 : Nat), .bool o.isSome]) ∧ Below w.heap.size w w'

theorem GetPost.none {w w' : World} {o : Option (PVal × Nat)} (h : o = none) (hb : Below w.heap.size w w') : GetPost w o (.returned (.tuple #[.agg #[.int .i64 0, .int .i64 0, .string ⟨#[]⟩], .int .i64 0, .bool false])) w' := by
  rw [h]; exact ⟨rfl, hb⟩
theorem GetPost.some {w w' : World} {o : Option (PVal × Nat)} {v : PVal} {n : Nat} {m : Int} (h : o = some (v, n)) (hm : m = n) (hb : Below w.heap.size w w') : GetPost w o (.returned (.tuple #[.agg #[.int .i64 v.k, .int .i64 v.n, .string (strB v.s)], .int .i64 m, .bool true])) w' := by
  rw [h, hm]; exact ⟨rfl, hb⟩

theorem BRow.someA {w : World} {a : Option Addr} {l c : Nat} {x : UInt8} {t : List UInt8} (h : BRow w (.slice a l c) (x :: t)) : ∃ A, a = some A ∧ w.cell? A = some (.int .u8 x.toNat) := by
  obtain ⟨A, h1, h2⟩ := h.atc (i := 0) rfl
  rw [Addr.add_zero'] at h2
  exact ⟨A, h1, h2⟩

theorem keep3 {W : World} {A : Addr} {X : Nat} {v : Value} (h : W.cell? A = some v) (hA : A.block < X) (a b c : Value) : (((W.setCell ⟨X, 0, none⟩ a).setCell ⟨X, 1, none⟩ b).setCell ⟨X, 2, none⟩ c).cell? A = some v :=
  ((((Below.refl X W).setCell (Nat.le_refl _) a).setCell (Nat.le_refl _) b).setCell (Nat.le_refl _) c).cell hA |>.trans h

theorem keep3n {W : World} {Y X i : Nat} {v : Value} (h : W.cell? ⟨Y, i, none⟩ = some v) (hn : Y ≠ X) (a b c : Value) : (((W.setCell ⟨X, 0, none⟩ a).setCell ⟨X, 1, none⟩ b).setCell ⟨X, 2, none⟩ c).cell? ⟨Y, i, none⟩ = some v := by
  have k : ∀ (W' : World) (o : Nat) (x : Value), (W'.setCell ⟨X, o, none⟩ x).cell? ⟨Y, i, none⟩ = W'.cell? ⟨Y, i, none⟩ := fun W' o x => World.cell?_setCell_other _ _ _ _ (by intro e; injection e with e1; exact hn e1.symm)
  rw [k, k, k]
  exact h

theorem gen_world {P F : World → Prop} (W : World) (hF : F W) (h : ∀ W', F W' → P W') : P W := h W hF

theorem set3 {W : World} {X : Nat} {a b c u0 u1 u2 : Value} (q0 : W.cell? ⟨X, 0, none⟩ = some u0) (q1 : W.cell? ⟨X, 1, none⟩ = some u1) (q2 : W.cell? ⟨X, 2, none⟩ = some u2) :
    (((W.setCell ⟨X, 0, none⟩ a).setCell ⟨X, 1, none⟩ b).setCell ⟨X, 2, none⟩ c).cell? ⟨X, 0, none⟩ = some a ∧ (((W.setCell ⟨X, 0, none⟩ a).setCell ⟨X, 1, none⟩ b).setCell ⟨X, 2, none⟩ c).cell? ⟨X, 1, none⟩ = some b ∧ (((W.setCell ⟨X, 0, none⟩ a).setCell ⟨X, 1, none⟩ b).setCell ⟨X, 2, none⟩ c).cell? ⟨X, 2, none⟩ = some c := by
  have k : ∀ (W' : World) (o o' : Nat) (x : Value), o ≠ o' → (W'.setCell ⟨X, o, none⟩ x).cell? ⟨X, o', none⟩ = W'.cell? ⟨X, o', none⟩ := fun W' o o' x h => World.cell?_setCell_other _ _ _ _ (by intro e; injection e with _ e1; exact h e1)
  refine ⟨?_, ?_, ?_⟩
  · rw [k _ _ _ _ (by decide), k _ _ _ _ (by decide)]
    exact World.cell?_setCell_same _ _ _ q0
  · rw [k _ _ _ _ (by decide)]
    exact World.cell?_setCell_same _ _ _ ((k _ _ _ _ (by decide)).trans q1)
  · exact World.cell?_setCell_same _ _ _ ((k _ _ _ _ (by decide)).trans ((k _ _ _ _ (by decide)).trans q2))

/-- Behind the call of read: the result's block, the value's. -/
structure GF (w : World) (Y : Nat) (pk pn : Int) (s : ByteArray) (W : World) : Prop where
  y0 : W.cell? ⟨Y, 0, none⟩ = some (.int .i64 pk)
  y1 : W.cell? ⟨Y, 1, none⟩ = some (.int .i64 pn)
  y2 : W.cell? ⟨Y, 2, none⟩ = some (.string s)
  z0 : W.cell? ⟨w.heap.size, 0, none⟩ = some (.int .i64 0)
  z1 : W.cell? ⟨w.heap.size, 1, none⟩ = some (.int .i64 0)
  z2 : W.cell? ⟨w.heap.size, 2, none⟩ = some (.string ⟨#[]⟩)
  f : ∀ i, W.frozen? ⟨w.heap.size, i, none⟩ = false
  hb : Below w.heap.size w W
  ne : Y ≠ w.heap.size
  lt : Y < W.heap.size

theorem readM_len (k : Int) (n : Nat) (l : List UInt8) : (readM k n l).1.s.length ≤ 64 := by
  unfold readM
  split
  · split
    · simp
    · rename_i h
      show (l.take n).length ≤ 64
      rw [List.length_take]
      omega
  · split
    · simp
    · split <;> simp

set_option maxHeartbeats 4000000 in
set_option maxRecDepth 100000 in
theorem vget_calls (w : World) (v : Value) (bs : List UInt8) (h : BRow w v bs) : Calls Try.prog 88 #[v] w (GetPost w (getV bs)) := by
  obtain ⟨a, c, rfl, hc, hcm⟩ := h.len
  cases bs with
  | nil =>
    have e : getV [] = none := rfl
    rw [e]
    go_enter Try.func88, Try.ntmps88
    go_wp2
    refine bodyPost_ret (v := .tuple #[.agg #[.int .i64 0, .int .i64 0, .string ⟨#[]⟩], .int .i64 0, .bool false]) (by simp [results, Try.results88, go_sem]) rfl (GetPost.none rfl ?_)
    exact (Below.refl _ _).alloc (Nat.le_refl _) _
  | cons x t =>
  have H := Lib.hid h
  obtain ⟨A, rfl, hx⟩ := h.someA
  obtain ⟨l, hl⟩ : ∃ l, (x :: t).length = l := ⟨_, rfl⟩
  have hl0 : 0 < l := by rw [← hl]; simp
  have hlm : l ≤ maxLen := by omega
  unfold maxLen at hlm hcm
  obtain ⟨v1, hv1, hb1⟩ := h.drop (k := 1) (by simp)
  have hd1 : (x :: t).drop 1 = t := rfl
  rw [hd1] at hb1
  rw [hl] at hv1 hc ⊢
  have hg := getV_read x t
  have hdig := fun W (hW : Below w.heap.size w W) => digits_calls W v1 t (hb1.below hW)
  have hsaid := dgo_said (l := t) (K := 6)
  have hsix := dgo_six (l := t)
  generalize dgo (t.take 6) 0 0 = D at hg hdig hsaid hsix
  obtain ⟨d1, d2⟩ := D
  simp only at hg hsaid hsix
  have HDig := Lib.hid hdig
  have hv1' : ∀ W : World, (Instr.slice 40 (.slice (some A) l c) (some (.int .i64 1)) none none).run Try.prog W = .ok v1 W := hv1
  by_cases h0 : d2 = 0
  · have e : getV (x :: t) = none := by rw [hg, if_pos h0]
    have E := Lib.hid e
    subst h0
    clear hg hdig hsaid hsix hv1 h e hl hd1
    go_enter Try.func88, Try.ntmps88
    go_wp2_with (go_at_call 96; refine (HDig.out _ ((Below.refl _ _).alloc (Nat.le_refl _) _)).mono ?_; rintro e w1 ⟨rfl, rfl⟩)
    refine bodyPost_ret (v := .tuple #[.agg #[.int .i64 0, .int .i64 0, .string ⟨#[]⟩], .int .i64 0, .bool false]) (by simp [results, Try.results88, go_sem]) rfl (GetPost.none E.out ?_)
    exact (Below.refl _ _).alloc (Nat.le_refl _) _
  obtain ⟨hs1, hs2, _⟩ := hsaid h0
  have hs3 := hsix h0
  rw [if_neg h0] at hg
  have htl : t.length + 1 = l := by rw [← hl]; simp
  obtain ⟨v7, hv7, hb7⟩ := h.drop (k := 1 + d2) (by rw [hl]; omega)
  have hd7 : (x :: t).drop (1 + d2) = t.drop d2 := by rw [Nat.add_comm, List.drop_succ_cons]
  rw [hd7] at hb7
  rw [hl] at hv7
  have hrd := fun W (hW : Below w.heap.size w W) => read_calls x.toNat d1 W v7 (t.drop d2) (hb7.below hW) hs3
  have hpl := readM_len x.toNat d1 (t.drop d2)
  generalize readM x.toNat d1 (t.drop d2) = p at hg hrd hpl
  obtain ⟨⟨pk, pn, ps⟩, pb⟩ := p
  simp only at hg hpl
  have hv7' : ∀ W : World, (Instr.slice 40 (.slice (some A) l c) (some (.int .i64 (1 + (d2 : Int)))) none none).run Try.prog W = .ok v7 W := fun W => by
    have h1 := hv7 W
    rwa [show ((1 + d2 : Nat) : Int) = 1 + (d2 : Int) by omega] at h1
  have HRd : Hid (∀ W, Below w.heap.size w W → w.heap.size < W.heap.size → Calls Try.prog 97 #[.int .i64 x.toNat, .int .i64 d1, v7] W fun e w' => e = .returned (.tuple #[.agg #[.int .i64 pk, .int .i64 pn, .string (strB ps)], .bool pb]) ∧
      w'.cell? A = some (.int .u8 x.toNat) ∧ (∀ b o, b < W.heap.size → w'.cell? ⟨b, o, none⟩ = W.cell? ⟨b, o, none⟩) ∧ (∀ b o, b < W.heap.size → w'.frozen? ⟨b, o, none⟩ = W.frozen? ⟨b, o, none⟩) ∧ Hid (Below w.heap.size w w') ∧ A.block < w'.heap.size ∧ W.heap.size ≤ w'.heap.size) :=
    fun W hW hz => (hrd W hW).mono fun e w' ⟨e1, hb2⟩ => ⟨e1, (hb2.cell (World.block_lt_of_cell? _ _ ((hW.cell (World.block_lt_of_cell? _ _ hx)).trans hx))).trans ((hW.cell (World.block_lt_of_cell? _ _ hx)).trans hx), (vbcell hb2).1, (vbcell hb2).2, hW.trans (hb2.mono hW.size), Nat.lt_of_lt_of_le (World.block_lt_of_cell? _ _ ((hW.cell (World.block_lt_of_cell? _ _ hx)).trans hx)) hb2.size, hb2.size⟩
  have HG := Lib.hid hg
  have hi0 : (0 : Int) < l := by omega
  clear hg hdig hsaid hsix hv1 h hl hd1 hd7 hv7 hrd hb1 hb7
  have hq1 : IntKind.i64.wrap (1 + (d2 : Int)) = 1 + (d2 : Int) := IntWalk.i64_in _ (by omega)
  have H1 := Lib.hid hq1
  clear hq1
  go_enter Try.func88, Try.ntmps88
  go_upto_region 7 with (go_at_call 96; refine (HDig.out _ ((Below.refl _ _).alloc (Nat.le_refl _) _)).mono ?_; rintro e w1 ⟨rfl, rfl⟩)
  clear hv1' HDig H
  go_cut [8, 9] (fun s8 s9 wx => ∃ Y : Nat, s8 = .pointer (some ⟨Y, 0, none⟩) ∧ s9 = .bool pb ∧ Hid (GF w Y pk pn (strB ps) wx))
  case first =>
    have hxw : (w.alloc (.cells #[.int .i64 0, .int .i64 0, .string ⟨#[]⟩] 52)).cell? A = some (.int .u8 x.toNat) := (World.cell?_alloc_lt _ _ A (World.block_lt_of_cell? _ _ hx)).trans hx
    have hAlt := World.block_lt_of_cell? _ _ hx
    have hAlt1 : A.block < w.heap.size + 1 := Nat.lt_succ_of_lt hAlt
    have hS1 : (w.alloc (.cells #[.int .i64 0, .int .i64 0, .string ⟨#[]⟩] 52)).drew.cell? A = some (.int .u8 x.toNat) := hxw
    have hS2 : ((w.alloc (.cells #[.int .i64 0, .int .i64 0, .string ⟨#[]⟩] 52)).alloc (.cells #[.int .i64 0, .int .i64 0, .string ⟨#[]⟩] 52)).drew.cell? A = some (.int .u8 x.toNat) := (World.cell?_alloc_lt _ _ A (World.block_lt_of_cell? _ _ hxw)).trans hxw
    have hwx : IntKind.i64.wrap (x.toNat : Int) = x.toNat := IntWalk.i64_in _ (by have := x.toNat_lt; omega)
    go_region_held3 (fun W => W.cell? A = some (.int .u8 x.toNat))
      (first | assumption | (refine keep3 (by assumption) (by assumption) _ _ _) | (refine (World.cell?_alloc_lt _ _ _ (by assumption)).trans (by assumption)))
      (first
        | (go_at_call 97; (with_reducible refine (HRd.out _ (vbelow_drew ((Below.refl _ _).alloc (Nat.le_refl _) _)) (by simp)).mono ?_); rintro e w3 ⟨rfl, x0, hc3, hf3, HB3, hz3, hz4⟩)
        | (go_at_call 97; (with_reducible refine (HRd.out _ (vbelow_drew (((Below.refl _ _).alloc (Nat.le_refl _) _).alloc (by simp) _)) (by simp <;> omega)).mono ?_); rintro e w3 ⟨rfl, x0, hc3, hf3, HB3, hz3, hz4⟩))
    · have hF : GF w w3.heap.size pk pn (strB ps) (w3.alloc (.cells #[.int .i64 pk, .int .i64 pn, .string (strB ps)] 52)) := by
        have hz5 : w.heap.size < w3.heap.size := by simp at hz4; omega
        have k : ∀ o, (w3.alloc (.cells #[.int .i64 pk, .int .i64 pn, .string (strB ps)] 52)).cell? ⟨w.heap.size, o, none⟩ = (w.alloc (.cells #[.int .i64 0, .int .i64 0, .string ⟨#[]⟩] 52)).cell? ⟨w.heap.size, o, none⟩ := fun o =>
          (World.cell?_alloc_lt _ _ _ hz5).trans (hc3 w.heap.size o (by simp))
        refine ⟨by simp, by simp, by simp, (k 0).trans (by simp), (k 1).trans (by simp), (k 2).trans (by simp), fun i => ?_, HB3.out.alloc HB3.out.size _, Nat.ne_of_gt hz5, by simp⟩
        have e1 : (w3.alloc (.cells #[.int .i64 pk, .int .i64 pn, .string (strB ps)] 52)).frozen? ⟨w.heap.size, i, none⟩ = w3.frozen? ⟨w.heap.size, i, none⟩ := ((Below.refl w3.heap.size w3).alloc (Nat.le_refl _) _).frozen (p := ⟨w.heap.size, i, none⟩) hz5
        rw [e1, hf3 w.heap.size i (by simp)]
        simp
      go_wp2_with fail
      go_meet
      exact ⟨_, rfl, rfl, hF⟩
    · have e : ∀ o, w3.cell? ⟨w.heap.size + 1, o, none⟩ = ((w.alloc (.cells #[.int .i64 0, .int .i64 0, .string ⟨#[]⟩] 52)).alloc (.cells #[.int .i64 0, .int .i64 0, .string ⟨#[]⟩] 52)).cell? ⟨w.heap.size + 1, o, none⟩ := fun o => hc3 _ o (by simp)
      have e' : ∀ o, w3.cell? ⟨w.heap.size, o, none⟩ = ((w.alloc (.cells #[.int .i64 0, .int .i64 0, .string ⟨#[]⟩] 52)).alloc (.cells #[.int .i64 0, .int .i64 0, .string ⟨#[]⟩] 52)).cell? ⟨w.heap.size, o, none⟩ := fun o => hc3 _ o (by simp <;> omega)
      have hbs : Below (w.heap.size + 1) w3 (((w3.setCell ⟨w.heap.size + 1, 0, none⟩ (.int .i64 pk)).setCell ⟨w.heap.size + 1, 1, none⟩ (.int .i64 pn)).setCell ⟨w.heap.size + 1, 2, none⟩ (.string (strB ps))) := (((Below.refl (w.heap.size + 1) w3).setCell (p := ⟨w.heap.size + 1, 0, none⟩) (Nat.le_refl _) _).setCell (p := ⟨w.heap.size + 1, 1, none⟩) (Nat.le_refl _) _).setCell (p := ⟨w.heap.size + 1, 2, none⟩) (Nat.le_refl _) _
      have hF : GF w (w.heap.size + 1) pk pn (strB ps) (((w3.setCell ⟨w.heap.size + 1, 0, none⟩ (.int .i64 pk)).setCell ⟨w.heap.size + 1, 1, none⟩ (.int .i64 pn)).setCell ⟨w.heap.size + 1, 2, none⟩ (.string (strB ps))) := by
        have hz5 : w.heap.size + 1 < w3.heap.size := by simp at hz4; omega
        have q0 : w3.cell? ⟨w.heap.size + 1, 0, none⟩ = some (.int .i64 0) := (e 0).trans (by simp)
        have q1 : w3.cell? ⟨w.heap.size + 1, 1, none⟩ = some (.int .i64 0) := (e 1).trans (by simp)
        have q2 : w3.cell? ⟨w.heap.size + 1, 2, none⟩ = some (.string ⟨#[]⟩) := (e 2).trans (by simp)
        have hfz : ∀ i, w3.frozen? ⟨w.heap.size, i, none⟩ = false := fun i => by rw [hf3 w.heap.size i (by simp <;> omega)]; simp
        clear e hc3
        obtain ⟨s0, s1, s2⟩ := set3 (a := .int .i64 pk) (b := .int .i64 pn) (c := .string (strB ps)) q0 q1 q2
        refine ⟨s0, s1, s2, (hbs.cell (p := ⟨w.heap.size, 0, none⟩) (Nat.lt_succ_self _)).trans ((e' 0).trans ?_), (hbs.cell (p := ⟨w.heap.size, 1, none⟩) (Nat.lt_succ_self _)).trans ((e' 1).trans ?_), (hbs.cell (p := ⟨w.heap.size, 2, none⟩) (Nat.lt_succ_self _)).trans ((e' 2).trans ?_), fun i => ?_, HB3.out.trans (hbs.mono (Nat.le_succ _)), by omega, by simp; exact hz5⟩
        · rw [World.cell?_alloc_lt _ _ ⟨w.heap.size, 0, none⟩ (by simp)]; simp
        · rw [World.cell?_alloc_lt _ _ ⟨w.heap.size, 1, none⟩ (by simp)]; simp
        · rw [World.cell?_alloc_lt _ _ ⟨w.heap.size, 2, none⟩ (by simp)]; simp
        · rw [hbs.frozen (p := ⟨w.heap.size, i, none⟩) (Nat.lt_succ_self _), hfz i]
      go_wp2_with fail
      go_meet
      exact ⟨_, rfl, rfl, hF⟩
  case rest =>
    obtain ⟨Y, rfl, rfl, HGF⟩ := hcut
    generalize wc = W5 at *
    obtain ⟨y0, y1, y2, z0, z1, z2, ff, hbW, hne, hlt⟩ := HGF.out
    clear hx HRd hv7' HGF
    have HBW := Lib.hid hbW
    have f0 := ff 0
    have f1 := ff 1
    have f2 := ff 2
    have hXlt : w.heap.size < W5.heap.size := World.block_lt_of_cell? _ _ z0
    clear hbW ff
    cases pb with
    | false =>
      have E : Hid (getV (x :: t) = none) := by show getV _ = _; rw [HG.out, if_neg (by simp)]
      clear HG
      go_wp2
      refine bodyPost_ret (v := .tuple #[.agg #[.int .i64 0, .int .i64 0, .string ⟨#[]⟩], .int .i64 0, .bool false]) (by simp [results, Try.results88, go_sem, z0, z1, z2]) rfl (GetPost.none E.out ?_)
      repeat' (first | exact HBW.out | refine Below.setCell ?_ (by simp) _)
    | true =>
    cases hr : rightB ⟨pk, pn, ps⟩ with
    | false =>
      have hrv : rightV pk pn (strB ps) = false := by unfold rightV; rw [strB_list]; exact hr
      have E : Hid (getV (x :: t) = none) := by show getV _ = _; rw [HG.out, if_neg (by rw [hr]; simp)]
      clear HG hr
      go_wp2_with (go_at_call 81; refine (vright_calls _ _ _ _ (by rw [strB_size]; unfold maxLen; omega)).mono ?_; rintro e w1 ⟨rfl, rfl⟩)
      refine bodyPost_ret (v := .tuple #[.agg #[.int .i64 0, .int .i64 0, .string ⟨#[]⟩], .int .i64 0, .bool false]) (by simp [results, Try.results88, go_sem, z0, z1, z2, hXlt]) rfl (GetPost.none E.out ?_)
      repeat' (first | exact HBW.out | refine Below.setCell ?_ (by simp) _ | refine Below.alloc ?_ (by have := HBW.out.size; simp; omega) _)
    | true =>
      have hrv : rightV pk pn (strB ps) = true := by unfold rightV; rw [strB_list]; exact hr
      have E : Hid (getV (x :: t) = some (⟨pk, pn, ps⟩, 1 + d2 + ps.length)) := by show getV _ = _; rw [HG.out, if_pos ⟨rfl, hr⟩]
      clear HG hr
      have hsb := strB_size ps
      obtain ⟨sB, hsB⟩ : ∃ sB, strB ps = sB := ⟨_, rfl⟩
      rw [hsB] at hrv hsb y2
      have HSB := Lib.hid hsB
      have HSz := Lib.hid hsb
      have hs64 : sB.size ≤ 64 := by omega
      clear hsB hsb
      go_wp2_with (go_at_call 81; refine (vright_calls _ _ _ _ (by unfold maxLen; omega)).mono ?_; rintro e w1 ⟨rfl, rfl⟩)
      have a0 : (W5.alloc (.cells #[.int .i64 pk, .int .i64 pn, .string sB] 52)).drew.cell? ⟨Y, 0, none⟩ = some (.int .i64 pk) := (World.cell?_alloc_lt _ _ _ hlt).trans y0
      have a1 : (W5.alloc (.cells #[.int .i64 pk, .int .i64 pn, .string sB] 52)).drew.cell? ⟨Y, 1, none⟩ = some (.int .i64 pn) := (World.cell?_alloc_lt _ _ _ hlt).trans y1
      have a2 : (W5.alloc (.cells #[.int .i64 pk, .int .i64 pn, .string sB] 52)).drew.cell? ⟨Y, 2, none⟩ = some (.string sB) := (World.cell?_alloc_lt _ _ _ hlt).trans y2
      have b0 : ((((W5.setCell ⟨w.heap.size, 0, none⟩ (.int .i64 pk)).setCell ⟨w.heap.size, 1, none⟩ (.int .i64 pn)).setCell ⟨w.heap.size, 2, none⟩ (.string sB)).alloc (.cells #[.int .i64 pk, .int .i64 pn, .string sB] 52)).drew.cell? ⟨Y, 0, none⟩ = some (.int .i64 pk) := (World.cell?_alloc_lt (((W5.setCell ⟨w.heap.size, 0, none⟩ (.int .i64 pk)).setCell ⟨w.heap.size, 1, none⟩ (.int .i64 pn)).setCell ⟨w.heap.size, 2, none⟩ (.string sB)) _ ⟨Y, 0, none⟩ (by simp; exact hlt)).trans (keep3n y0 hne _ _ _)
      have b1 : ((((W5.setCell ⟨w.heap.size, 0, none⟩ (.int .i64 pk)).setCell ⟨w.heap.size, 1, none⟩ (.int .i64 pn)).setCell ⟨w.heap.size, 2, none⟩ (.string sB)).alloc (.cells #[.int .i64 pk, .int .i64 pn, .string sB] 52)).drew.cell? ⟨Y, 1, none⟩ = some (.int .i64 pn) := (World.cell?_alloc_lt (((W5.setCell ⟨w.heap.size, 0, none⟩ (.int .i64 pk)).setCell ⟨w.heap.size, 1, none⟩ (.int .i64 pn)).setCell ⟨w.heap.size, 2, none⟩ (.string sB)) _ ⟨Y, 1, none⟩ (by simp; exact hlt)).trans (keep3n y1 hne _ _ _)
      have b2 : ((((W5.setCell ⟨w.heap.size, 0, none⟩ (.int .i64 pk)).setCell ⟨w.heap.size, 1, none⟩ (.int .i64 pn)).setCell ⟨w.heap.size, 2, none⟩ (.string sB)).alloc (.cells #[.int .i64 pk, .int .i64 pn, .string sB] 52)).drew.cell? ⟨Y, 2, none⟩ = some (.string sB) := (World.cell?_alloc_lt (((W5.setCell ⟨w.heap.size, 0, none⟩ (.int .i64 pk)).setCell ⟨w.heap.size, 1, none⟩ (.int .i64 pn)).setCell ⟨w.heap.size, 2, none⟩ (.string sB)) _ ⟨Y, 2, none⟩ (by simp; exact hlt)).trans (keep3n y2 hne _ _ _)
      have hw1 : IntKind.i64.wrap (1 + (d2 : Int) + (sB.size : Int)) = 1 + (d2 : Int) + (sB.size : Int) := IntWalk.i64_in _ (by omega)
      go_region_held3 (fun W => W.cell? ⟨Y, 0, none⟩ = some (.int .i64 pk) ∧ W.cell? ⟨Y, 1, none⟩ = some (.int .i64 pn) ∧ W.cell? ⟨Y, 2, none⟩ = some (.string sB))
        ((refine ⟨?_, ?_, ?_⟩ <;> assumption))
        (first | fail)
      all_goals
        clear hw1
        go_wp2
        refine bodyPost_ret (v := .tuple #[.agg #[.int .i64 pk, .int .i64 pn, .string sB], .int .i64 (1 + (d2 : Int) + (sB.size : Int)), .bool true]) (by simp [results, Try.results88, go_sem, z0, z1, z2, hXlt]) rfl ?_
        rw [← HSB.out]
        refine GetPost.some E.out (by rw [strB_size]; omega) ?_
        repeat' (first | exact HBW.out | refine Below.setCell ?_ (by simp) _ | refine Below.alloc ?_ (by have := HBW.out.size; simp; omega) _ | refine vbelow_drew ?_)

end Go.Proofs.Ytppgecbjdkfohaa

/- Values: Get. | The live question of the layer's statements is answered true. | Events: read. -/
import Derived.Test.YtfmlgckfcclojaaM3
import Derived.Deep.RegionHeld
import Derived.Deep.DeepCutAuto
import Derived.Lib.SlBytesConst
import Derived.Laws.EntriesVeiled
namespace Go.Proofs.Ytfmlgckfcclojaa
open Go.RowKit Go.Lib Go.Op

theorem getV_read (c : UInt8) (t : List UInt8) : getV (c :: t) = if (dgo (t.take 6) 0 0).2 = 0 then none else
    if (readM c.toNat (dgo (t.take 6) 0 0).1 (t.drop (dgo (t.take 6) 0 0).2)).2 = true ∧ rightB (readM c.toNat (dgo (t.take 6) 0 0).1 (t.drop (dgo (t.take 6) 0 0).2)).1 = true then
      some ((readM c.toNat (dgo (t.take 6) 0 0).1 (t.drop (dgo (t.take 6) 0 0).2)).1, 1 + (dgo (t.take 6) 0 0).2 + (readM c.toNat (dgo (t.take 6) 0 0).1 (t.drop (dgo (t.take 6) 0 0).2)).1.s.length) else none := by
  unfold getV
  simp only
  generalize dgo (t.take 6) 0 0 = D
  by_cases h0 : D.2 = 0
  · rw [if_pos h0, if_pos h0]
  rw [if_neg h0, if_neg h0]
  by_cases h2 : c.toNat = 2
  · rw [if_pos h2, h2]
    by_cases hm : min (t.drop D.2).length 64 < D.1
    · have e : readM (2 : Nat) D.1 (t.drop D.2) = (⟨0, 0, []⟩, false) := by unfold readM; rw [if_pos (show ((2 : Nat) : Int) = 2 from rfl), if_pos hm]
      rw [if_pos hm, e, if_neg (by simp)]
    · have e : readM (2 : Nat) D.1 (t.drop D.2) = (⟨2, 0, (t.drop D.2).take D.1⟩, true) := by unfold readM; rw [if_pos (show ((2 : Nat) : Int) = 2 from rfl), if_neg hm]
      have hl : ((t.drop D.2).take D.1).length = D.1 := by rw [List.length_take]; omega
      rw [if_neg hm, e, if_pos ⟨rfl, rightB_2.2 ⟨rfl, by omega⟩⟩]
      show _ = some (_, 1 + D.2 + ((t.drop D.2).take D.1).length)
      rw [hl]
  rw [if_neg h2]
  by_cases h3 : c.toNat = 3
  · have e : readM c.toNat D.1 (t.drop D.2) = (⟨3, D.1, []⟩, true) := by rw [h3]; rfl
    rw [if_pos h3, e]
    by_cases hle : D.1 ≤ 1
    · rw [if_pos hle, if_pos ⟨rfl, rightB_3.2 ⟨by omega, by omega, rfl⟩⟩]
      rfl
    · rw [if_neg hle, if_neg (fun h => by have := (rightB_3.1 h.2).2.1; omega)]
  rw [if_neg h3]
  by_cases h1 : c.toNat = 1
  · have e : readM c.toNat D.1 (t.drop D.2) = (⟨1, zagN D.1, []⟩, true) := by rw [h1]; rfl
    rw [if_pos h1, e]
    by_cases hz : -1099511627776 ≤ zagN D.1 ∧ zagN D.1 ≤ 1099511627776
    · rw [if_pos hz, if_pos ⟨rfl, rightB_1.2 ⟨hz.1, hz.2, rfl⟩⟩]
      rfl
    · rw [if_neg hz, if_neg (fun h => hz ⟨(rightB_1.1 h.2).1, (rightB_1.1 h.2).2.1⟩)]
  · have e : readM c.toNat D.1 (t.drop D.2) = (⟨c.toNat, 0, []⟩, true) := by
      unfold readM; rw [if_neg (by omega), if_neg (by omega), if_neg (by omega)]
    rw [if_neg h1, e, if_neg]
    intro h
    have := rightB_kind h.2
    simp only at this
    omega

/-- What Get answers. -/
def valO (o : Option (PVal × Nat)) : PVal := (o.map (·.1)).getD ⟨0, 0, []⟩
def GetPost (w : World) (o : Option (PVal × Nat)) (e : Ending) (w' : World) : Prop :=
  e = .returned (.tuple #[.agg #[.int .i64 (valO o).k, .int .i64 (valO o).n, .string (strB (valO o).s)], .int .i64 ((o.map (·.2)).getD 0 : Nat), .bool o.isSome]) ∧ Below w.heap.size w w'

theorem GetPost.none {w w' : World} {o : Option (PVal × Nat)} (h : o = none) (hb : Below w.heap.size w w') : GetPost w o (.returned (.tuple #[.agg #[.int .i64 0, .int .i64 0, .string ⟨#[]⟩], .int .i64 0, .bool false])) w' := by
  rw [h]; exact ⟨rfl, hb⟩
theorem GetPost.some {w w' : World} {o : Option (PVal × Nat)} {v : PVal} {n : Nat} {m : Int} (h : o = some (v, n)) (hm : m = n) (hb : Below w.heap.size w w') : GetPost w o (.returned (.tuple #[.agg #[.int .i64 v.k, .int .i64 v.n, .string (strB v.s)], .int .i64 m, .bool true])) w' := by
  rw [h, hm]; exact ⟨rfl, hb⟩

theorem BRow.someA {w : World} {a : Option Addr} {l c : Nat} {x : UInt8} {t : List UInt8} (h : BRow w (.slice a l c) (x :: t)) : ∃ A, a = some A ∧ w.cell? A = some (.int .u8 x.toNat) := by
  obtain ⟨A, h1, h2⟩ := h.atc (i := 0) rfl
  rw [Addr.add_zero'] at h2
  exact ⟨A, h1, h2⟩

theorem keep3 {W : World} {A : Addr} {X : Nat} {v : Value} (h : W.cell? A = some v) (hA : A.block < X) (a b c : Value) : (((W.setCell ⟨X, 0, none⟩ a).setCell ⟨X, 1, none⟩ b).setCell ⟨X, 2, none⟩ c).cell? A = some v :=
  ((((Below.refl X W).setCell (Nat.le_refl _) a).setCell (Nat.le_refl _) b).setCell (Nat.le_refl _) c).cell hA |>.trans h

theorem keep3n {W : World} {Y X i : Nat} {v : Value} (h : W.cell? ⟨Y, i, none⟩ = some v) (hn : Y ≠ X) (a b c : Value) : (((W.setCell ⟨X, 0, none⟩ a).setCell ⟨X, 1, none⟩ b).setCell ⟨X, 2, none⟩ c).cell? ⟨Y, i, none⟩ = some v := by
  have k : ∀ (W' : World) (o : Nat) (x : Value), (W'.setCell ⟨X, o, none⟩ x).cell? ⟨Y, i, none⟩ = W'.cell? ⟨Y, i, none⟩ := fun W' o x => World.cell?_setCell_other _ _ _ _ (by intro e; injection e with e1; exact hn e1.symm)
  rw [k, k, k]
  exact h

theorem gen_world {P F : World → Prop} (W : World) (hF : F W) (h : ∀ W', F W' → P W') : P W := h W hF

theorem set3 {W : World} {X : Nat} {a b c u0 u1 u2 : Value} (q0 : W.cell? ⟨X, 0, none⟩ = some u0) (q1 : W.cell? ⟨X, 1, none⟩ = some u1) (q2 : W.cell? ⟨X, 2, none⟩ = some u2) :
    (((W.setCell ⟨X, 0, none⟩ a).setCell ⟨X, 1, none⟩ b).setCell ⟨X, 2, none⟩ c).cell? ⟨X, 0, none⟩ = some a ∧ (((W.setCell ⟨X, 0, none⟩ a).setCell ⟨X, 1, none⟩ b).setCell ⟨X, 2, none⟩ c).cell? ⟨X, 1, none⟩ = some b ∧ (((W.setCell ⟨X, 0, none⟩ a).setCell ⟨X, 1, none⟩ b).setCell ⟨X, 2, none⟩ c).cell? ⟨X, 2, none⟩ = some c := by
  have k : ∀ (W' : World) (o o' : Nat) (x : Value), o ≠ o' → (W'.setCell ⟨X, o, none⟩ x).cell? ⟨X, o', none⟩ = W'.cell? ⟨X, o', none⟩ := fun W' o o' x h => World.cell?_setCell_other _ _ _ _ (by intro e; injection e with _ e1; exact h e1)
  refine ⟨?_, ?_, ?_⟩
  · rw [k _ _ _ _ (by decide), k _ _ _ _ (by decide)]
    exact World.cell?_setCell_same _ _ _ q0
  · rw [k _ _ _ _ (by decide)]
    exact World.cell?_setCell_same _ _ _ ((k _ _ _ _ (by decide)).trans q1)
  · exact World.cell?_setCell_same _ _ _ ((k _ _ _ _ (by decide)).trans ((k _ _ _ _ (by decide)).trans q2))

/-- Behind the call of read: the result's block, the value's. -/
structure GF (w : World) (Y : Nat) (pk pn : Int) (s : ByteArray) (W : World) : Prop where
  y0 : W.cell? ⟨Y, 0, none⟩ = some (.int .i64 pk)
  y1 : W.cell? ⟨Y, 1, none⟩ = some (.int .i64 pn)
  y2 : W.cell? ⟨Y, 2, none⟩ = some (.string s)
  z0 : W.cell? ⟨w.heap.size, 0, none⟩ = some (.int .i64 0)
  z1 : W.cell? ⟨w.heap.size, 1, none⟩ = some (.int .i64 0)
  z2 : W.cell? ⟨w.heap.size, 2, none⟩ = some (.string ⟨#[]⟩)
  f : ∀ i, W.frozen? ⟨w.heap.size, i, none⟩ = false
  hb : Below w.heap.size w W
  ne : Y ≠ w.heap.size
  lt : Y < W.heap.size

theorem readM_len (k : Int) (n : Nat) (l : List UInt8) : (readM k n l).1.s.length ≤ 64 := by
  unfold readM
  split
  · split
    · simp
    · rename_i h
      show (l.take n).length ≤ 64
      rw [List.length_take]
      omega
  · split
    · simp
    · split <;> simp

set_option maxHeartbeats 4000000 in
set_option maxRecDepth 100000 in
theorem vget_calls (w : World) (v : Value) (bs : List UInt8) (h : BRow w v bs) : Calls Try.prog 88 #[v] w (GetPost w (getV bs)) := by
  obtain ⟨a, c, rfl, hc, hcm⟩ := h.len
  cases bs with
  | nil =>
    have e : getV [] = none := rfl
    rw [e]
    go_enter Try.func88, Try.ntmps88
    go_wp2
    refine bodyPost_ret (v := .tuple #[.agg #[.int .i64 0, .int .i64 0, .string ⟨#[]⟩], .int .i64 0, .bool false]) (by simp [results, Try.results88, go_sem]) rfl (GetPost.none rfl ?_)
    exact (Below.refl _ _).alloc (Nat.le_refl _) _
  | cons x t =>
  have H := Lib.hid h
  obtain ⟨A, rfl, hx⟩ := h.someA
  obtain ⟨l, hl⟩ : ∃ l, (x :: t).length = l := ⟨_, rfl⟩
  have hl0 : 0 < l := by rw [← hl]; simp
  have hlm : l ≤ maxLen := by omega
  unfold maxLen at hlm hcm
  obtain ⟨v1, hv1, hb1⟩ := h.drop (k := 1) (by simp)
  have hd1 : (x :: t).drop 1 = t := rfl
  rw [hd1] at hb1
  rw [hl] at hv1 hc ⊢
  have hg := getV_read x t
  have hdig := fun W (hW : Below w.heap.size w W) => digits_calls W v1 t (hb1.below hW)
  have hsaid := dgo_said (l := t) (K := 6)
  have hsix := dgo_six (l := t)
  generalize dgo (t.take 6) 0 0 = D at hg hdig hsaid hsix
  obtain ⟨d1, d2⟩ := D
  simp only at hg hsaid hsix
  have HDig := Lib.hid hdig
  have hv1' : ∀ W : World, (Instr.slice 40 (.slice (some A) l c) (some (.int .i64 1)) none none).run Try.prog W = .ok v1 W := hv1
  by_cases h0 : d2 = 0
  · have e : getV (x :: t) = none := by rw [hg, if_pos h0]
    have E := Lib.hid e
    subst h0
    clear hg hdig hsaid hsix hv1 h e hl hd1
    go_enter Try.func88, Try.ntmps88
    go_wp2_with (go_at_call 96; refine (HDig.out _ ((Below.refl _ _).alloc (Nat.le_refl _) _)).mono ?_; rintro e w1 ⟨rfl, rfl⟩)
    refine bodyPost_ret (v := .tuple #[.agg #[.int .i64 0, .int .i64 0, .string ⟨#[]⟩], .int .i64 0, .bool false]) (by simp [results, Try.results88, go_sem]) rfl (GetPost.none E.out ?_)
    exact (Below.refl _ _).alloc (Nat.le_refl _) _
  obtain ⟨hs1, hs2, _⟩ := hsaid h0
  have hs3 := hsix h0
  rw [if_neg h0] at hg
  have htl : t.length + 1 = l := by rw [← hl]; simp
  obtain ⟨v7, hv7, hb7⟩ := h.drop (k := 1 + d2) (by rw [hl]; omega)
  have hd7 : (x :: t).drop (1 + d2) = t.drop d2 := by rw [Nat.add_comm, List.drop_succ_cons]
  rw [hd7] at hb7
  rw [hl] at hv7
  have hrd := fun W (hW : Below w.heap.size w W) => read_calls x.toNat d1 W v7 (t.drop d2) (hb7.below hW) hs3
  have hpl := readM_len x.toNat d1 (t.drop d2)
  generalize readM x.toNat d1 (t.drop d2) = p at hg hrd hpl
  obtain ⟨⟨pk, pn, ps⟩, pb⟩ := p
  simp only at hg hpl
  have hv7' : ∀ W : World, (Instr.slice 40 (.slice (some A) l c) (some (.int .i64 (1 + (d2 : Int)))) none none).run Try.prog W = .ok v7 W := fun W => by
    have h1 := hv7 W
    rwa [show ((1 + d2 : Nat) : Int) = 1 + (d2 : Int) by omega] at h1
  have HRd : Hid (∀ W, Below w.heap.size w W → w.heap.size < W.heap.size → Calls Try.prog 97 #[.int .i64 x.toNat, .int .i64 d1, v7] W fun e w' => e = .returned (.tuple #[.agg #[.int .i64 pk, .int .i64 pn, .string (strB ps)], .bool pb]) ∧
      w'.cell? A = some (.int .u8 x.toNat) ∧ (∀ b o, b < W.heap.size → w'.cell? ⟨b, o, none⟩ = W.cell? ⟨b, o, none⟩) ∧ (∀ b o, b < W.heap.size → w'.frozen? ⟨b, o, none⟩ = W.frozen? ⟨b, o, none⟩) ∧ Hid (Below w.heap.size w w') ∧ A.block < w'.heap.size ∧ W.heap.size ≤ w'.heap.size) :=
    fun W hW hz => (hrd W hW).mono fun e w' ⟨e1, hb2⟩ => ⟨e1, (hb2.cell (World.block_lt_of_cell? _ _ ((hW.cell (World.block_lt_of_cell? _ _ hx)).trans hx))).trans ((hW.cell (World.block_lt_of_cell? _ _ hx)).trans hx), (vbcell hb2).1, (vbcell hb2).2, hW.trans (hb2.mono hW.size), Nat.lt_of_lt_of_le (World.block_lt_of_cell? _ _ ((hW.cell (World.block_lt_of_cell? _ _ hx)).trans hx)) hb2.size, hb2.size⟩
  have HG := Lib.hid hg
  have hi0 : (0 : Int) < l := by omega
  clear hg hdig hsaid hsix hv1 h hl hd1 hd7 hv7 hrd hb1 hb7
  have hq1 : IntKind.i64.wrap (1 + (d2 : Int)) = 1 + (d2 : Int) := IntWalk.i64_in _ (by omega)
  have H1 := Lib.hid hq1
  clear hq1
  go_enter Try.func88, Try.ntmps88
  go_upto_region 7 with (go_at_call 96; refine (HDig.out _ ((Below.refl _ _).alloc (Nat.le_refl _) _)).mono ?_; rintro e w1 ⟨rfl, rfl⟩)
  clear hv1' HDig H
  go_cut [8, 9] (fun s8 s9 wx => ∃ Y : Nat, s8 = .pointer (some ⟨Y, 0, none⟩) ∧ s9 = .bool pb ∧ Hid (GF w Y pk pn (strB ps) wx))
  case first =>
    have hxw : (w.alloc (.cells #[.int .i64 0, .int .i64 0, .string ⟨#[]⟩] 52)).cell? A = some (.int .u8 x.toNat) := (World.cell?_alloc_lt _ _ A (World.block_lt_of_cell? _ _ hx)).trans hx
    have hAlt := World.block_lt_of_cell? _ _ hx
    have hAlt1 : A.block < w.heap.size + 1 := Nat.lt_succ_of_lt hAlt
    have hS1 : (w.alloc (.cells #[.int .i64 0, .int .i64 0, .string ⟨#[]⟩] 52)).drew.cell? A = some (.int .u8 x.toNat) := hxw
    have hS2 : ((w.alloc (.cells #[.int .i64 0, .int .i64 0, .string ⟨#[]⟩] 52)).alloc (.cells #[.int .i64 0, .int .i64 0, .string ⟨#[]⟩] 52)).drew.cell? A = some (.int .u8 x.toNat) := (World.cell?_alloc_lt _ _ A (World.block_lt_of_cell? _ _ hxw)).trans hxw
    have hwx : IntKind.i64.wrap (x.toNat : Int) = x.toNat := IntWalk.i64_in _ (by have := x.toNat_lt; omega)
    go_region_held3 (fun W => W.cell? A = some (.int .u8 x.toNat))
      (first | assumption | (refine keep3 (by assumption) (by assumption) _ _ _) | (refine (World.cell?_alloc_lt _ _ _ (by assumption)).trans (by assumption)))
      (first
        | (go_at_call 97; (with_reducible refine (HRd.out _ (vbelow_drew ((Below.refl _ _).alloc (Nat.le_refl _) _)) (by simp)).mono ?_); rintro e w3 ⟨rfl, x0, hc3, hf3, HB3, hz3, hz4⟩)
        | (go_at_call 97; (with_reducible refine (HRd.out _ (vbelow_drew (((Below.refl _ _).alloc (Nat.le_refl _) _).alloc (by simp) _)) (by simp <;> omega)).mono ?_); rintro e w3 ⟨rfl, x0, hc3, hf3, HB3, hz3, hz4⟩))
    · have hF : GF w w3.heap.size pk pn (strB ps) (w3.alloc (.cells #[.int .i64 pk, .int .i64 pn, .string (strB ps)] 52)) := by
        have hz5 : w.heap.size < w3.heap.size := by simp at hz4; omega
        have k : ∀ o, (w3.alloc (.cells #[.int .i64 pk, .int .i64 pn, .string (strB ps)] 52)).cell? ⟨w.heap.size, o, none⟩ = (w.alloc (.cells #[.int .i64 0, .int .i64 0, .string ⟨#[]⟩] 52)).cell? ⟨w.heap.size, o, none⟩ := fun o =>
          (World.cell?_alloc_lt _ _ _ hz5).trans (hc3 w.heap.size o (by simp))
        refine ⟨by simp, by simp, by simp, (k 0).trans (by simp), (k 1).trans (by simp), (k 2).trans (by simp), fun i => ?_, HB3.out.alloc HB3.out.size _, Nat.ne_of_gt hz5, by simp⟩
        have e1 : (w3.alloc (.cells #[.int .i64 pk, .int .i64 pn, .string (strB ps)] 52)).frozen? ⟨w.heap.size, i, none⟩ = w3.frozen? ⟨w.heap.size, i, none⟩ := ((Below.refl w3.heap.size w3).alloc (Nat.le_refl _) _).frozen (p := ⟨w.heap.size, i, none⟩) hz5
        rw [e1, hf3 w.heap.size i (by simp)]
        simp
      go_wp2_with fail
      go_meet
      exact ⟨_, rfl, rfl, hF⟩
    · have e : ∀ o, w3.cell? ⟨w.heap.size + 1, o, none⟩ = ((w.alloc (.cells #[.int .i64 0, .int .i64 0, .string ⟨#[]⟩] 52)).alloc (.cells #[.int .i64 0, .int .i64 0, .string ⟨#[]⟩] 52)).cell? ⟨w.heap.size + 1, o, none⟩ := fun o => hc3 _ o (by simp)
      have e' : ∀ o, w3.cell? ⟨w.heap.size, o, none⟩ = ((w.alloc (.cells #[.int .i64 0, .int .i64 0, .string ⟨#[]⟩] 52)).alloc (.cells #[.int .i64 0, .int .i64 0, .string ⟨#[]⟩] 52)).cell? ⟨w.heap.size, o, none⟩ := fun o => hc3 _ o (by simp <;> omega)
      have hbs : Below (w.heap.size + 1) w3 (((w3.setCell ⟨w.heap.size + 1, 0, none⟩ (.int .i64 pk)).setCell ⟨w.heap.size + 1, 1, none⟩ (.int .i64 pn)).setCell ⟨w.heap.size + 1, 2, none⟩ (.string (strB ps))) := (((Below.refl (w.heap.size + 1) w3).setCell (p := ⟨w.heap.size + 1, 0, none⟩) (Nat.le_refl _) _).setCell (p := ⟨w.heap.size + 1, 1, none⟩) (Nat.le_refl _) _).setCell (p := ⟨w.heap.size + 1, 2, none⟩) (Nat.le_refl _) _
      have hF : GF w (w.heap.size + 1) pk pn (strB ps) (((w3.setCell ⟨w.heap.size + 1, 0, none⟩ (.int .i64 pk)).setCell ⟨w.heap.size + 1, 1, none⟩ (.int .i64 pn)).setCell ⟨w.heap.size + 1, 2, none⟩ (.string (strB ps))) := by
        have hz5 : w.heap.size + 1 < w3.heap.size := by simp at hz4; omega
        have q0 : w3.cell? ⟨w.heap.size + 1, 0, none⟩ = some (.int .i64 0) := (e 0).trans (by simp)
        have q1 : w3.cell? ⟨w.heap.size + 1, 1, none⟩ = some (.int .i64 0) := (e 1).trans (by simp)
        have q2 : w3.cell? ⟨w.heap.size + 1, 2, none⟩ = some (.string ⟨#[]⟩) := (e 2).trans (by simp)
        have hfz : ∀ i, w3.frozen? ⟨w.heap.size, i, none⟩ = false := fun i => by rw [hf3 w.heap.size i (by simp <;> omega)]; simp
        clear e hc3
        obtain ⟨s0, s1, s2⟩ := set3 (a := .int .i64 pk) (b := .int .i64 pn) (c := .string (strB ps)) q0 q1 q2
        refine ⟨s0, s1, s2, (hbs.cell (p := ⟨w.heap.size, 0, none⟩) (Nat.lt_succ_self _)).trans ((e' 0).trans ?_), (hbs.cell (p := ⟨w.heap.size, 1, none⟩) (Nat.lt_succ_self _)).trans ((e' 1).trans ?_), (hbs.cell (p := ⟨w.heap.size, 2, none⟩) (Nat.lt_succ_self _)).trans ((e' 2).trans ?_), fun i => ?_, HB3.out.trans (hbs.mono (Nat.le_succ _)), by omega, by simp; exact hz5⟩
        · rw [World.cell?_alloc_lt _ _ ⟨w.heap.size, 0, none⟩ (by simp)]; simp
        · rw [World.cell?_alloc_lt _ _ ⟨w.heap.size, 1, none⟩ (by simp)]; simp
        · rw [World.cell?_alloc_lt _ _ ⟨w.heap.size, 2, none⟩ (by simp)]; simp
        · rw [hbs.frozen (p := ⟨w.heap.size, i, none⟩) (Nat.lt_succ_self _), hfz i]
      go_wp2_with fail
      go_meet
      exact ⟨_, rfl, rfl, hF⟩
  case rest =>
    obtain ⟨Y, rfl, rfl, HGF⟩ := hcut
    generalize wc = W5 at *
    obtain ⟨y0, y1, y2, z0, z1, z2, ff, hbW, hne, hlt⟩ := HGF.out
    clear hx HRd hv7' HGF
    have HBW := Lib.hid hbW
    have f0 := ff 0
    have f1 := ff 1
    have f2 := ff 2
    have hXlt : w.heap.size < W5.heap.size := World.block_lt_of_cell? _ _ z0
    clear hbW ff
    cases pb with
    | false =>
      have E : Hid (getV (x :: t) = none) := by show getV _ = _; rw [HG.out, if_neg (by simp)]
      clear HG
      go_wp2
      refine bodyPost_ret (v := .tuple #[.agg #[.int .i64 0, .int .i64 0, .string ⟨#[]⟩], .int .i64 0, .bool false]) (by simp [results, Try.results88, go_sem, z0, z1, z2]) rfl (GetPost.none E.out ?_)
      repeat' (first | exact HBW.out | refine Below.setCell ?_ (by simp) _)
    | true =>
    cases hr : rightB ⟨pk, pn, ps⟩ with
    | false =>
      have hrv : rightV pk pn (strB ps) = false := by unfold rightV; rw [strB_list]; exact hr
      have E : Hid (getV (x :: t) = none) := by show getV _ = _; rw [HG.out, if_neg (by rw [hr]; simp)]
      clear HG hr
      go_wp2_with (go_at_call 81; refine (vright_calls _ _ _ _ (by rw [strB_size]; unfold maxLen; omega)).mono ?_; rintro e w1 ⟨rfl, rfl⟩)
      refine bodyPost_ret (v := .tuple #[.agg #[.int .i64 0, .int .i64 0, .string ⟨#[]⟩], .int .i64 0, .bool false]) (by simp [results, Try.results88, go_sem, z0, z1, z2, hXlt]) rfl (GetPost.none E.out ?_)
      repeat' (first | exact HBW.out | refine Below.setCell ?_ (by simp) _ | refine Below.alloc ?_ (by have := HBW.out.size; simp; omega) _)
    | true =>
      have hrv : rightV pk pn (strB ps) = true := by unfold rightV; rw [strB_list]; exact hr
      have E : Hid (getV (x :: t) = some (⟨pk, pn, ps⟩, 1 + d2 + ps.length)) := by show getV _ = _; rw [HG.out, if_pos ⟨rfl, hr⟩]
      clear HG hr
      have hsb := strB_size ps
      obtain ⟨sB, hsB⟩ : ∃ sB, strB ps = sB := ⟨_, rfl⟩
      rw [hsB] at hrv hsb y2
      have HSB := Lib.hid hsB
      have HSz := Lib.hid hsb
      have hs64 : sB.size ≤ 64 := by omega
      clear hsB hsb
      go_wp2_with (go_at_call 81; refine (vright_calls _ _ _ _ (by unfold maxLen; omega)).mono ?_; rintro e w1 ⟨rfl, rfl⟩)
      have a0 : (W5.alloc (.cells #[.int .i64 pk, .int .i64 pn, .string sB] 52)).drew.cell? ⟨Y, 0, none⟩ = some (.int .i64 pk) := (World.cell?_alloc_lt _ _ _ hlt).trans y0
      have a1 : (W5.alloc (.cells #[.int .i64 pk, .int .i64 pn, .string sB] 52)).drew.cell? ⟨Y, 1, none⟩ = some (.int .i64 pn) := (World.cell?_alloc_lt _ _ _ hlt).trans y1
      have a2 : (W5.alloc (.cells #[.int .i64 pk, .int .i64 pn, .string sB] 52)).drew.cell? ⟨Y, 2, none⟩ = some (.string sB) := (World.cell?_alloc_lt _ _ _ hlt).trans y2
      have b0 : ((((W5.setCell ⟨w.heap.size, 0, none⟩ (.int .i64 pk)).setCell ⟨w.heap.size, 1, none⟩ (.int .i64 pn)).setCell ⟨w.heap.size, 2, none⟩ (.string sB)).alloc (.cells #[.int .i64 pk, .int .i64 pn, .string sB] 52)).drew.cell? ⟨Y, 0, none⟩ = some (.int .i64 pk) := (World.cell?_alloc_lt (((W5.setCell ⟨w.heap.size, 0, none⟩ (.int .i64 pk)).setCell ⟨w.heap.size, 1, none⟩ (.int .i64 pn)).setCell ⟨w.heap.size, 2, none⟩ (.string sB)) _ ⟨Y, 0, none⟩ (by simp; exact hlt)).trans (keep3n y0 hne _ _ _)
      have b1 : ((((W5.setCell ⟨w.heap.size, 0, none⟩ (.int .i64 pk)).setCell ⟨w.heap.size, 1, none⟩ (.int .i64 pn)).setCell ⟨w.heap.size, 2, none⟩ (.string sB)).alloc (.cells #[.int .i64 pk, .int .i64 pn, .string sB] 52)).drew.cell? ⟨Y, 1, none⟩ = some (.int .i64 pn) := (World.cell?_alloc_lt (((W5.setCell ⟨w.heap.size, 0, none⟩ (.int .i64 pk)).setCell ⟨w.heap.size, 1, none⟩ (.int .i64 pn)).setCell ⟨w.heap.size, 2, none⟩ (.string sB)) _ ⟨Y, 1, none⟩ (by simp; exact hlt)).trans (keep3n y1 hne _ _ _)
      have b2 : ((((W5.setCell ⟨w.heap.size, 0, none⟩ (.int .i64 pk)).setCell ⟨w.heap.size, 1, none⟩ (.int .i64 pn)).setCell ⟨w.heap.size, 2, none⟩ (.string sB)).alloc (.cells #[.int .i64 pk, .int .i64 pn, .string sB] 52)).drew.cell? ⟨Y, 2, none⟩ = some (.string sB) := (World.cell?_alloc_lt (((W5.setCell ⟨w.heap.size, 0, none⟩ (.int .i64 pk)).setCell ⟨w.heap.size, 1, none⟩ (.int .i64 pn)).setCell ⟨w.heap.size, 2, none⟩ (.string sB)) _ ⟨Y, 2, none⟩ (by simp; exact hlt)).trans (keep3n y2 hne _ _ _)
      have hw1 : IntKind.i64.wrap (1 + (d2 : Int) + (sB.size : Int)) = 1 + (d2 : Int) + (sB.size : Int) := IntWalk.i64_in _ (by omega)
      go_region_held3 (fun W => W.cell? ⟨Y, 0, none⟩ = some (.int .i64 pk) ∧ W.cell? ⟨Y, 1, none⟩ = some (.int .i64 pn) ∧ W.cell? ⟨Y, 2, none⟩ = some (.string sB))
        ((refine ⟨?_, ?_, ?_⟩ <;> assumption))
        (first | fail)
      all_goals
        clear hw1
        go_wp2
        refine bodyPost_ret (v := .tuple #[.agg #[.int .i64 pk, .int .i64 pn, .string sB], .int .i64 (1 + (d2 : Int) + (sB.size : Int)), .bool true]) (by simp [results, Try.results88, go_sem, z0, z1, z2, hXlt]) rfl ?_
        rw [← HSB.out]
        refine GetPost.some E.out (by rw [strB_size]; omega) ?_
        repeat' (first | exact HBW.out | refine Below.setCell ?_ (by simp) _ | refine Below.alloc ?_ (by have := HBW.out.size; simp; omega) _ | refine vbelow_drew ?_)

end Go.Proofs.Ytfmlgckfcclojaa
namespace Go.Proofs.Ytfmlgckfcclojaa
open Go.RowKit Go.Lib Go.Op

theorem size_small {s : ByteArray} (h : s.size ≤ 100) : s.size ≤ maxLen := by unfold maxLen; omega

theorem cells3 {W w' : World} (hb : Below W.heap.size W w') {b : Nat} {x y z : Value} (h0 : W.cell? ⟨b, 0, none⟩ = some x) (h1 : W.cell? ⟨b, 1, none⟩ = some y) (h2 : W.cell? ⟨b, 2, none⟩ = some z) :
    w'.cell? ⟨b, 0, none⟩ = some x ∧ w'.cell? ⟨b, 1, none⟩ = some y ∧ w'.cell? ⟨b, 2, none⟩ = some z ∧ b < w'.heap.size :=
  ⟨(hb.cell (World.block_lt_of_cell? _ _ h0)).trans h0, (hb.cell (World.block_lt_of_cell? _ _ h1)).trans h1, (hb.cell (World.block_lt_of_cell? _ _ h2)).trans h2, Nat.lt_of_lt_of_le (World.block_lt_of_cell? _ _ h0) hb.size⟩

theorem cellsN {w1 w2 : World} {x y z : Value} (hb : Below (w1.heap.size + 1) (w1.alloc (.cells #[x, y, z] 52)) w2) :
    w2.cell? ⟨w1.heap.size, 0, none⟩ = some x ∧ w2.cell? ⟨w1.heap.size, 1, none⟩ = some y ∧ w2.cell? ⟨w1.heap.size, 2, none⟩ = some z ∧ w1.heap.size < w2.heap.size := by
  have hs : w1.heap.size < (w1.alloc (.cells #[x, y, z] 52)).heap.size := by simp
  refine ⟨(hb.cell (p := ⟨w1.heap.size, 0, none⟩) (Nat.lt_succ_self _)).trans (by simp), (hb.cell (p := ⟨w1.heap.size, 1, none⟩) (Nat.lt_succ_self _)).trans (by simp), (hb.cell (p := ⟨w1.heap.size, 2, none⟩) (Nat.lt_succ_self _)).trans (by simp), Nat.lt_of_lt_of_le hs hb.size⟩

theorem brow_new (w : World) (bs : List UInt8) (cs : Array Value) (t : TypeId) (fr : Nat × Nat) (h : cs.toList = byteCells bs) (c : Nat) (h1 : bs.length ≤ c) (h2 : c ≤ maxLen) : BRow (w.alloc (.cells cs t fr)) (.slice (some ⟨w.heap.size, 0, none⟩) bs.length c) bs :=
  ⟨_, c, rfl, h1, h2, (fun e => by cases e), fun j x hj => ⟨_, rfl, cells_new w bs cs t fr h j _ (by simp [byteCells, hj])⟩⟩

/-- What is owned, at its block. -/
theorem owns_at {w : World} {B : Nat} {v : Value} {n : Nat} {bs : List UInt8} (h : w.ownsRow B 5 1 v n (byteCells bs)) (hn : 0 < n) : ∃ g c, v = .slice (some ⟨g, 0, none⟩) n c ∧ n ≤ c ∧ c ≤ maxLen ∧ B ≤ g ∧ g < w.heap.size ∧ ∀ j x, bs[j]? = some x → w.cell? ⟨g, j, none⟩ = some (.int .u8 x.toNat) := by
  have hc := fun g hg => h.cells (g := g) hg
  have hl := fun g hg => h.lt g hg
  rcases h.2 with ⟨rfl, h0⟩ | ⟨g, cap, cur, rfl, hB, _, h1, h2, _⟩
  · omega
  · refine ⟨g, cap, rfl, h1, h2, hB, (hl g rfl).2, fun j x hj => ?_⟩
    have h3 := hc g rfl j (.int .u8 x.toNat) (by simp [byteCells, hj])
    rw [show ((⟨g, 0, none⟩ : Addr).add j) = ⟨g, j, none⟩ by unfold Addr.add; split <;> simp_all] at h3
    exact h3

theorem vget_some {w : World} {v : Value} {bs : List UInt8} (h : BRow w v bs) {k n : Int} {s : List UInt8} {m : Nat} {sB : ByteArray} (hg : getV bs = some (⟨k, n, s⟩, m)) (hs : strB s = sB) :
    Calls Try.prog 88 #[v] w fun e w' => e = .returned (.tuple #[.agg #[.int .i64 k, .int .i64 n, .string sB], .int .i64 m, .bool true]) ∧ Below w.heap.size w w' :=
  (vget_calls w v bs h).mono fun e w' ⟨h1, h2⟩ => ⟨by rw [h1, hg, ← hs]; rfl, h2⟩
theorem vget_none {w : World} {v : Value} {bs : List UInt8} (h : BRow w v bs) (hg : getV bs = none) :
    Calls Try.prog 88 #[v] w fun e w' => e = .returned (.tuple #[.agg #[.int .i64 0, .int .i64 0, .string ⟨#[]⟩], .int .i64 0, .bool false]) ∧ Below w.heap.size w w' :=
  (vget_calls w v bs h).mono fun e w' ⟨h1, h2⟩ => ⟨by rw [h1, hg]; rfl, h2⟩

end Go.Proofs.Ytfmlgckfcclojaa
namespace Go.Proofs.Ytfmlgckfcclojaa
open Go.RowKit Go.Lib Go.Op

/-- An event's cells. -/
def evC (t d s : Int) (n : ByteArray) (v : Value) : List Value := [.int .i64 t, .int .i64 d, .int .i64 s, .string n, v]

/-- What read holds while it reads. -/
structure RD (w : World) (X Y C E : Nat) (v : Value) (bs : List UInt8) (cs : List Value) (W : World) : Prop where
  rb : RB w X v bs W
  r : ∀ i x, (evC 0 0 0 ⟨#[]⟩ (.slice none 0 0))[i]? = some x → W.cell? ⟨Y, i, none⟩ = some x
  k : W.cell? ⟨C, 0, none⟩ = some (.func (.func 85) #[] #[.pointer (some ⟨X, 0, none⟩)])
  e : ∀ i x, cs[i]? = some x → W.cell? ⟨E, i, none⟩ = some x
  fY : ∀ i, W.frozen? ⟨Y, i, none⟩ = false
  fE : ∀ i, W.frozen? ⟨E, i, none⟩ = false
  xy : X < Y
  yc : Y < C
  ce : C < E
  lt : E < W.heap.size

theorem set_other {W : World} {b b' i i' : Nat} {x : Value} (h : b ≠ b') : (W.setCell ⟨b, i, none⟩ x).cell? ⟨b', i', none⟩ = W.cell? ⟨b', i', none⟩ :=
  World.cell?_setCell_other _ _ _ _ (by intro e; injection e with e1; exact h e1)

theorem RD.dig {w : World} {X Y C E : Nat} {v v' : Value} {bs bs' : List UInt8} {cs : List Value} {W : World} (h : RD w X Y C E v bs cs W) (hr : RB w X v' bs' (W.setCell ⟨X, 0, none⟩ v')) : RD w X Y C E v' bs' cs (W.setCell ⟨X, 0, none⟩ v') where
  rb := hr
  r i x hx := (set_other (by have := h.xy; omega)).trans (h.r i x hx)
  k := (set_other (by have := h.xy; have := h.yc; omega)).trans h.k
  e i x hx := (set_other (by have := h.xy; have := h.yc; have := h.ce; omega)).trans (h.e i x hx)
  fY i := by simp [h.fY i]
  fE i := by simp [h.fE i]
  xy := h.xy
  yc := h.yc
  ce := h.ce
  lt := by simpa using h.lt

theorem RD.dig' {w : World} {X Y C E : Nat} {v v' : Value} {bs bs' : List UInt8} {cs : List Value} {W W' : World} (h : RD w X Y C E v bs cs W) (hw : W' = W.setCell ⟨X, 0, none⟩ v') (hr : RB w X v' bs' W') : RD w X Y C E v' bs' cs W' := by
  subst hw; exact h.dig hr

/-- cut, with a bound. -/
theorem cut_at {w W : World} {bb n lim q : Nat} {v : Value} {bs : List UInt8} (h : RB w bb v bs W) (hq : min (min n lim) bs.length = q) {z : Int} (hz : z = ((min n lim : Nat) : Int)) (hn : lim ≤ 100) :
    Calls Try.prog 85 #[.int .i64 z, .pointer (some ⟨bb, 0, none⟩)] W (CutsPost w bb q bs W) := by
  rw [hz]
  exact cut1_calls w W bb (min n lim) v bs q h (by omega) hq

theorem RD.put {w : World} {X Y C E : Nat} {v : Value} {bs : List UInt8} {cs : List Value} {W : World} (h : RD w X Y C E v bs cs W) {i : Nat} (x : Value) {y : Value} (hi : cs[i]? = some y) : RD w X Y C E v bs (cs.set i x) (W.setCell ⟨E, i, none⟩ x) where
  rb := ⟨(set_other (by have := h.xy; have := h.yc; have := h.ce; omega)).trans h.rb.c, by simp [h.rb.f], h.rb.row, h.rb.hb.setCell (by have := h.rb.le; have := h.xy; have := h.yc; have := h.ce; dsimp only; omega) _, h.rb.le⟩
  r j z hz := (set_other (by have := h.yc; have := h.ce; omega)).trans (h.r j z hz)
  k := (set_other (by have := h.ce; omega)).trans h.k
  e j z hz := by
    rw [List.getElem?_set] at hz
    split at hz
    · rename_i e
      subst e
      split at hz
      · injection hz with hz
        rw [← hz]
        exact World.cell?_setCell_same _ _ _ (h.e i y hi)
      · cases hz
    · rename_i e
      rw [World.cell?_setCell_other _ _ _ _ (by intro e2; injection e2 with _ e3; exact e e3)]
      exact h.e j z hz
  fY i := by simp [h.fY i]
  fE i := by simp [h.fE i]
  xy := h.xy
  yc := h.yc
  ce := h.ce
  lt := by simpa using h.lt

theorem RD.below {w : World} {X Y C E : Nat} {v : Value} {bs : List UInt8} {cs : List Value} {W W' : World} (h : RD w X Y C E v bs cs W) (hb : Below W.heap.size W W') : RD w X Y C E v bs cs W' where
  rb := h.rb.below hb
  r i x hx := ekeep hb (h.r i x hx)
  k := ekeep hb h.k
  e i x hx := ekeep hb (h.e i x hx)
  fY i := (hb.frozen (p := ⟨Y, i, none⟩) (Nat.lt_trans (Nat.lt_trans h.yc h.ce) h.lt)).trans (h.fY i)
  fE i := (hb.frozen (p := ⟨E, i, none⟩) h.lt).trans (h.fE i)
  xy := h.xy
  yc := h.yc
  ce := h.ce
  lt := Nat.lt_of_lt_of_le h.lt hb.size

theorem new_cell (W : World) (cs : Array Value) (t : TypeId) {b i : Nat} {x : Value} (hb : b = W.heap.size) (hx : cs[i]? = some x) : (W.alloc (.cells cs t)).cell? ⟨b, i, none⟩ = some x := by
  subst hb; exact fcell_of_blk (heap_alloc_new W _) hx
theorem new_frozen (W : World) (cs : Array Value) (t : TypeId) {b i : Nat} (hb : b = W.heap.size) : (W.alloc (.cells cs t)).frozen? ⟨b, i, none⟩ = false := by
  subst hb; simp
theorem keep_frozen (W : World) (o : Obj) {b i : Nat} (hb : b < W.heap.size) (h : W.frozen? ⟨b, i, none⟩ = false) : (W.alloc o).frozen? ⟨b, i, none⟩ = false :=
  (((Below.refl W.heap.size W).alloc (Nat.le_refl _) o).frozen (p := ⟨b, i, none⟩) hb).trans h

/-- The cells of a zero event. -/
abbrev zeroC : Array Value := #[.int .i64 0, .int .i64 0, .int .i64 0, .string ⟨#[]⟩, .slice none 0 0]
theorem zeroC_at {i : Nat} {x : Value} (h : (evC 0 0 0 ⟨#[]⟩ (.slice none 0 0))[i]? = some x) : zeroC[i]? = some x := by
  rw [← h]; simp [evC, zeroC]

theorem RD.start (w Wa : World) (v : Value) (bs : List UInt8) (h : BRow w v bs) (hWa : Wa = (w.alloc (.cells #[v] 40)).alloc (.cells zeroC 25)) {Wb : World} (hWb : Wb = Wa.alloc (.cells #[.func (.func 85) #[] #[.pointer (some ⟨w.heap.size, 0, none⟩)]] 113)) :
    RD w w.heap.size (w.heap.size + 1) Wa.heap.size Wb.heap.size v bs (evC 0 0 0 ⟨#[]⟩ (.slice none 0 0)) (Wb.alloc (.cells zeroC 25)) := by
  have hza : Wa.heap.size = w.heap.size + 2 := by rw [hWa]; simp
  have hzb : Wb.heap.size = w.heap.size + 3 := by rw [hWb]; simp [hza]
  have k1 : ∀ {b i : Nat} {x : Value}, Wa.cell? ⟨b, i, none⟩ = some x → Wb.cell? ⟨b, i, none⟩ = some x := fun hx => by
    rw [hWb]; exact ekeepAl _ hx
  have k2 : ∀ {b i : Nat}, b < w.heap.size + 2 → Wa.frozen? ⟨b, i, none⟩ = false → Wb.frozen? ⟨b, i, none⟩ = false := fun {b i} hb hx => by
    rw [hWb]
    exact keep_frozen Wa _ (by omega) hx
  have hbl : Below w.heap.size w Wa := by rw [hWa]; exact ((Below.refl _ _).alloc (Nat.le_refl _) _).alloc (by simp) _
  have hbl2 : Below w.heap.size w Wb := by rw [hWb]; exact hbl.alloc hbl.size _
  exact {
    rb := ⟨ekeepAl _ (k1 (by rw [hWa]; simp)), keep_frozen _ _ (by omega) (k2 (by omega) (by rw [hWa]; simp)), h, hbl2.alloc hbl2.size _, Nat.le_refl _⟩
    r := fun i x hx => ekeepAl _ (k1 (by rw [hWa]; exact new_cell _ _ _ (by simp) (zeroC_at hx)))
    k := ekeepAl _ (by rw [hWb]; exact new_cell _ _ _ rfl rfl)
    e := fun i x hx => new_cell _ _ _ rfl (zeroC_at hx)
    fY := fun i => keep_frozen _ _ (by omega) (k2 (by omega) (by rw [hWa]; exact new_frozen _ _ _ (by simp)))
    fE := fun i => new_frozen _ _ _ rfl
    xy := by omega
    yc := by omega
    ce := by omega
    lt := by simp }

theorem take_min {α : Type} (l : List α) (m : Nat) : l.take (min m l.length) = l.take m := by
  by_cases h : m ≤ l.length
  · rw [Nat.min_eq_left h]
  · rw [Nat.min_eq_right (by omega), List.take_length, List.take_of_length_le (by omega)]
theorem drop_min {α : Type} (l : List α) (m : Nat) : l.drop (min m l.length) = l.drop m := by
  by_cases h : m ≤ l.length
  · rw [Nat.min_eq_left h]
  · rw [Nat.min_eq_right (by omega), List.drop_length, List.drop_eq_nil_of_le (by omega)]

theorem readE_parts {bs b1 b2 b3 b4 b5 b6 : List UInt8} {n1 n2 n3 n4 n5 q1 q2 q3 q4 q5 m4 : Nat} (h1 : firstD bs = (n1, q1)) (hb1 : bs.drop q1 = b1) (h2 : firstD b1 = (n2, q2)) (hb2 : b1.drop q2 = b2) (h3 : firstD b2 = (n3, q3)) (hb3 : b2.drop q3 = b3) (h4 : firstD b3 = (n4, q4)) (hb4 : b3.drop q4 = b4) (hm4 : min (min n4 16) b4.length = m4) (hb5 : b4.drop m4 = b5) (h5 : firstD b5 = (n5, q5)) (hb6 : b5.drop q5 = b6) :
    readE bs = ⟨n1, n2, n3, b4.take m4, (valsD (min n5 8) b6).1⟩ := by
  rw [← hm4, drop_min] at hb5
  rw [← hm4, take_min]
  unfold readE
  simp only [h1, hb1, h2, hb2, h3, hb3, h4, hb4, hb5, h5, hb6]

/-- What read leaves of digits. -/
theorem RD.calls {w : World} {X Y C E : Nat} {v : Value} {bs : List UInt8} {cs : List Value} {W : World} (h : RD w X Y C E v bs cs W) {n q : Nat} (hf : firstD bs = (n, q)) :
    Calls Try.prog 86 #[.pointer (some ⟨X, 0, none⟩), .pointer (some ⟨C, 0, none⟩)] W (DigsPost w X n q bs W) := dig2_calls w W X C v bs n q h.rb h.k hf

theorem infoV : (Try.prog.info? 52).map (fun i => (i.zero, i.size, i.bytes)) = some (some (.agg #[.int .i64 0, .int .i64 0, .string .empty]), 3, 32) := by kernel_rfl

/-- A value's cells, and values'. -/
def vCells (x : VIn) : List Value := [.int .i64 x.1, .int .i64 x.2.1, .string x.2.2]
def valCells : List VIn → List Value
  | [] => []
  | x :: l => vCells x ++ valCells l
theorem valCells_append : ∀ (l m : List VIn), valCells (l ++ m) = valCells l ++ valCells m
  | [], m => rfl
  | x :: l, m => by simp [valCells, valCells_append l m]
theorem valCells_one (x : VIn) : valCells [x] = vCells x := by simp [valCells]
theorem valCells_at : ∀ (l : List VIn) (j : Nat) (x : VIn) (i : Nat), l[j]? = some x → i < 3 → (valCells l)[j * 3 + i]? = (vCells x)[i]?
  | [], j, x, i, h, _ => by simp at h
  | y :: l, 0, x, i, h, hi => by
    have e : y = x := by simpa using h
    subst e
    rw [valCells, Nat.zero_mul, Nat.zero_add, List.getElem?_append_left (by simpa [vCells] using hi)]
  | y :: l, j + 1, x, i, h, hi => by
    have h1 := valCells_at l j x i (by simpa using h) hi
    rw [valCells, List.getElem?_append_right (by simp [vCells]; omega)]
    rw [← h1]
    congr 1
    simp [vCells]
    omega
theorem vCells_oneCell (x : VIn) : ∀ u ∈ vCells x, u.oneCell' = true := by
  intro u hu
  simp only [vCells, List.mem_cons, List.not_mem_nil, or_false] at hu
  rcases hu with rfl | rfl | rfl <;> rfl
theorem v_new (w : World) (x : VIn) : ∀ j u, (vCells x)[j]? = some u → (w.alloc (.cells #[.int .i64 x.1, .int .i64 x.2.1, .string x.2.2] 52)).cell? ((⟨w.heap.size, 0, none⟩ : Addr).add j) = some u := by
  intro j u hu
  rw [show ((⟨w.heap.size, 0, none⟩ : Addr).add j) = ⟨w.heap.size, j, none⟩ by unfold Addr.add; split <;> simp_all]
  refine new_cell _ _ _ rfl ?_
  rw [← hu]
  simp [vCells]

theorem VRow.of_owns {w : World} {base : Nat} {v : Value} {n : Nat} {vs : List VIn} (h : w.ownsRow base 52 3 v n (valCells vs)) (hs : ∀ x ∈ vs, x.2.2.size ≤ maxLen) {a : Option Addr} {c : Nat} (hv : v = .slice a vs.length c) : VRow w a vs := by
  intro j x hj
  have hc := fun g hg => h.cells (g := g) hg
  have hjl := (List.getElem?_eq_some_iff.1 hj).1
  rcases h.2 with ⟨h1, h0⟩ | ⟨g, cap, cur, h1, _⟩
  · rw [hv] at h1
    injection h1 with _ h3
    omega
  · have hg : v.ownBlock = some g := by rw [h1]; rfl
    have he := hc g hg
    rw [hv] at h1
    injection h1 with h4
    subst h4
    have hadd : ∀ q, ((⟨g, 0, none⟩ : Addr).add q) = ⟨g, q, none⟩ := fun q => by unfold Addr.add; split <;> simp_all
    have key : ∀ i u, i < 3 → (vCells x)[i]? = some u → w.cell? ⟨g, j * 3 + i, none⟩ = some u := fun i u hi hu => by
      have := he (j * 3 + i) u ((valCells_at vs j x i hj hi).trans hu)
      rwa [hadd] at this
    refine ⟨⟨g, 0, none⟩, rfl, ?_, ?_, ?_, hs x (List.mem_of_getElem? hj)⟩
    · rw [hadd]; exact key 0 _ (by omega) rfl
    · unfold efld; rw [hadd]; exact key 1 _ (by omega) rfl
    · unfold efld; rw [hadd]; exact key 2 _ (by omega) rfl

/-- What Get reads, a zero value if there is none. -/
def getZ (b : List UInt8) : VIn × Nat := match getV b with
  | some (v, m) => ((v.k, v.n, strB v.s), m)
  | none => ((0, 0, ⟨#[]⟩), 0)

theorem vget_z (w : World) (v : Value) (bs : List UInt8) (h : BRow w v bs) : Calls Try.prog 88 #[v] w fun e w' => e = .returned (.tuple #[.agg #[.int .i64 (getZ bs).1.1, .int .i64 (getZ bs).1.2.1, .string (getZ bs).1.2.2], .int .i64 (getZ bs).2, .bool (getV bs).isSome]) ∧ Below w.heap.size w w' :=
  (vget_calls w v bs h).mono fun e w' ⟨h1, h2⟩ => ⟨by
    rw [h1]
    unfold getZ
    cases getV bs with
    | none => rfl
    | some x => rfl, h2⟩

theorem getZ_le (b : List UInt8) : (getZ b).2 ≤ b.length ∧ (getZ b).1.2.2.size ≤ 64 := by
  unfold getZ
  cases h : getV b with
  | none => exact ⟨Nat.zero_le _, by decide⟩
  | some x =>
    obtain ⟨v, m⟩ := x
    obtain ⟨h1, h2, h3⟩ := getV_reads.back b v m h
    refine ⟨h2, ?_⟩
    have h4 := (writtenV_le (k := v.k) (n := v.n) (s := strB v.s) (by unfold rightV; rw [strB_list]; exact h1)).2.1
    exact h4
theorem getZ_small (b : List UInt8) : (getZ b).2 ≤ 80 := by
  unfold getZ
  cases h : getV b with
  | none => exact Nat.zero_le _
  | some x =>
    obtain ⟨v, m⟩ := x
    obtain ⟨_, h2, h3⟩ := getV_reads.back b v m h
    have h4 := putV_len (v := v)
    rw [h3, List.length_take, Nat.min_eq_left h2] at h4
    exact h4
theorem valsD_z (k : Nat) (b : List UInt8) : valsD (k + 1) b = (pv (getZ b).1 :: (valsD k (b.drop (getZ b).2)).1, (valsD k (b.drop (getZ b).2)).2) := by
  rw [valsD]
  unfold getZ
  cases h : getV b with
  | none => simp [pv]
  | some x => simp [pv, strB_list]

/-- Values that were read so far. -/
def ValsTo (K : Nat) (b : List UInt8) (k : Nat) (bk : List UInt8) (acc : List VIn) : Prop := acc.length = k ∧ (valsD K b).1 = acc.map pv ++ (valsD (K - k) bk).1 ∧ ∀ x ∈ acc, x.2.2.size ≤ maxLen
theorem ValsTo.step {K : Nat} {b : List UInt8} {k : Nat} {bk : List UInt8} {acc : List VIn} (h : ValsTo K b k bk acc) (hk : k < K) : ValsTo K b (k + 1) (bk.drop (getZ bk).2) (acc ++ [(getZ bk).1]) := by
  obtain ⟨h1, h2, h3⟩ := h
  refine ⟨by simp [h1], ?_, fun x hx => ?_⟩
  · rw [h2, show K - k = (K - (k + 1)) + 1 by omega, valsD_z]
    simp
  · rcases List.mem_append.1 hx with h4 | h4
    · exact h3 x h4
    · simp only [List.mem_cons, List.not_mem_nil, or_false] at h4
      rw [h4]
      have := (getZ_le bk).2
      unfold maxLen
      omega
theorem ValsTo.fin {K : Nat} {b : List UInt8} {bk : List UInt8} {acc : List VIn} (h : ValsTo K b K bk acc) : acc.map pv = (valsD K b).1 := by
  obtain ⟨_, h2, _⟩ := h
  rw [h2, Nat.sub_self]
  simp [valsD]

theorem eowns_set {w : World} {base : Nat} {e : TypeId} {size : Nat} {v : Value} {n : Nat} {xs : List Value} (h : w.ownsRow base e size v n xs) {b i : Nat} (x : Value) (hb : b < base) : (w.setCell ⟨b, i, none⟩ x).ownsRow base e size v n xs :=
  eowns_of_block h (fun g hg => Below.heap_setCell _ _ _ _ (fun e => by have h8 := (h.lt g hg).1; dsimp only at e; omega))

theorem RD.belowE {w : World} {X Y C E : Nat} {v : Value} {bs : List UInt8} {cs : List Value} {W W' : World} (h : RD w X Y C E v bs cs W) (hb : Below (E + 1) W W') : RD w X Y C E v bs cs W' :=
  have hx := h.xy
  have hy := h.yc
  have hc := h.ce
  { rb := ⟨(hb.cell (p := ⟨X, 0, none⟩) (by dsimp only; omega)).trans h.rb.c, (hb.frozen (p := ⟨X, 0, none⟩) (by dsimp only; omega)).trans h.rb.f, h.rb.row, h.rb.hb.trans (hb.mono (by have := h.rb.le; omega)), h.rb.le⟩
    r := fun i x hx => (hb.cell (p := ⟨Y, i, none⟩) (by dsimp only; omega)).trans (h.r i x hx)
    k := (hb.cell (p := ⟨C, 0, none⟩) (by dsimp only; omega)).trans h.k
    e := fun i x hx => (hb.cell (p := ⟨E, i, none⟩) (by dsimp only; omega)).trans (h.e i x hx)
    fY := fun i => (hb.frozen (p := ⟨Y, i, none⟩) (by dsimp only; omega)).trans (h.fY i)
    fE := fun i => (hb.frozen (p := ⟨E, i, none⟩) (by dsimp only; omega)).trans (h.fE i)
    xy := h.xy
    yc := h.yc
    ce := h.ce
    lt := Nat.lt_of_lt_of_le h.lt hb.size }

theorem vowns_slice {w : World} {base : Nat} {e : TypeId} {s n : Nat} {v : Value} {xs : List Value} (h : w.ownsRow base e s v n xs) : ∃ a c, v = .slice a n c := by
  rcases h.2 with ⟨rfl, rfl⟩ | ⟨g, cap, cur, rfl, _⟩
  · exact ⟨none, 0, rfl⟩
  · exact ⟨_, cap, rfl⟩
theorem vowns_below {w w' : World} {B : Nat} {e : TypeId} {s : Nat} {v : Value} {n : Nat} {xs : List Value} (h : w.ownsRow B e s v n xs) (hb : Below w.heap.size w w') : w'.ownsRow B e s v n xs :=
  eowns_of_block h (fun g hg => hb.block g (h.lt g hg).2)

theorem below5 {w W : World} {b : Nat} (h : Below w.heap.size w W) (hb : w.heap.size ≤ b) (x0 x1 x2 x3 x4 : Value) : Below w.heap.size w (((((W.setCell ⟨b, 0, none⟩ x0).setCell ⟨b, 1, none⟩ x1).setCell ⟨b, 2, none⟩ x2).setCell ⟨b, 3, none⟩ x3).setCell ⟨b, 4, none⟩ x4) :=
  ((((h.setCell (p := ⟨b, 0, none⟩) hb x0).setCell (p := ⟨b, 1, none⟩) hb x1).setCell (p := ⟨b, 2, none⟩) hb x2).setCell (p := ⟨b, 3, none⟩) hb x3).setCell (p := ⟨b, 4, none⟩) hb x4

/-- A right or wrong event that was read: its values' row lies behind all that was. -/
def ReadsPost (w : World) (p : PEv) (e : Ending) (w' : World) : Prop := ∃ (n : ByteArray) (a : Option Addr) (c : Nat) (vs : List VIn), e = .returned (evV p.ts p.dep p.seq n (.slice a vs.length c)) ∧ n.data.toList = p.name ∧ n.size ≤ 16 ∧ vs.map pv = p.vals ∧ VRow w' a vs ∧ (∀ A, a = some A → w.heap.size ≤ A.block) ∧ Below w.heap.size w w'

set_option maxHeartbeats 40000000 in
set_option maxRecDepth 100000 in
theorem eread_calls (w : World) (v : Value) (bs : List UInt8) (h : BRow w v bs) : Calls Try.prog 61 #[v] w (ReadsPost w (readE bs)) := by
  obtain ⟨a, c, rfl, hc, hcm⟩ := h.len
  have Hr := Lib.hid h
  obtain ⟨l, hl⟩ : ∃ l, bs.length = l := ⟨_, rfl⟩
  rw [hl] at Hr hc ⊢
  clear h
  obtain ⟨n1, q1, h1⟩ : ∃ n q, firstD bs = (n, q) := ⟨_, _, rfl⟩
  obtain ⟨b1, hb1⟩ : ∃ b1, bs.drop q1 = b1 := ⟨_, rfl⟩
  obtain ⟨n2, q2, h2⟩ : ∃ n q, firstD b1 = (n, q) := ⟨_, _, rfl⟩
  obtain ⟨b2, hb2⟩ : ∃ b2, b1.drop q2 = b2 := ⟨_, rfl⟩
  obtain ⟨n3, q3, h3⟩ : ∃ n q, firstD b2 = (n, q) := ⟨_, _, rfl⟩
  obtain ⟨b3, hb3⟩ : ∃ b3, b2.drop q3 = b3 := ⟨_, rfl⟩
  obtain ⟨n4, q4, h4⟩ : ∃ n q, firstD b3 = (n, q) := ⟨_, _, rfl⟩
  obtain ⟨b4, hb4⟩ : ∃ b4, b3.drop q4 = b4 := ⟨_, rfl⟩
  obtain ⟨m4, hm4⟩ : ∃ m4, min (min n4 16) b4.length = m4 := ⟨_, rfl⟩
  obtain ⟨b5, hb5⟩ : ∃ b5, b4.drop m4 = b5 := ⟨_, rfl⟩
  obtain ⟨n5, q5, h5⟩ : ∃ n q, firstD b5 = (n, q) := ⟨_, _, rfl⟩
  obtain ⟨b6, hb6⟩ : ∃ b6, b5.drop q5 = b6 := ⟨_, rfl⟩
  have HRE := Lib.hid (readE_parts h1 hb1 h2 hb2 h3 hb3 h4 hb4 hm4 hb5 h5 hb6)
  go_enter Try.func61, Try.ntmps61
  go_upto_region 1 with fail
  obtain ⟨Wa, hWa⟩ : ∃ Wa, Wa = (w.alloc (.cells #[.slice a l c] 40)).alloc (.cells zeroC 25) := ⟨_, rfl⟩
  rw [← hWa]
  have hWa0 := Lib.hid hWa
  have hX : w.heap.size < Wa.heap.size := by rw [hWa]; simp <;> omega
  clear hWa
  go_upto_region 3 with fail
  obtain ⟨Wb, hWb⟩ : ∃ Wb, Wb = Wa.alloc (.cells #[.func (.func 85) #[] #[.pointer (some ⟨w.heap.size, 0, none⟩)]] 113) := ⟨_, rfl⟩
  rw [← hWb]
  have HR0 := Lib.hid (RD.start w Wa _ bs Hr.out hWa0.out hWb)
  clear hWb hX
  have hd0 := HR0.out.calls (n := n1) (q := q1) h1
  go_upto_region 5 with (go_at_call 86; refine hd0.mono ?_; rintro e w2 ⟨v1, rfl, rfl, hrb⟩; rw [hb1] at hrb; have HD := Lib.hid (HR0.out.dig hrb); have e0 := HD.out.e 0 _ rfl; have f0 := HD.out.fE 0; clear hrb)
  obtain ⟨W5, hW⟩ : ∃ W, W = ((Wb.alloc (.cells zeroC 25)).setCell ⟨w.heap.size, 0, none⟩ v1).setCell ⟨Wb.heap.size, 0, none⟩ (.int .i64 n1) := ⟨_, rfl⟩
  rw [← hW]
  have HR1 : Hid (RD w w.heap.size (w.heap.size + 1) Wa.heap.size Wb.heap.size v1 b1 (evC n1 0 0 ⟨#[]⟩ (.slice none 0 0)) W5) := by show RD _ _ _ _ _ _ _ _ _; rw [hW]; exact HD.out.put (i := 0) (.int .i64 n1) rfl
  clear hW HD e0 f0 hd0 HR0
  have hd1 := HR1.out.calls (n := n2) (q := q2) h2
  go_upto_region 6 with (go_at_call 86; refine hd1.mono ?_; rintro e w2 ⟨v2, rfl, rfl, hrb⟩; rw [hb2] at hrb; have HD := Lib.hid (HR1.out.dig hrb); have e0 := HD.out.e 1 _ rfl; have f0 := HD.out.fE 1; clear hrb)
  obtain ⟨W6, hW⟩ : ∃ W, W = ((W5).setCell ⟨w.heap.size, 0, none⟩ v2).setCell ⟨Wb.heap.size, 1, none⟩ (.int .i64 n2) := ⟨_, rfl⟩
  rw [← hW]
  have HR2 : Hid (RD w w.heap.size (w.heap.size + 1) Wa.heap.size Wb.heap.size v2 b2 (evC n1 n2 0 ⟨#[]⟩ (.slice none 0 0)) W6) := by show RD _ _ _ _ _ _ _ _ _; rw [hW]; exact HD.out.put (i := 1) (.int .i64 n2) rfl
  clear hW HD e0 f0 hd1 HR1
  have hd2 := HR2.out.calls (n := n3) (q := q3) h3
  go_upto_region 7 with (go_at_call 86; refine hd2.mono ?_; rintro e w2 ⟨v3, rfl, rfl, hrb⟩; rw [hb3] at hrb; have HD := Lib.hid (HR2.out.dig hrb); have e0 := HD.out.e 2 _ rfl; have f0 := HD.out.fE 2; clear hrb)
  obtain ⟨W7, hW⟩ : ∃ W, W = ((W6).setCell ⟨w.heap.size, 0, none⟩ v3).setCell ⟨Wb.heap.size, 2, none⟩ (.int .i64 n3) := ⟨_, rfl⟩
  rw [← hW]
  have HR3 : Hid (RD w w.heap.size (w.heap.size + 1) Wa.heap.size Wb.heap.size v3 b3 (evC n1 n2 n3 ⟨#[]⟩ (.slice none 0 0)) W7) := by show RD _ _ _ _ _ _ _ _ _; rw [hW]; exact HD.out.put (i := 2) (.int .i64 n3) rfl
  clear hW HD e0 f0 hd2 HR2
  have HR3d : Hid (RD w w.heap.size (w.heap.size + 1) Wa.heap.size Wb.heap.size v3 b3 (evC n1 n2 n3 ⟨#[]⟩ (.slice none 0 0)) W7.drew) := HR3.out.below (vbelow_drew (Below.refl _ _))
  have hd7 := Lib.hid (HR3d.out.calls (n := n4) (q := q4) h4)
  have kc := HR3d.out.k
  have hne : Wb.heap.size ≠ Wa.heap.size := by have := HR3d.out.ce; omega
  clear HR3
  go_region_held (fun W => W.cell? ⟨Wa.heap.size, 0, none⟩ = some (.func (.func 85) #[] #[.pointer (some ⟨w.heap.size, 0, none⟩)]))
    (first | with_reducible assumption | ((with_reducible refine (set_other hne).trans ?_) <;> with_reducible assumption))
    (first
      | (go_at_call 86; refine hd7.out.mono ?_; rintro e w8 ⟨v4, rfl, hw8, hrb8⟩; rw [hb4] at hrb8; have HD8 := Lib.hid (HR3d.out.dig' hw8 hrb8); have kc8 := HD8.out.k; clear hw8 hrb8)
      | (go_at_call 85; refine (cut_at (n := n4) (lim := 16) HD8.out.rb hm4 ?_ ?_).mono ?_; (omega); (omega); rintro e w9 ⟨hd, v5, rfl, hr9, hw9, hrb9⟩; rw [hb5] at hrb9; have HD9 := Lib.hid (HD8.out.dig' hw9 hrb9); have hcv := conv_brow (hr9.below HD9.out.rb.hb); have kc9 := HD9.out.k; have e3 := HD9.out.e 3 _ rfl; have f3 := HD9.out.fE 3; clear hw9 hrb9))
  all_goals
    obtain ⟨nm, hnm⟩ : ∃ nm, strB (b4.take m4) = nm := ⟨_, rfl⟩
    have Hnm := Lib.hid hnm
    rw [hnm]
    obtain ⟨W10, hW⟩ : ∃ W, W = w9.setCell ⟨Wb.heap.size, 3, none⟩ (.string nm) := ⟨_, rfl⟩
    rw [← hW]
    have HR4 : Hid (RD w w.heap.size (w.heap.size + 1) Wa.heap.size Wb.heap.size v5 b5 (evC n1 n2 n3 nm (.slice none 0 0)) W10) := by show RD _ _ _ _ _ _ _ _ _; rw [hW]; exact HD9.out.put (i := 3) (.string nm) rfl
    clear hW hcv kc9 kc8 e3 f3 HD9 HD8 hnm hd7 kc hr9
    obtain ⟨K, hK⟩ : ∃ K, min n5 8 = K := ⟨_, rfl⟩
    have hKi : min (n5 : Int) 8 = (K : Int) := by omega
    have hd8 := Lib.hid (HR4.out.calls (n := n5) (q := q5) h5)
    obtain ⟨i0, hi, hz0, hz1, hz2⟩ := info_parts infoV
    have hv0 : Hid (ValsTo K b6 0 b6 []) := ⟨rfl, by simp, fun x hx => by cases hx⟩
    go_wp2_with (go_at_call 86; refine hd8.out.mono ?_; rintro e w11 ⟨v6, rfl, hw11, hrb11⟩; rw [hb6] at hrb11; have HD11 := Lib.hid (HR4.out.dig' hw11 hrb11); clear hw11 hrb11)
    have HM := Lib.hid (And.intro hm4 hK)
    have hK8 : K ≤ 8 := by omega
    clear h1 hb1 h2 hb2 h3 hb3 h4 hb4 hm4 hb5 h5 hb6 hK hKi hne HR4 hd8 HR3d hcm hWa0 Hr
    go_loopw [6, 7, 8, 30] (fun y z u i wr => ∃ (k : Nat) (vb : Value) (bk : List UInt8) (av : Option Addr) (ac : Nat) (acc : List VIn), i = .int .i64 k ∧ k ≤ K ∧ Hid (RD w w.heap.size (w.heap.size + 1) Wa.heap.size Wb.heap.size vb bk (evC n1 n2 n3 nm (.slice av acc.length ac)) wr) ∧ Hid (wr.ownsRow (Wb.heap.size + 1) 52 3 (.slice av acc.length ac) acc.length (valCells acc)) ∧ Hid (ValsTo K b6 k bk acc)) (fun _ _ _ i _ => K - (intOf i).toNat)
    case atStart => exact ⟨0, v6, b6, none, 0, [], rfl, Nat.zero_le _, HD11, World.ownsRow_nil _ _ _ _, hv0⟩
    case round =>
      obtain ⟨k, vb, bk, av, ac, acc, rfl, hk, HRk, HOk, HVk⟩ := hrel
      by_cases hlt : k < K
      · have hgz := vget_z wr vb bk HRk.out.rb.now
        have hle := (getZ_le bk).1
        have hst := HVk.out.step hlt
        generalize (getV bk).isSome = is at hgz
        obtain ⟨⟨x, m⟩, hxm⟩ : ∃ z, getZ bk = z := ⟨_, rfl⟩
        rw [hxm] at hgz hle hst
        dsimp only at hgz hle hst
        obtain ⟨b', hb'⟩ : ∃ b', bk.drop m = b' := ⟨_, rfl⟩
        rw [hb'] at hst
        have HST := Lib.hid hst
        have HG := Lib.hid hgz
        have hacc : acc.length ≤ 8 := by have := HVk.out.1; omega
        have hcb := HRk.out.rb.c
        have hme : min m bk.length = m := by omega
        have hm62 : m ≤ 4611686018427387904 := by have h9 := getZ_small bk; rw [hxm] at h9; dsimp only at h9; omega
        have HX := Lib.hid hxm
        obtain ⟨xk, xn, xs⟩ := x
        dsimp only at HG
        have hlen : (acc ++ [(xk, xn, xs)]).length = acc.length + 1 := by simp
        have Hlen := Lib.hid hlen
        clear hgz hst hxm hlen
        go_upto_region 11 with (go_at_call 88; refine HG.out.mono ?_; rintro e w12 ⟨rfl, hb12⟩)
        obtain ⟨W13, hW13⟩ : ∃ W, W = w12.alloc (.cells #[.int .i64 xk, .int .i64 xn, .string xs] 52) := ⟨_, rfl⟩
        rw [← hW13]
        have HR13 : Hid (RD w w.heap.size (w.heap.size + 1) Wa.heap.size Wb.heap.size vb bk (evC n1 n2 n3 nm (.slice av acc.length ac)) W13) := by show RD _ _ _ _ _ _ _ _ _; rw [hW13]; exact (HRk.out.below hb12).below ((Below.refl _ w12).alloc (Nat.le_refl _) _)
        have HO13 : Hid (W13.ownsRow (Wb.heap.size + 1) 52 3 (.slice av acc.length ac) acc.length (valCells acc)) := by show World.ownsRow _ _ _ _ _ _ _; rw [hW13]; exact (vowns_below HOk.out hb12).alloc _
        have t0 : W13.cell? ⟨w12.heap.size, 0, none⟩ = some (.int .i64 xk) := by rw [hW13]; exact new_cell _ _ _ rfl rfl
        have t1 : W13.cell? ⟨w12.heap.size, 1, none⟩ = some (.int .i64 xn) := by rw [hW13]; exact new_cell _ _ _ rfl rfl
        have t2 : W13.cell? ⟨w12.heap.size, 2, none⟩ = some (.string xs) := by rw [hW13]; exact new_cell _ _ _ rfl rfl
        have hXT : w.heap.size ≠ w12.heap.size := by have h8 := HRk.out.xy; have h9 := HRk.out.yc; have h10 := HRk.out.ce; have h11 := HRk.out.lt; have h12 := hb12.size; omega
        have T := Lib.hid (And.intro t0 (And.intro t1 t2))
        have kc13 := HR13.out.k
        clear hW13 hb12 HRk HOk HVk HG hcb t0 t1 t2
        generalize w12.heap.size = TB at *
        go_upto_region 12 with (go_at_call 85; refine (cut1_calls w _ w.heap.size m vb bk m HR13.out.rb hm62 hme).mono ?_; rintro e w14 ⟨hd, v7, rfl, _, hw14, hrb14⟩; have HW14 := Lib.hid hw14; clear hw14)
        have hw14 := HW14.out
        rw [hb'] at hrb14
        have HR14 := Lib.hid (HR13.out.dig' hw14 hrb14)
        have HO14 : Hid (w14.ownsRow (Wb.heap.size + 1) 52 3 (.slice av acc.length ac) acc.length (valCells acc)) := by show World.ownsRow _ _ _ _ _ _ _; rw [hw14]; exact eowns_set HO13.out v7 (by have h8 := HR13.out.xy; have h9 := HR13.out.yc; have h10 := HR13.out.ce; omega)
        have t0 : w14.cell? ⟨TB, 0, none⟩ = some (.int .i64 xk) := by rw [hw14, set_other hXT]; exact T.out.1
        have t1 : w14.cell? ⟨TB, 1, none⟩ = some (.int .i64 xn) := by rw [hw14, set_other hXT]; exact T.out.2.1
        have t2 : w14.cell? ⟨TB, 2, none⟩ = some (.string xs) := by rw [hw14, set_other hXT]; exact T.out.2.2
        have e4 := HR14.out.e 4 _ rfl
        have f4 := HR14.out.fE 4
        have HR15 := Lib.hid (HR14.out.below ((Below.refl _ w14).alloc (Nat.le_refl _) (.cells #[.int .i64 xk, .int .i64 xn, .string xs] 52)))
        have HO15 := Lib.hid (HO14.out.alloc (.cells #[.int .i64 xk, .int .i64 xn, .string xs] 52))
        have hltE := HR15.out.lt
        clear hw14 HW14 hrb14 T HR13 HO13 kc13 HO14 hXT hme hm62 hb' hle
        go_wp2_with (at_builtin; refine wpList_append_own _ rfl (.tmp 42) (.tmp 44) 23 rfl (Wb.heap.size + 1) 52 i0 (.agg #[.int .i64 0, .int .i64 0, .string .empty]) 3 32 Try.underlying23 hi hz0 hz1 hz2 rfl (by decide) _ _ _ rfl HO15.out ⟨w14.heap.size, 0, none⟩ 1 1 (vCells (xk, xn, xs)) rfl rfl (v_new w14 (xk, xn, xs)) (vCells_oneCell (xk, xn, xs)) (by unfold maxLen; omega) (by omega) hltE ?_; intro v8 w16 hown16 hgrow16 hnil16; have hB16 : Below (Wb.heap.size + 1) _ w16 := (Below.refl (Wb.heap.size + 1) _).grown hgrow16 hltE (fun g hg => (HO15.out.lt g hg).1); have HR16 := Lib.hid (HR15.out.belowE hB16); obtain ⟨a8, c8, rfl⟩ := vowns_slice hown16; have e4' := HR16.out.e 4 _ rfl; have f4' := HR16.out.fE 4; have HO16 := Lib.hid hown16; clear hown16 hgrow16 hnil16 hB16)
        have HR17 : Hid (RD w w.heap.size (w.heap.size + 1) Wa.heap.size Wb.heap.size v7 b' (evC n1 n2 n3 nm (.slice a8 (acc ++ [(xk, xn, xs)]).length c8)) (w16.setCell ⟨Wb.heap.size, 4, none⟩ (.slice a8 (acc.length + 1) c8))) := by show RD _ _ _ _ _ _ _ _ _; rw [Hlen.out]; exact HR16.out.put (i := 4) _ rfl
        have HO17 : Hid ((w16.setCell ⟨Wb.heap.size, 4, none⟩ (.slice a8 (acc.length + 1) c8)).ownsRow (Wb.heap.size + 1) 52 3 (.slice a8 (acc ++ [(xk, xn, xs)]).length c8) (acc ++ [(xk, xn, xs)]).length (valCells (acc ++ [(xk, xn, xs)]))) := by show World.ownsRow _ _ _ _ _ _ _; rw [Hlen.out, valCells_append, valCells_one]; exact eowns_set HO16.out _ (by omega)
        go_roundw
        case rel => exact ⟨k + 1, v7, b', a8, c8, acc ++ [(xk, xn, xs)], by go_num, by omega, HR17, HO17, HST⟩
        case measure => simp [intOf]; omega
      · obtain rfl : k = K := by omega
        have Hfin := Lib.hid HVk.out.fin
        have Hsz := Lib.hid HVk.out.2.2
        have q0 := HRk.out.e 0 _ rfl
        have q1 := HRk.out.e 1 _ rfl
        have q2 := HRk.out.e 2 _ rfl
        have q3 := HRk.out.e 3 _ rfl
        have q4 := HRk.out.e 4 _ rfl
        have r0 := HRk.out.r 0 _ rfl
        have r1 := HRk.out.r 1 _ rfl
        have r2 := HRk.out.r 2 _ rfl
        have r3 := HRk.out.r 3 _ rfl
        have r4 := HRk.out.r 4 _ rfl
        have g0 := HRk.out.fY 0
        have g1 := HRk.out.fY 1
        have g2 := HRk.out.fY 2
        have g3 := HRk.out.fY 3
        have g4 := HRk.out.fY 4
        have HOk' := Lib.hid (eowns_set (eowns_set (eowns_set (eowns_set (eowns_set HOk.out (b := w.heap.size + 1) (i := 0) (.int .i64 n1) (by have h8 := HRk.out.yc; have h9 := HRk.out.ce; omega)) (b := w.heap.size + 1) (i := 1) (.int .i64 n2) (by have h8 := HRk.out.yc; have h9 := HRk.out.ce; omega)) (b := w.heap.size + 1) (i := 2) (.int .i64 n3) (by have h8 := HRk.out.yc; have h9 := HRk.out.ce; omega)) (b := w.heap.size + 1) (i := 3) (.string nm) (by have h8 := HRk.out.yc; have h9 := HRk.out.ce; omega)) (b := w.heap.size + 1) (i := 4) (.slice av acc.length ac) (by have h8 := HRk.out.yc; have h9 := HRk.out.ce; omega))
        go_wp2
        refine bodyPost_ret (v := evV n1 n2 n3 nm (.slice av acc.length ac)) (by simp [results, Try.results61, go_sem, r0, r1, r2, r3, r4]) rfl ?_
        have hq : nm.data.toList = b4.take m4 := by rw [← Hnm.out, strB_list]
        obtain ⟨hm4, hK⟩ := HM.out
        have hq2 : nm.size ≤ 16 := by
          have h8 : nm.data.toList.length = nm.size := by simp
          rw [← h8, hq, List.length_take]
          omega
        refine ⟨nm, av, ac, acc, ?_, ?_, hq2, ?_, VRow.of_owns HOk'.out Hsz.out rfl, fun A hA => by subst hA; have h8 := (HOk.out.lt A.block rfl).1; have h9 := HRk.out.xy; have h10 := HRk.out.yc; have h11 := HRk.out.ce; omega, ?_⟩
        · rw [HRE.out]
        · rw [HRE.out]; exact hq
        · rw [HRE.out]; rw [Hfin.out, hK]
        · have h9 := HRk.out.rb.hb
          exact below5 h9 (Nat.le_succ _) _ _ _ _ _

end Go.Proofs.Ytfmlgckfcclojaa

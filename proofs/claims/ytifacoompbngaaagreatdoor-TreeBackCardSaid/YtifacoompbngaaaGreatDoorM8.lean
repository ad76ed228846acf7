/- Queries: what a text says; its tokens, and the reader that is made of them. | Queries: Parse. | Queries: texts that are joined; what a query's text is, in plain words. | Queries: the text of a value. | Queries in plain words: tokens that a text is made of, and how they are read. | A journal's files in plain words: their names and numbers. -/
import Derived.Test.YtifacoompbngaaaGreatDoorM7
import Derived.Test.YtifacoompbngaaaGreatDoorL6x
import Derived.Deep.RegionHeld3
import Derived.Test.YtifacoompbngaaaGreatDoorTSJ
import Derived.Lib.AppendIntMem
import Derived.Lib.ItoaLen
import Derived.Lib.ItoaNum
import Derived.Lib.ParseIntBTie
import Derived.Lib.Strings
namespace Go.Proofs.YtifacoompbngaaaGreatDoor
open Go.RowKit Go.Lib Go.Op

theorem plX_mem {l : List UInt8} : ∀ {a : Nat} {ts : List XTok}, PlX l a ts → ∀ t ∈ ts, t.at_ + (saidX t).length ≤ l.length
  | _, [], _, t, ht => by cases ht
  | _, u :: r, h, t, ht => by
    obtain ⟨_, _, _, _, h5, _, h7⟩ := h
    rcases List.mem_cons.1 ht with rfl | ht
    · exact h5
    · exact plX_mem h7 t ht
theorem said_len (t : XTok) : t.b.length ≤ (saidX t).length := by
  unfold saidX
  split
  · simp; omega
  · exact Nat.le_refl _
theorem digits_parse {c : UInt8} {r : List UInt8} (hc : xdigit c = true) (h : rightN (c :: r) = true) : ∃ v : Int, parseIntB 64 (c :: r) = .ok v ∧ 0 ≤ v ∧ v ≤ 1099511627776 := by
  unfold xdigit at hc
  simp only [Bool.and_eq_true, decide_eq_true_eq] at hc
  unfold rightN at h
  cases hp : parseIntB 64 (c :: r) with
  | ok v =>
    rw [hp] at h
    simp only [Bool.and_eq_true, decide_eq_true_eq] at h
    refine ⟨v, rfl, ?_, h.1⟩
    unfold parseIntB at hp
    dsimp only at hp
    rw [if_neg (by omega)] at hp
    split at hp
    · cases hp
    · cases hp
    · split at hp
      · cases hp
      · split at hp
        · cases hp
        · rw [if_neg (by omega)] at hp
          injection hp with hp
          omega
  | _ => rw [hp] at h; cases h
theorem goodT_two {t : XTok} (h : GoodT t) (hk : t.k = 2) : ∃ v : Int, parseIntB 64 t.b = .ok v ∧ 0 ≤ v ∧ v ≤ 1099511627776 := by
  obtain ⟨r, z, h1, h2, h3, _⟩ := h
  rw [hk] at h1 h3
  have h3' : t.b = r.take z := h3
  cases r with
  | nil => rw [firstX] at h1; injection h1 with e _; cases e
  | cons c u =>
    have h4 : firstC c u = (2, z) := h1
    unfold firstC at h4
    split at h4
    · split at h4
      · injection h4 with e _; cases e
      · injection h4 with e _; cases e
    · split at h4
      · rename_i hd
        split at h4
        · rename_i hr
          injection h4 with _ hz
          rw [hz] at hr
          obtain ⟨y, rfl⟩ : ∃ y, z = y + 1 := ⟨z - 1, by omega⟩
          rw [h3', List.take_succ_cons]
          rw [List.take_succ_cons] at hr
          exact digits_parse hd hr
        · injection h4 with e _; cases e
      · split at h4
        · split at h4
          · injection h4 with e _; cases e
          · injection h4 with e _; cases e
        · split at h4
          · injection h4 with e _; cases e
          · split at h4
            · injection h4 with e _; cases e
            · injection h4 with e _; cases e
theorem readX_toks {l : List UInt8} {ts : List XTok} {p : Nat} (h : readX l = (ts, 0, p)) : (∀ t ∈ ts, TokOk t) ∧ ts.length ≤ 128 ∧ (∀ t ∈ ts, GoodT t) ∧ PlX l 0 ts ∧ l.length ≤ 512 := by
  unfold readX at h
  split at h
  · injection h with _ h; injection h with h _; cases h
  · rename_i hl
    obtain ⟨h1, h2⟩ := lexX_good _ _ _ _ _ _ h (by omega)
    have h3 := lexX_places l (l.length + 1) 0 0 ts p (Nat.zero_le _) (by rw [List.drop_zero]; exact h)
    refine ⟨fun t ht => ?_, by omega, h1, h3, by omega⟩
    have h4 := plX_mem h3 t ht
    have h5 := said_len t
    exact ⟨by omega, by omega, fun hk => goodT_two (h1 t ht) hk⟩

theorem var_lt {w : World} {n : String} {g : Nat} (hg : Tryz.prog.globalNamed n = some g) {x : Array Value} (h : w.var? Tryz.prog n = some x) : g < w.heap.size := by
  simp only [World.var?, hg, Option.bind_some] at h
  cases hh : w.heap[g]? with
  | none => rw [hh] at h; simp at h
  | some o => exact (Array.getElem?_eq_some_iff.1 hh).1
theorem TVars.gl {w : World} (h : TVars w) {R : Nat} (hR : w.heap.size ≤ R) : 4 < R ∧ 5 < R ∧ 2 < R := by
  obtain ⟨⟨⟨t, p, h1⟩, ⟨t', p', h2⟩⟩, h3, h4⟩ := h
  have a := var_lt xgSyn h1
  have b := var_lt xgRan h2
  have c : 2 < w.heap.size := World.block_lt_of_cell? _ _ h3
  omega

/-- The reader that is made of a text's tokens. -/
theorem RdR.made {W : World} {v : Value} {ts : List XTok} {B E : Nat} (ho : XOwn W B v ts) (hts : ∀ t ∈ ts, TokOk t) (hE : E ≤ 1000000) (hv : TVars W) (hpos : 0 < W.heap.size) : ∃ T, RdR (W.alloc (.cells #[v, .int .i64 E, .int .i64 0, .int .i64 (-1)] 88)) W.heap.size T E ⟨ts, 0, -1⟩ := by
  have hb := (Below.refl W.heap.size W).alloc (Nat.le_refl _) (.cells #[v, .int .i64 E, .int .i64 0, .int .i64 (-1)] 88)
  have hblk : (W.alloc (.cells #[v, .int .i64 E, .int .i64 0, .int .i64 (-1)] 88)).heap[W.heap.size]? = some (.cells #[v, .int .i64 E, .int .i64 0, .int .i64 (-1)] 88 (0, 0)) := heap_alloc_new W _
  rcases ho.2 with ⟨rfl, h0⟩ | ⟨g, cap, cur, rfl, hB, hg, hn, hc, hs, ht⟩
  · have hnil : ts = [] := List.eq_nil_of_length_eq_zero h0
    subst hnil
    exact ⟨0, none, 0, ⟨hblk, Nat.le_refl _, Nat.zero_le _, fun _ => rfl, fun j x hj => (by simp at hj), hpos, fun t ht => (by cases ht), Nat.zero_le _, hE, hv.below hb, hv.gl (Nat.le_refl _)⟩⟩
  · have hglt : g < W.heap.size := (Array.getElem?_eq_some_iff.1 hg).1
    have hcl : ∀ j t, ts[j]? = some t → ∀ r u, t.cells[r]? = some u → W.cell? ⟨g, j * 3 + r, none⟩ = some u := fun j t hj r u hu => by
      have e : ∀ (l : List XTok) (j : Nat), l[j]? = some t → (flatX l)[j * 3 + r]? = some u := fun l => by
        induction l with
        | nil => intro j h; simp at h
        | cons y l ih =>
          intro j h
          have hyl : y.cells.length = 3 := by simp [XTok.cells]
          cases j with
          | zero =>
            obtain rfl : y = t := by simpa using h
            have hr : r < y.cells.length := (List.getElem?_eq_some_iff.1 hu).1
            rw [flatX, Nat.zero_mul, Nat.zero_add, List.getElem?_append_left hr]
            exact hu
          | succ j =>
            rw [flatX, List.getElem?_append_right (by rw [hyl]; omega), hyl, show (j + 1) * 3 + r - 3 = j * 3 + r by omega]
            exact ih j (by simpa using h)
      have h1 := e ts j hj
      have h2 := (List.getElem?_eq_some_iff.1 h1).1
      rw [cell_of_row W g _ cur 94 (0, 0) hg]
      rw [← ht, List.getElem?_take, if_pos (by rw [← flatX_len]; exact h2)] at h1
      simpa using h1
    refine ⟨g, some ⟨g, 0, none⟩, cap, ⟨hblk, hn, hc, fun e => (by cases e), fun j t hj => ?_, hglt, hts, Nat.zero_le _, hE, hv.below hb, hv.gl (Nat.le_refl _)⟩⟩
    refine ⟨0, rfl, ?_, ?_, ?_⟩
    · rw [Nat.zero_add]; exact tkeep hb (hcl j t hj 0 _ rfl)
    · rw [Nat.zero_add]; exact tkeep hb (hcl j t hj 1 _ rfl)
    · rw [Nat.zero_add]; exact tkeep hb (hcl j t hj 2 _ rfl)

/-- What a text says: the query, the error, its place. -/
def parseI (l : List UInt8) : PQu × Int × Int :=
  if (readX l).2.1 ≠ 0 then (noQ, (readX l).2.1, (readX l).2.2)
  else if (queryT l.length ((readX l).1.length + 1) ⟨(readX l).1, 0, -1⟩).2.wrong ≠ -1 then (noQ, 81, (queryT l.length ((readX l).1.length + 1) ⟨(readX l).1, 0, -1⟩).2.wrong)
  else if rightQ (queryT l.length ((readX l).1.length + 1) ⟨(readX l).1, 0, -1⟩).1 then ((queryT l.length ((readX l).1.length + 1) ⟨(readX l).1, 0, -1⟩).1, 0, 0) else (noQ, 2, 0)

end Go.Proofs.YtifacoompbngaaaGreatDoor
namespace Go.Proofs.YtifacoompbngaaaGreatDoor
open Go.RowKit Go.Lib Go.Op

section
variable {P : Program} {ops : Array Oper} {Q : Exit → Act → World → Prop} {md : Region.Mode} {S : World → Prop}
/-- An operation that is wanted, and yields v. -/
theorem ttakeH (i d : Nat) {o : Oper} {v : Value} {fuel : Nat} {listed : Array Bool} {a : Act} {w : World} (ho : ops[i]? = some o) (hs : Region.noSelect ops = true) (hf : Region.free md ops listed i = true)
    (hr : (Region.ready md ops listed).contains i = true) (hd : o.dst = some d)
    (hQ : ∀ c a w, Q (.panic c) (a.put (some d) v) w → Q (.panic c) a w) (hw : Region.wanted o (yielded ops a.tmps) = true) (hy : ∀ w, S w → (execOp a.eval o).run P w = .ok (.value v) w) (hS : S w)
    (h : wpAnyH P md ops Q S fuel (listed.setIfInBounds i true) (a.put (some d) v) w) : wpAnyH P md ops Q S (fuel + 1) listed a w :=
  wpAnyH_take ho hs hf hr (by rw [hd]; exact hQ) (Or.inl ⟨hw, hy⟩) hS (by rw [hd]; exact h)
end

/-- What Parse leaves. -/
def PaTo (p : PQu × Int × Int) (w : World) (e : Ending) (w' : World) : Prop := ∃ a q c b r d, e = .returned (.tuple #[.agg #[.slice a q c, .slice b r d, .int .i64 p.1.within, .string (strB p.1.by_), .int .i64 p.1.pick], .int .i64 p.2.1, .int .i64 p.2.2]) ∧ QuAt (· < w.heap.size) w' a q c b r d p.1 ∧ Below w.heap.size w w'
theorem PaTo.zero {w w' : World} {x y : Int} (hb : Below w.heap.size w w') : PaTo (noQ, x, y) w (.returned (.tuple #[.agg #[.slice none 0 0, .slice none 0 0, .int .i64 0, .string ⟨#[]⟩, .int .i64 0], .int .i64 x, .int .i64 y])) w' :=
  ⟨Option.none, 0, 0, Option.none, 0, 0, rfl, ⟨RowK.nil _ _ _, RowK.nil _ _ _⟩, hb⟩

theorem bset {w w' : World} (h : Below w.heap.size w w') {b : Nat} (hb : w.heap.size ≤ b) (k : Nat) (v : Value) : Below w.heap.size w (w'.setCell ⟨b, k, none⟩ v) := h.setCell (p := ⟨b, k, none⟩) hb v
theorem bset5 {w w' : World} (h : Below w.heap.size w w') {b : Nat} (hb : w.heap.size ≤ b) (v0 v1 v2 v3 v4 : Value) : Below w.heap.size w (((((w'.setCell ⟨b, 0, none⟩ v0).setCell ⟨b, 1, none⟩ v1).setCell ⟨b, 2, none⟩ v2).setCell ⟨b, 3, none⟩ v3).setCell ⟨b, 4, none⟩ v4) :=
  bset (bset (bset (bset (bset h hb _ _) hb _ _) hb _ _) hb _ _) hb _ _

theorem set5_cell {W : World} {g b k : Nat} {u : Value} (hne : g ≠ b) (h : W.cell? ⟨g, k, none⟩ = some u) (v0 v1 v2 v3 v4 : Value) : (((((W.setCell ⟨b, 0, none⟩ v0).setCell ⟨b, 1, none⟩ v1).setCell ⟨b, 2, none⟩ v2).setCell ⟨b, 3, none⟩ v3).setCell ⟨b, 4, none⟩ v4).cell? ⟨g, k, none⟩ = some u :=
  (TFr.at b 4 v4).cell ((TFr.at b 3 v3).cell ((TFr.at b 2 v2).cell ((TFr.at b 1 v1).cell ((TFr.at b 0 v0).cell h hne) hne) hne) hne) hne

set_option maxHeartbeats 2000000 in
set_option maxRecDepth 100000 in
theorem parse_calls {w : World} (hv : TVars w) (l : List UInt8) (hl : l.length ≤ 100000) : Calls Tryz.prog 16 #[.string (strB l)] w (PaTo (parseI l) w) := by
  have hb0 := (Below.refl w.heap.size w).alloc (Nat.le_refl _) (.cells #[.slice none 0 0, .slice none 0 0, .int .i64 0, .string ⟨#[]⟩, .int .i64 0] 26)
  have hx2 := Blk.new w #[.slice none 0 0, .slice none 0 0, .int .i64 0, .string ⟨#[]⟩, .int .i64 0] 26
  have hrd := read_calls (hv.below hb0).xv (strB l) l (strB_list l) (by rw [strB_size]; exact hl)
  obtain ⟨⟨ts, er, at_⟩, hts⟩ : ∃ z, readX l = z := ⟨_, rfl⟩
  rw [hts] at hrd
  have HRD : Hid (Calls Tryz.prog 43 #[.string (strB l)] (w.alloc (.cells #[.slice none 0 0, .slice none 0 0, .int .i64 0, .string ⟨#[]⟩, .int .i64 0] 26)) fun e w' => ∃ v, e = .returned (.tuple #[v, .int .i64 er, .int .i64 at_]) ∧ XOwn w' (w.alloc (.cells #[.slice none 0 0, .slice none 0 0, .int .i64 0, .string ⟨#[]⟩, .int .i64 0] 26)).heap.size v ts ∧ Below (w.alloc (.cells #[.slice none 0 0, .slice none 0 0, .int .i64 0, .string ⟨#[]⟩, .int .i64 0] 26)).heap.size (w.alloc (.cells #[.slice none 0 0, .slice none 0 0, .int .i64 0, .string ⟨#[]⟩, .int .i64 0] 26)) w') := hrd
  have HB0 := Lib.hid hb0
  have HX2 := Lib.hid hx2
  have HV := Lib.hid (hv.below hb0)
  by_cases he : ¬ er = 0
  · have hp : parseI l = (noQ, (er : Int), (at_ : Int)) := by
      unfold parseI
      rw [hts]
      rw [if_pos he]
    rw [hp]
    have ht : ((er : Int) != 0) = true := by rw [bne_iff_ne]; omega
    clear hv hl hb0 hx2 hrd hts hp he
    go_enter Tryz.func16, Tryz.ntmps16
    go_wp2_with fail
    with_reducible refine HRD.out.mono ?_
    rintro e w1 ⟨v, rfl, ho, hb1⟩
    obtain ⟨va, vc, rfl⟩ := ho.slice
    have q2 := HX2.out.low hb1
    have r0 := tcell_of_blk q2 (k := 0) rfl
    have r1 := tcell_of_blk q2 (k := 1) rfl
    have r2 := tcell_of_blk q2 (k := 2) rfl
    have r3 := tcell_of_blk q2 (k := 3) rfl
    have r4 := tcell_of_blk q2 (k := 4) rfl
    have fr0 := tfrozen_of_blk q2 (k := 0)
    have fr1 := tfrozen_of_blk q2 (k := 1)
    have fr2 := tfrozen_of_blk q2 (k := 2)
    have fr3 := tfrozen_of_blk q2 (k := 3)
    have fr4 := tfrozen_of_blk q2 (k := 4)
    have HB1 := Lib.hid (HB0.out.trans (hb1.mono HB0.out.size))
    clear ho hb1 q2
    go_wp2
    refine bodyPost_ret (v := .tuple #[.agg #[.slice none 0 0, .slice none 0 0, .int .i64 0, .string ⟨#[]⟩, .int .i64 0], .int .i64 er, .int .i64 at_]) (by simp [results, Tryz.results16, go_sem, r0, r1, r2, r3, r4]) rfl (PaTo.zero ?_)
    exact bset5 HB1.out (Nat.le_refl _) _ _ _ _ _
  have he := Decidable.not_not.1 he
  subst he
  have HRD0 : Hid (Calls Tryz.prog 43 #[.string (strB l)] (w.alloc (.cells #[.slice none 0 0, .slice none 0 0, .int .i64 0, .string ⟨#[]⟩, .int .i64 0] 26)) fun e w' => ∃ v, e = .returned (.tuple #[v, .int .i64 0, .int .i64 at_]) ∧ XOwn w' (w.alloc (.cells #[.slice none 0 0, .slice none 0 0, .int .i64 0, .string ⟨#[]⟩, .int .i64 0] 26)).heap.size v ts ∧ Below (w.alloc (.cells #[.slice none 0 0, .slice none 0 0, .int .i64 0, .string ⟨#[]⟩, .int .i64 0] 26)).heap.size (w.alloc (.cells #[.slice none 0 0, .slice none 0 0, .int .i64 0, .string ⟨#[]⟩, .int .i64 0] 26)) w') := HRD
  clear HRD he
  have HRD := HRD0
  clear HRD0
  obtain ⟨htk, hlen, _, _, hl5⟩ := readX_toks hts
  obtain ⟨⟨qq, sq⟩, hq⟩ : ∃ z, queryT l.length (ts.length + 1) ⟨ts, 0, -1⟩ = z := ⟨_, rfl⟩
  have hqb := queryT_sb (E := l.length) (s := ⟨ts, 0, -1⟩) (ts.length + 1) ⟨fun t ht => (htk t ht).1, by show ts.length ≤ _; omega⟩
  rw [hq] at hqb
  have hp : parseI l = if sq.wrong ≠ -1 then (noQ, 81, sq.wrong) else if rightQ qq then (qq, 0, 0) else (noQ, 2, 0) := by
    unfold parseI
    rw [hts]
    dsimp only
    rw [if_neg (by simp), hq]
  rw [hp]
  obtain ⟨res, hres⟩ : ∃ z, (if sq.wrong ≠ -1 then (noQ, 81, sq.wrong) else if rightQ qq then (qq, 0, 0) else (noQ, 2, 0) : PQu × Int × Int) = z := ⟨_, rfl⟩
  rw [hres]
  have HRES := Lib.hid hres
  have HTK := Lib.hid (And.intro htk hlen)
  have HQ := Lib.hid (And.intro hq hqb)
  obtain ⟨E, hE⟩ : ∃ E, l.length = E := ⟨_, rfl⟩
  have hsE : (strB l).size = E := by rw [strB_size]; exact hE
  rw [hE] at HQ
  have HE := Lib.hid (show E ≤ 1000000 by omega)
  obtain ⟨sv, hsv⟩ : ∃ sv, strB l = sv := ⟨_, rfl⟩
  rw [hsv] at HRD hsE ⊢
  clear hv hl hb0 hx2 hrd hts hp htk hlen hl5 hq hqb hres hE hsv
  go_enter Tryz.func16, Tryz.ntmps16
  go_wp2_with fail
  with_reducible refine HRD.out.mono ?_
  rintro e w1 ⟨v, rfl, ho, hb1⟩
  have hv1 := HV.out.below hb1
  obtain ⟨va, vc, rfl⟩ := ho.slice
  obtain ⟨nt, hnt⟩ : ∃ n, ts.length = n := ⟨_, rfl⟩
  obtain ⟨T, hmade⟩ := RdR.made (E := E) ho HTK.out.1 HE.out hv1 (by have := hb1.size; have := HX2.out.lt; omega)
  have hqc := query_calls hmade (.inl (Nat.zero_le _)) (n := ts.length + 1) (Nat.lt_succ_self _) (by show ts.length ≤ _; have := HTK.out.2; omega)
  rw [HQ.out.1] at hqc
  rw [hnt] at hqc ⊢
  have HQC := Lib.hid hqc
  have hba := (Below.refl w1.heap.size w1).alloc (Nat.le_refl _) (.cells #[.slice va nt vc, .int .i64 E, .int .i64 0, .int .i64 (-1)] 88)
  have X3 := Lib.hid ((HX2.out.low hb1).low hba)
  have hsz1 : w.heap.size < w1.heap.size := by have := hb1.size; have := HX2.out.lt; omega
  have HB1 := Lib.hid ((HB0.out.trans (hb1.mono HB0.out.size)).trans (hba.mono (Nat.le_of_lt hsz1)))
  have hszE : ((sv.size : Nat) : Int) = (E : Int) := by rw [hsE]
  have HSZ := Lib.hid hsz1
  clear ho hb1 hv1 hmade hba hqc hnt hsz1 HTK HV HRD
  go_wp2_with fail
  with_reducible refine HQC.out.mono ?_
  rintro e w2 ⟨a, q, c, b, r, d, rfl, hits, hprs, hrt⟩
  have hb3 := (Below.refl w2.heap.size w2).alloc (Nat.le_refl _) (.cells #[.slice a q c, .slice b r d, .int .i64 qq.within, .string (strB qq.by_), .int .i64 qq.pick] 26)
  have x4 := (X3.out.keep hrt.fr (by have := HSZ.out; omega)).low hb3
  have X4 := Lib.hid x4
  have hsa : (w1.alloc (.cells #[.slice va nt vc, .int .i64 E, .int .i64 0, .int .i64 (-1)] 88)).heap.size = w1.heap.size + 1 := by simp
  have hb2 : Below w.heap.size w w2 := HB1.out.trans (hrt.fr.below (B := w.heap.size) (by rw [hsa]; have := HSZ.out; omega) (fun k hk => by rw [hk]; exact Nat.le_of_lt HSZ.out))
  have HB3 := Lib.hid (hb2.trans (hb3.mono hb2.size))
  obtain ⟨ra, rc, hrd⟩ := hrt.rd
  have m3 := hrd.c3
  have m3' := tkeepAl m3
  have hK : ∀ k, k < w.heap.size → k < (w1.alloc (.cells #[.slice va nt vc, .int .i64 E, .int .i64 0, .int .i64 (-1)] 88)).heap.size := fun k hk => by rw [hsa]; have := HSZ.out; omega
  have KI := Lib.hid (hits.low hb3)
  have KP := Lib.hid (hprs.low hb3)
  have HK := Lib.hid hK
  have hKb : w.heap.size < (w1.alloc (.cells #[.slice va nt vc, .int .i64 E, .int .i64 0, .int .i64 (-1)] 88)).heap.size := by rw [hsa]; have := HSZ.out; omega
  have HKB := Lib.hid hKb
  clear hKb
  have r0 := tcell_of_blk x4 (k := 0) rfl
  have r1 := tcell_of_blk x4 (k := 1) rfl
  have r2 := tcell_of_blk x4 (k := 2) rfl
  have r3 := tcell_of_blk x4 (k := 3) rfl
  have r4 := tcell_of_blk x4 (k := 4) rfl
  have fr0 := tfrozen_of_blk x4 (k := 0)
  have fr1 := tfrozen_of_blk x4 (k := 1)
  have fr2 := tfrozen_of_blk x4 (k := 2)
  have fr3 := tfrozen_of_blk x4 (k := 3)
  have fr4 := tfrozen_of_blk x4 (k := 4)
  clear hits hprs hrt hrd hb2 hb3 hK x4 X3 HQC hsa m3
  by_cases hw : ¬ sq.wrong = -1
  · have hr := HRES.out
    rw [if_pos hw] at hr
    subst hr
    have tw : (sq.wrong != -1) = true := by rw [bne_iff_ne]; exact hw
    clear KI KP HRES hw
    go_wp2_with fail
    have hne : w1.heap.size ≠ w.heap.size := by have := HSZ.out; omega
    have m3w := m3' (.cells #[.slice a q c, .slice b r d, .int .i64 qq.within, .string (strB qq.by_), .int .i64 qq.pick] 26)
    have m3d : (w2.alloc (.cells #[.slice a q c, .slice b r d, .int .i64 qq.within, .string (strB qq.by_), .int .i64 qq.pick] 26)).drew.cell? ⟨w1.heap.size, 3, none⟩ = some (.int .i64 sq.wrong) := m3w
    clear m3'
    have g0 : (w2.alloc (.cells #[.slice a q c, .slice b r d, .int .i64 qq.within, .string (strB qq.by_), .int .i64 qq.pick] 26)).drew.cell? ⟨w.heap.size, 0, none⟩ = some (.slice none 0 0) := r0
    have fg0 : (w2.alloc (.cells #[.slice a q c, .slice b r d, .int .i64 qq.within, .string (strB qq.by_), .int .i64 qq.pick] 26)).drew.frozen? ⟨w.heap.size, 0, none⟩ = false := fr0
    have g1 : (w2.alloc (.cells #[.slice a q c, .slice b r d, .int .i64 qq.within, .string (strB qq.by_), .int .i64 qq.pick] 26)).drew.cell? ⟨w.heap.size, 1, none⟩ = some (.slice none 0 0) := r1
    have fg1 : (w2.alloc (.cells #[.slice a q c, .slice b r d, .int .i64 qq.within, .string (strB qq.by_), .int .i64 qq.pick] 26)).drew.frozen? ⟨w.heap.size, 1, none⟩ = false := fr1
    have g2 : (w2.alloc (.cells #[.slice a q c, .slice b r d, .int .i64 qq.within, .string (strB qq.by_), .int .i64 qq.pick] 26)).drew.cell? ⟨w.heap.size, 2, none⟩ = some (.int .i64 0) := r2
    have fg2 : (w2.alloc (.cells #[.slice a q c, .slice b r d, .int .i64 qq.within, .string (strB qq.by_), .int .i64 qq.pick] 26)).drew.frozen? ⟨w.heap.size, 2, none⟩ = false := fr2
    have g3 : (w2.alloc (.cells #[.slice a q c, .slice b r d, .int .i64 qq.within, .string (strB qq.by_), .int .i64 qq.pick] 26)).drew.cell? ⟨w.heap.size, 3, none⟩ = some (.string ⟨#[]⟩) := r3
    have fg3 : (w2.alloc (.cells #[.slice a q c, .slice b r d, .int .i64 qq.within, .string (strB qq.by_), .int .i64 qq.pick] 26)).drew.frozen? ⟨w.heap.size, 3, none⟩ = false := fr3
    have g4 : (w2.alloc (.cells #[.slice a q c, .slice b r d, .int .i64 qq.within, .string (strB qq.by_), .int .i64 qq.pick] 26)).drew.cell? ⟨w.heap.size, 4, none⟩ = some (.int .i64 0) := r4
    have fg4 : (w2.alloc (.cells #[.slice a q c, .slice b r d, .int .i64 qq.within, .string (strB qq.by_), .int .i64 qq.pick] 26)).drew.frozen? ⟨w.heap.size, 4, none⟩ = false := fr4
    clear HX2 HB0 HQ HE X4 HB1 HSZ HK HKB
    refine wp_region_held_drew (S := fun W => W.cell? ⟨w1.heap.size, 3, none⟩ = some (.int .i64 sq.wrong)) (by kernel_rfl) m3d (fun hHeld => ?_)
    refine ttakeH 0 33 (v := ?va0) rfl (by kernel_rfl) (by kernel_rfl) (by kernel_rfl) rfl (fun _ _ _ h => h) (by rfl) ?ya0 (by assumption) ?ra0
    case ya0 => (intro W hSw; (try dsimp only at hSw); go_simp; try with_reducible rfl)
    try simp only [Act.put, List.setIfInBounds_toArray, List.set_cons_zero, List.set_cons_succ]
    refine ttakeH 1 34 (v := ?va1) rfl (by kernel_rfl) (by kernel_rfl) (by kernel_rfl) rfl (fun _ _ _ h => h) (by rfl) ?ya1 (by assumption) ?ra1
    case ya1 => (intro W hSw; (try dsimp only at hSw); go_simp; try with_reducible rfl)
    try simp only [Act.put, List.setIfInBounds_toArray, List.set_cons_zero, List.set_cons_succ]
    refine ttakeH 2 35 (v := ?va2) rfl (by kernel_rfl) (by kernel_rfl) (by kernel_rfl) rfl (fun _ _ _ h => h) (by rfl) ?ya2 (by assumption) ?ra2
    case ya2 => (intro W hSw; (try dsimp only at hSw); go_simp; try with_reducible rfl)
    try simp only [Act.put, List.setIfInBounds_toArray, List.set_cons_zero, List.set_cons_succ]
    refine ttakeH 3 36 (v := ?va3) rfl (by kernel_rfl) (by kernel_rfl) (by kernel_rfl) rfl (fun _ _ _ h => h) (by rfl) ?ya3 (by assumption) ?ra3
    case ya3 => (intro W hSw; (try dsimp only at hSw); go_simp; try with_reducible rfl)
    try simp only [Act.put, List.setIfInBounds_toArray, List.set_cons_zero, List.set_cons_succ]
    refine ttakeH 4 37 (v := ?va4) rfl (by kernel_rfl) (by kernel_rfl) (by kernel_rfl) rfl (fun _ _ _ h => h) (by rfl) ?ya4 (by assumption) ?ra4
    case ya4 => (intro W hSw; (try dsimp only at hSw); go_simp; try with_reducible rfl)
    try simp only [Act.put, List.setIfInBounds_toArray, List.set_cons_zero, List.set_cons_succ]
    refine wpAnyH_ready (rs := [5]) (by kernel_rfl) (by simp) ?_
    refine AllReadyH.cons (o := _) rfl (fun K hK => ?_) AllReadyH.nil
    dsimp only [List.getElem_toArray, List.getElem_cons_succ, List.getElem_cons_zero]
    go_simp
    refine hK.out _ _ (set5_cell hne m3d _ _ _ _ _) (fun hHeld2 => ?_)
    clear hK K
    try simp only [Act.put, List.setIfInBounds_toArray, List.set_cons_zero, List.set_cons_succ]
    refine ttakeH 6 3 (v := ?va6) rfl (by kernel_rfl) (by kernel_rfl) (by kernel_rfl) rfl (fun _ _ _ h => h) (by rfl) ?ya6 (by assumption) ?ra6
    case ya6 => (intro W hSw; (try dsimp only at hSw); go_simp; try with_reducible rfl)
    try simp only [Act.put, List.setIfInBounds_toArray, List.set_cons_zero, List.set_cons_succ]
    refine ttakeH 7 4 (v := ?va7) rfl (by kernel_rfl) (by kernel_rfl) (by kernel_rfl) rfl (fun _ _ _ h => h) (by rfl) ?ya7 (by assumption) ?ra7
    case ya7 => (intro W hSw; (try dsimp only at hSw); go_simp; try with_reducible rfl)
    try simp only [Act.put, List.setIfInBounds_toArray, List.set_cons_zero, List.set_cons_succ]
    clear hHeld hHeld2 g0 g1 g2 g3 g4 fg0 fg1 fg2 fg3 fg4 m3w m3d tw hne
    refine wpAnyH_done (by kernel_rfl) ?_ _
    go_wp2
    refine bodyPost_ret (v := .tuple #[.agg #[.slice none 0 0, .slice none 0 0, .int .i64 0, .string ⟨#[]⟩, .int .i64 0], .int .i64 81, .int .i64 sq.wrong]) (by simp [results, Tryz.results16, go_sem, r0, r1, r2, r3, r4]) rfl (PaTo.zero ?_)
    exact vbelow_drew (bset5 HB3.out (Nat.le_refl _) _ _ _ _ _)
  · have hw1 := Decidable.not_not.1 hw
    have hr := HRES.out
    rw [if_neg (fun h => h hw1)] at hr
    rw [hw1] at m3'
    have HRT := Lib.hid (right_calls (w := w2.alloc (.cells #[.slice a q c, .slice b r d, .int .i64 qq.within, .string (strB qq.by_), .int .i64 qq.pick] 26)) ⟨KI.out, KP.out⟩ HQ.out.2)
    clear hw hw1 HRES
    cases hz : rightQ qq with
    | false =>
      rw [hz] at HRT hr
      rw [if_neg (by simp)] at hr
      subst hr
      clear KI KP hz
      go_wp2_with (go_at_call 22; (with_reducible refine HRT.out.mono ?_); rintro e w5 ⟨rfl, hb5⟩; have x5 := X4.out.low hb5; have s0 := tcell_of_blk x5 (k := 0) rfl; have s1 := tcell_of_blk x5 (k := 1) rfl; have s2 := tcell_of_blk x5 (k := 2) rfl; have s3 := tcell_of_blk x5 (k := 3) rfl; have s4 := tcell_of_blk x5 (k := 4) rfl; have fs0 := tfrozen_of_blk x5 (k := 0); have fs1 := tfrozen_of_blk x5 (k := 1); have fs2 := tfrozen_of_blk x5 (k := 2); have fs3 := tfrozen_of_blk x5 (k := 3); have fs4 := tfrozen_of_blk x5 (k := 4); have HB5 := Lib.hid (HB3.out.trans (hb5.mono HB3.out.size)); clear hb5 x5)
      refine bodyPost_ret (v := .tuple #[.agg #[.slice none 0 0, .slice none 0 0, .int .i64 0, .string ⟨#[]⟩, .int .i64 0], .int .i64 2, .int .i64 0]) (by simp [results, Tryz.results16, go_sem, s0, s1, s2, s3, s4]) rfl (PaTo.zero ?_)
      exact bset5 HB5.out (Nat.le_refl _) _ _ _ _ _
    | true =>
      rw [hz] at HRT hr
      rw [if_pos rfl] at hr
      subst hr
      clear hz
      go_wp2_with (go_at_call 22; (with_reducible refine HRT.out.mono ?_); rintro e w5 ⟨rfl, hb5⟩; have x5 := X4.out.low hb5; have y5 := (Blk.new w2 #[.slice a q c, .slice b r d, .int .i64 qq.within, .string (strB qq.by_), .int .i64 qq.pick] 26).low hb5; have s0 := tcell_of_blk x5 (k := 0) rfl; have s1 := tcell_of_blk x5 (k := 1) rfl; have s2 := tcell_of_blk x5 (k := 2) rfl; have s3 := tcell_of_blk x5 (k := 3) rfl; have s4 := tcell_of_blk x5 (k := 4) rfl; have fs0 := tfrozen_of_blk x5 (k := 0); have fs1 := tfrozen_of_blk x5 (k := 1); have fs2 := tfrozen_of_blk x5 (k := 2); have fs3 := tfrozen_of_blk x5 (k := 3); have fs4 := tfrozen_of_blk x5 (k := 4); have y0 := tcell_of_blk y5 (k := 0) rfl; have y1 := tcell_of_blk y5 (k := 1) rfl; have y2 := tcell_of_blk y5 (k := 2) rfl; have y3 := tcell_of_blk y5 (k := 3) rfl; have y4 := tcell_of_blk y5 (k := 4) rfl; have HB5 := Lib.hid (HB3.out.trans (hb5.mono HB3.out.size)); have KI5 := Lib.hid (KI.out.low hb5); have KP5 := Lib.hid (KP.out.low hb5); clear hb5 x5 y5)
      refine bodyPost_ret (v := .tuple #[.agg #[.slice a q c, .slice b r d, .int .i64 qq.within, .string (strB qq.by_), .int .i64 qq.pick], .int .i64 0, .int .i64 0]) (by simp [results, Tryz.results16, go_sem, s0, s1, s2, s3, s4]) rfl ⟨a, q, c, b, r, d, rfl, ⟨?_, ?_⟩, bset5 HB5.out (Nat.le_refl _) _ _ _ _ _⟩
      · exact (((((KI5.out.set (b := w.heap.size) HKB.out _ _).set (b := w.heap.size) HKB.out _ _).set (b := w.heap.size) HKB.out _ _).set (b := w.heap.size) HKB.out _ _).set (b := w.heap.size) HKB.out _ _).mono HK.out
      · exact (((((KP5.out.set (b := w.heap.size) HKB.out _ _).set (b := w.heap.size) HKB.out _ _).set (b := w.heap.size) HKB.out _ _).set (b := w.heap.size) HKB.out _ _).set (b := w.heap.size) HKB.out _ _).mono HK.out

end Go.Proofs.YtifacoompbngaaaGreatDoor
namespace Go.Proofs.YtifacoompbngaaaGreatDoor
open Go.RowKit Go.Lib Go.Op Go.Shelf

theorem textra : Builder.Extra Tryz.prog Tryz.lays156_ren where
  sizeBuilder := by kernel_rfl
  liesBuilder := by kernel_rfl
  t5 := Tryz.underlying5
  a5 := Tryz.isAgg5
  z5 := Tryz.sizeOf5
  v5 := Tryz.zeroValue5
  infoByte := by kernel_rfl
  cellsByte := by kernel_rfl
  sizeByte := by kernel_rfl
  neB5 := by decide

theorem joinRow_calls {K : Nat → Prop} {w : World} {a : Option Addr} {c : Nat} {l : List (List UInt8)} (h : RowK nameD K w (.slice a l.length c) l) (hne : l ≠ []) (sep : List UInt8) (hlen : (sep.intercalate l).length ≤ 140737488355328) (hl : l.length ≤ 1000000) :
    Calls Tryz.prog 125 #[.slice a l.length c, .string (strB sep)] w fun e w' => e = .returned (.string (strB (sep.intercalate l))) ∧ Below w.heap.size w w' := by
  obtain ⟨b0, hb0⟩ : ∃ b, l[0]? = some b := ⟨_, List.getElem?_eq_getElem (by
    cases l with
    | nil => exact absurd rfl hne
    | cons x r => simp)⟩
  obtain ⟨g, o, rfl, hc0⟩ := h.nameAt hb0
  have hcap := h.cap
  have e1 : (l.map strB).map (·.data.toList) = l := by
    rw [List.map_map]
    exact List.map_id'' (fun x => strB_list x) l
  have e2 : Lib.join ((l.map strB).map (·.data.toList)) (strB sep).data.toList = sep.intercalate l := by
    rw [e1, strB_list]
    rfl
  have hj := Any.strings_Join Tryz.lays156 textra g o c (l.map strB) (strB sep) w (fun j x hx => by
    rw [List.getElem?_map] at hx
    cases hj : l[j]? with
    | none => rw [hj] at hx; cases hx
    | some b =>
      rw [hj] at hx
      injection hx with hx
      obtain ⟨g', o', e, hc⟩ := h.nameAt hj
      injection e with e
      injection e with e3 e4
      subst e3 e4
      rw [← hx]
      exact hc) (World.block_lt_of_cell? _ _ hc0) (by rw [List.length_map]; omega) (by rw [List.length_map]; exact hcap) (by rw [e2]; exact hlen)
  rw [e2, List.length_map] at hj
  exact hj

/-- A value's text. -/
def valTx (v : PVal) : List UInt8 := if v.k = 2 then 39 :: (v.s ++ [39]) else if v.k = 3 then (if v.n = 1 then bTrue else bFalse) else itoa v.n
/-- The text of a number, of some. -/
def atL (l : List (List UInt8)) (k : Int) : List UInt8 := l.getD k.toNat []
def exprTx : Nat → PEx → List UInt8
  | 0, _ => []
  | d + 1, .mk k v x f ks =>
    if k = 1 then valTx v
    else if k = 2 then x ++ 46 :: f
    else if k = 3 then atL callsL k ++ 40 :: (x ++ [41])
    else if k = 4 ∨ k = 5 ∨ k = 6 then atL callsL k ++ 40 :: (x ++ 46 :: (f ++ [41]))
    else match ks with
      | [a, b] => exprTx d a ++ 32 :: (atL sumsL k ++ 32 :: (if b.k = 7 ∨ b.k = 8 then 40 :: (exprTx d b ++ [41]) else exprTx d b))
      | _ => []
def itemTx (i : PIt) : List UInt8 := (if i.no then [110, 111, 116, 32] else []) ++ ([32, 111, 114, 32].intercalate i.ns ++ 32 :: (i.x ++ atL modesL i.mode))
def predTx (p : PPr) : List UInt8 := exprTx 6 p.l ++ 32 :: (atL cmpsL p.cmp ++ 32 :: exprTx 6 p.r)
def printQ (q : PQu) : List UInt8 :=
  if rightQ q then
    [115, 101, 113, 32] ++ ([32, 116, 104, 101, 110, 32].intercalate (q.its.map itemTx) ++ ((if q.prs = [] then [] else [32, 119, 104, 101, 114, 101, 32] ++ [32, 97, 110, 100, 32].intercalate (q.prs.map predTx)) ++
      ([32, 119, 105, 116, 104, 105, 110, 32] ++ (itoa q.within ++ ((if q.by_ = [] then [] else [32, 98, 121, 32] ++ q.by_) ++ ([32, 112, 105, 99, 107, 32] ++ atL picksL q.pick))))))
  else []

end Go.Proofs.YtifacoompbngaaaGreatDoor
namespace Go.Proofs.YtifacoompbngaaaGreatDoor
open Go.RowKit Go.Lib Go.Op Go.Shelf Go.Sort

/-- The variables that texts are made with. -/
structure PVars (w : World) : Prop where
  tab : TabIs Tryz.prog w "internal/strconv.uint64pow10" .u64 pow10Tab
  t0 : w.cell? ⟨2, 0, none⟩ = some (.string ⟨#[102, 97, 108, 115, 101]⟩)
  t1 : w.cell? ⟨2, 1, none⟩ = some (.string ⟨#[116, 114, 117, 101]⟩)
theorem tgTab : Tryz.prog.globalNamed "internal/strconv.uint64pow10" = some 3 := by kernel_rfl
theorem PVars.below {w w' : World} (h : PVars w) (hb : Below w.heap.size w w') : PVars w' := ⟨by
  have ht := h.tab
  unfold TabIs at ht ⊢
  exact xvar_keep hb tgTab ht, tkeep hb h.t0, tkeep hb h.t1⟩
theorem tgrow_below {w w' : World} (h : ∃ k os, w' = grow (w.drewN k) os) : Below w.heap.size w w' := by
  obtain ⟨k, os, rfl⟩ := h
  exact below_grow _ w (Nat.le_refl _) k os

set_option maxHeartbeats 1000000 in
set_option maxRecDepth 100000 in
theorem valText_calls {w : World} (hv : PVars w) (v : PVal) (hr : rightB v = true) : Calls Tryz.prog 198 #[.agg #[.int .i64 v.k, .int .i64 v.n, .string (strB v.s)]] w fun e w' => e = .returned (.string (strB (valTx v))) ∧ Below w.heap.size w w' := by
  have hb0 := (Below.refl w.heap.size w).alloc (Nat.le_refl _) (.cells #[.int .i64 v.k, .int .i64 v.n, .string (strB v.s)] 35)
  have HB0 := Lib.hid hb0
  obtain ⟨k, n, s⟩ := v
  rcases rightB_kind hr with hk | hk | hk
  · dsimp only at hk
    subst hk
    have hn : -1099511627776 ≤ n ∧ n ≤ 1099511627776 := by
      unfold rightB at hr
      simp only [if_true, decide_eq_true_eq] at hr
      exact ⟨hr.1, hr.2.1⟩
    have HF := Lib.hid (Tryz.strconv_FormatInt_10 n (by omega) (by omega) _ (hv.below hb0).tab)
    have e1 : valTx ⟨1, n, s⟩ = itoa n := rfl
    rw [e1]
    clear hv hr hb0 e1 hn
    go_enter Tryz.func198, Tryz.ntmps198
    go_wp2_with (go_at_call 62; (with_reducible refine HF.out.mono ?_); rintro e w1 ⟨rfl, hb1⟩; have HB1 := Lib.hid (HB0.out.trans ((tgrow_below hb1).mono HB0.out.size)); clear hb1)
    go_ret
    exact ⟨rfl, HB1.out⟩
  · dsimp only at hk
    subst hk
    have hs : s.length ≤ 64 := by
      unfold rightB at hr
      rw [if_neg (by simp), if_pos rfl, decide_eq_true_eq] at hr
      exact hr.2
    have hsz : (strB s).size ≤ 64 := by rw [strB_size]; exact hs
    have he : (⟨#[39]⟩ : ByteArray) ++ strB s ++ ⟨#[39]⟩ = strB (valTx ⟨2, n, s⟩) := by
      show strB [39] ++ strB s ++ strB [39] = strB (39 :: (s ++ [39]))
      apply ByteArray.ext
      apply Array.ext'
      simp [strB]
    have HE := Lib.hid he
    have hc1 : (⟨#[39]⟩ : ByteArray).size = 1 := rfl
    clear hv hr hb0 hs he
    go_enter Tryz.func198, Tryz.ntmps198
    go_wp2
    go_ret
    exact ⟨by rw [← HE.out]; rfl, HB0.out⟩
  · dsimp only at hk
    subst hk
    have hn : n = 0 ∨ n = 1 := by
      unfold rightB at hr
      rw [if_neg (by simp), if_neg (by simp), if_pos rfl, decide_eq_true_eq] at hr
      dsimp only at hr
      omega
    have hv0 := (hv.below hb0)
    have t0 := hv0.t0
    have t1 := hv0.t1
    clear hv hr hb0 hv0
    rcases hn with rfl | rfl
    · go_enter Tryz.func198, Tryz.ntmps198
      go_wp2
      go_ret
      exact ⟨rfl, HB0.out⟩
    · go_enter Tryz.func198, Tryz.ntmps198
      go_wp2
      go_ret
      exact ⟨rfl, HB0.out⟩

end Go.Proofs.YtifacoompbngaaaGreatDoor
namespace Go.Proofs.YtifacoompbngaaaGreatDoor
open Go.Lib

/-- How a token is written. -/
def saidB (k : Nat) (b : List UInt8) : List UInt8 := if k = 3 then 39 :: (b ++ [39]) else b
/-- A token is read where it is written, ahead of what stands there. -/
structure Fits (k : Nat) (b r : List UInt8) : Prop where
  first : firstX (saidB k b ++ r) = (k, (saidB k b).length)
  len : (saidB k b).length ≠ 0
  text : textX k (saidB k b) = b
  head : ∀ x, (saidB k b ++ r)[0]? = some x → xblank x = false
inductive Lx : List UInt8 → List (Nat × List UInt8) → Prop
  | nil : Lx [] []
  | blank {l : List UInt8} {ts : List (Nat × List UInt8)} (h : Lx l ts) : Lx (32 :: l) ts
  | tok {r : List UInt8} {ts : List (Nat × List UInt8)} (k : Nat) (b : List UInt8) (hf : Fits k b r) (h : Lx r ts) : Lx (saidB k b ++ r) ((k, b) :: ts)
theorem Lx.head_blank {l : List UInt8} {ts : List (Nat × List UInt8)} (h : Lx (32 :: l) ts) : Lx l ts := by
  generalize hm : (32 :: l) = m at h
  cases h with
  | nil => cases hm
  | blank h =>
    injection hm with _ hm
    rw [hm]
    exact h
  | tok k b hf h =>
    have := hf.head 32 (by rw [← hm]; rfl)
    rw [xblank_32] at this
    cases this
/-- What is read of a text so made. -/
theorem Lx.lex {l : List UInt8} {ts : List (Nat × List UInt8)} (h : Lx l ts) : ∀ (f a n : Nat), l.length < f → n + ts.length ≤ 128 → ∃ us, lexX f l a n = (us, 0, 0) ∧ us.map bare = ts := by
  induction h with
  | nil =>
    intro f a n hf _
    obtain ⟨g, rfl⟩ : ∃ g, f = g + 1 := ⟨f - 1, by omega⟩
    exact ⟨[], lexX_end (by simp), rfl⟩
  | blank h ih =>
    intro f a n hf hn
    rw [lexX_blank]
    exact ih f (a + 1) n (by rw [List.length_cons] at hf; omega) hn
  | @tok r ts k b hf h ih =>
    intro f a n hlt hn
    obtain ⟨g, rfl⟩ : ∃ g, f = g + 1 := ⟨f - 1, by omega⟩
    rw [List.length_append] at hlt
    rw [List.length_cons] at hn
    have hl := hf.len
    obtain ⟨us, h1, h2⟩ := ih g (a + 0 + (saidB k b).length) (n + 1) (by omega) (by omega)
    have hm0 : manyL xblank (saidB k b ++ r) = 0 := manyL_is xblank _ 0 (Nat.zero_le _) (fun x hx => by simp at hx) hf.head
    refine ⟨⟨k, b, a + 0⟩ :: us, ?_, by rw [List.map_cons, h2]; rfl⟩
    rw [lexX_more (by rw [hm0, List.length_append]; omega) (by rw [hm0, List.drop_zero, hf.first]; exact hl) (by omega), hm0, List.drop_zero, hf.first]
    dsimp only
    rw [List.drop_left' rfl, h1, List.take_left' rfl, hf.text]
    rfl
/-- Too many tokens are too many. -/
theorem Lx.long {l : List UInt8} {ts : List (Nat × List UInt8)} (h : Lx l ts) : ∀ (f a n : Nat), l.length < f → n ≤ 128 → 128 < n + ts.length → (lexX f l a n).2.1 = 2 := by
  induction h with
  | nil =>
    intro f a n hf h1 h2
    simp at h2
    omega
  | blank h ih =>
    intro f a n hf hn h2
    rw [lexX_blank]
    exact ih f (a + 1) n (by rw [List.length_cons] at hf; omega) hn h2
  | @tok r ts k b hf h ih =>
    intro f a n hlt hn h2
    obtain ⟨g, rfl⟩ : ∃ g, f = g + 1 := ⟨f - 1, by omega⟩
    rw [List.length_append] at hlt
    rw [List.length_cons] at h2
    have hl := hf.len
    have hm0 : manyL xblank (saidB k b ++ r) = 0 := manyL_is xblank _ 0 (Nat.zero_le _) (fun x hx => by simp at hx) hf.head
    have c1 : ¬ (saidB k b ++ r).length ≤ manyL xblank (saidB k b ++ r) := by rw [hm0, List.length_append]; omega
    have c2 : (firstX ((saidB k b ++ r).drop (manyL xblank (saidB k b ++ r)))).2 ≠ 0 := by rw [hm0, List.drop_zero, hf.first]; exact hl
    by_cases h128 : n = 128
    · rw [lexX_many c1 c2 h128]
    · have h3 := ih g (a + 0 + (saidB k b).length) (n + 1) (by omega) (by omega) (by omega)
      rw [lexX_more c1 c2 h128, hm0, List.drop_zero, hf.first]
      dsimp only
      rw [List.drop_left' rfl]
      unfold consX
      rw [h3, if_neg (by decide)]
      exact h3
/-- A text has its tokens, and no others. -/
theorem Lx.one {l : List UInt8} {ts : List (Nat × List UInt8)} (h : Lx l ts) : ∀ {us : List (Nat × List UInt8)}, Lx l us → ts = us := by
  induction h with
  | nil =>
    intro us h2
    generalize hm : ([] : List UInt8) = m at h2
    cases h2 with
    | nil => rfl
    | blank h => cases hm
    | tok k b hf h =>
      have := congrArg List.length hm
      rw [List.length_append] at this
      have h3 := hf.len
      simp only [List.length_nil] at this
      omega
  | blank h ih => exact fun h2 => ih h2.head_blank
  | @tok r ts k b hf h ih =>
    intro us h2
    generalize hm : saidB k b ++ r = m at h2
    cases h2 with
    | nil =>
      have := congrArg List.length hm
      rw [List.length_append] at this
      have h3 := hf.len
      simp only [List.length_nil] at this
      omega
    | blank h =>
      have := hf.head 32 (by rw [hm]; rfl)
      rw [xblank_32] at this
      cases this
    | @tok r' ts' k' b' hf' h' =>
      have h1 := hf.first
      rw [hm, hf'.first] at h1
      injection h1 with e1 e2
      subst e1
      have e3 := List.append_inj hm e2.symm
      have e4 : b = b' := by rw [← hf.text, ← hf'.text, e3.1]
      rw [e4, ih (e3.2 ▸ h')]

/-! Which tokens fit. -/
theorem manyL_all {p : UInt8 → Bool} {b r : List UInt8} (hb : ∀ c ∈ b, p c = true) (hr : ∀ x, r[0]? = some x → p x = false) : manyL p (b ++ r) = b.length :=
  manyL_is p _ _ (by rw [List.length_append]; omega) (fun c hc => by
    rw [List.take_left' rfl] at hc
    exact hb c hc) (fun c hc => by
    rw [List.getElem?_append_right (Nat.le_refl _), Nat.sub_self] at hc
    exact hr c hc)
theorem fits_word {b r : List UInt8} (h0 : ∃ c t, b = c :: t ∧ xletter c = true) (hb : ∀ c ∈ b, xin c = true) (hl : b.length ≤ 16) (hr : ∀ x, r[0]? = some x → xin x = false) : Fits 1 b r := by
  obtain ⟨c, t, rfl, hc⟩ := h0
  have hs : saidB 1 (c :: t) = c :: t := if_neg (by decide)
  refine ⟨?_, by rw [hs]; simp, by rw [hs]; exact if_neg (by decide), fun x hx => ?_⟩
  · rw [hs]
    have hm := manyL_all hb hr
    show firstC c (t ++ r) = _
    unfold firstC
    rw [if_pos hc]
    have hm' : manyL xin (c :: (t ++ r)) = (c :: t).length := hm
    rw [hm', if_neg (by omega)]
  · rw [hs] at hx
    obtain rfl : c = x := by simpa using hx
    unfold xletter at hc
    unfold xblank
    simp at hc ⊢
    omega
theorem fits_num {b r : List UInt8} (h0 : b ≠ []) (hb : ∀ c ∈ b, xdigit c = true) (hn : rightN b = true) (hr : ∀ x, r[0]? = some x → xdigit x = false) : Fits 2 b r := by
  cases b with
  | nil => exact absurd rfl h0
  | cons c t =>
    have hs : saidB 2 (c :: t) = c :: t := if_neg (by decide)
    have hc := hb c List.mem_cons_self
    have hnl : xletter c = false := by
      unfold xdigit at hc
      unfold xletter
      simp at hc ⊢
      omega
    refine ⟨?_, by rw [hs]; simp, by rw [hs]; exact if_neg (by decide), fun x hx => ?_⟩
    · rw [hs]
      have hm := manyL_all hb hr
      show firstC c (t ++ r) = _
      unfold firstC
      rw [hnl, if_neg (by decide), if_pos hc]
      have hm' : manyL xdigit (c :: (t ++ r)) = (c :: t).length := hm
      have ht : (c :: (t ++ r)).take (c :: t).length = c :: t := List.take_left' (l₁ := c :: t) rfl
      rw [hm', ht, if_pos hn]
    · rw [hs] at hx
      obtain rfl : c = x := by simpa using hx
      unfold xdigit at hc
      unfold xblank
      simp at hc ⊢
      omega
theorem fits_quot {b r : List UInt8} (hb : ∀ c ∈ b, xquot c = true) (hl : b.length ≤ 64) : Fits 3 b r := by
  have hs : saidB 3 b = 39 :: (b ++ [39]) := if_pos rfl
  have hm : manyL xquot (b ++ ([39] ++ r)) = b.length := manyL_all hb (fun x hx => by
    have : x = 39 := by simpa using hx.symm
    rw [this]
    exact xquot_39)
  refine ⟨?_, by rw [hs]; simp, ?_, fun x hx => ?_⟩
  · rw [hs]
    show firstC 39 ((b ++ [39]) ++ r) = _
    rw [List.append_assoc]
    unfold firstC
    rw [if_neg (by decide), if_neg (by decide), if_pos (by decide), hm, if_neg]
    · simp
      omega
    · rintro (h | h | h)
      · omega
      · simp at h
      · apply h
        rw [List.getElem?_append_right (Nat.le_refl _), Nat.sub_self]
        rfl
  · rw [hs]
    unfold textX
    rw [if_pos rfl]
    simp
  · rw [hs] at hx
    obtain rfl : 39 = x := by simpa using hx
    decide
theorem fits_two {c : UInt8} {r : List UInt8} (hc : c = 33 ∨ c = 60 ∨ c = 62) : Fits 4 [c, 61] r := by
  have hs : saidB 4 [c, 61] = [c, 61] := if_neg (by decide)
  refine ⟨?_, by rw [hs]; simp, by rw [hs]; exact if_neg (by decide), fun x hx => ?_⟩
  · rw [hs]
    show firstC c (61 :: r) = _
    unfold firstC
    rcases hc with rfl | rfl | rfl <;> (rw [if_neg (by decide), if_neg (by decide), if_neg (by decide), if_pos ⟨rfl, by decide⟩]; rfl)
  · rw [hs] at hx
    obtain rfl : c = x := by simpa using hx
    rcases hc with rfl | rfl | rfl <;> decide
theorem fits_sign {c : UInt8} {r : List UInt8} (hc : c ∈ signsL) (hr : ∀ x, r[0]? = some x → x ≠ 61) : Fits 4 [c] r := by
  have hs : saidB 4 [c] = [c] := if_neg (by decide)
  have hc' : c = 61 ∨ c = 60 ∨ c = 62 ∨ c = 43 ∨ c = 45 ∨ c = 40 ∨ c = 41 ∨ c = 46 ∨ c = 63 := by simpa [signsL] using hc
  refine ⟨?_, by rw [hs]; simp, by rw [hs]; exact if_neg (by decide), fun x hx => ?_⟩
  · rw [hs]
    show firstC c r = _
    unfold firstC
    rw [if_neg (by rcases hc' with rfl | rfl | rfl | rfl | rfl | rfl | rfl | rfl | rfl <;> decide), if_neg (by rcases hc' with rfl | rfl | rfl | rfl | rfl | rfl | rfl | rfl | rfl <;> decide), if_neg (by rcases hc' with rfl | rfl | rfl | rfl | rfl | rfl | rfl | rfl | rfl <;> decide), if_neg (fun h => hr 61 h.1 rfl), if_pos (by rcases hc' with rfl | rfl | rfl | rfl | rfl | rfl | rfl | rfl | rfl <;> decide)]
    rfl
  · rw [hs] at hx
    obtain rfl : c = x := by simpa using hx
    rcases hc' with rfl | rfl | rfl | rfl | rfl | rfl | rfl | rfl | rfl <;> decide
end Go.Proofs.YtifacoompbngaaaGreatDoor
namespace Go.Proofs.YtifacoompbngaaaGreatDoor
open Go.Lib

theorem dec_ne (u : Nat) : decDigits u ≠ [] := fun e => by
  have h := decDigits_length u
  have := nDigits_pos u
  rw [e] at h
  simp at h
  omega

theorem digit_toNat {d : Nat} (h : d < 10) : (UInt8.ofNat (48 + d)).toNat = 48 + d := by simp; omega

theorem dec_digits : ∀ (u : Nat), ∀ c ∈ decDigits u, 48 ≤ c.toNat ∧ c.toNat ≤ 57 := by
  intro u
  induction u using Nat.strongRecOn with
  | ind u ih =>
    intro c hc
    rw [decDigits] at hc
    split at hc
    · rename_i h
      simp only [List.mem_singleton] at hc
      subst hc
      rw [digit_toNat h]
      omega
    · rename_i h
      rcases List.mem_append.1 hc with hc | hc
      · exact ih (u / 10) (by omega) c hc
      · simp only [List.mem_singleton] at hc
        subst hc
        rw [digit_toNat (Nat.mod_lt _ (by omega))]
        have := Nat.mod_lt u (y := 10) (by omega)
        omega

/-- What is parsed of a number's digits, and of more behind them. -/
theorem parse_dec (u : Nat) (hu : u < 9223372036854775808) (r : List UInt8) : parseUint10 0 (decDigits u ++ r) = parseUint10 u r := by
  induction u using Nat.strongRecOn generalizing r with
  | ind u ih =>
    rw [decDigits]
    split
    · rename_i h
      rw [List.singleton_append, parseUint10]
      rw [digit_toNat h, if_pos (by omega), if_neg (by omega), if_neg (by omega)]
      congr 1
      omega
    · rename_i h
      rw [List.append_assoc, ih (u / 10) (by omega) (by omega), List.singleton_append, parseUint10]
      have := Nat.mod_lt u (y := 10) (by omega)
      rw [digit_toNat this, if_pos (by omega), if_neg (by omega), if_neg (by omega)]
      congr 1
      omega

theorem parse_itoa {n : Nat} (h : n < 9223372036854775808) : parseIntB 64 (decDigits n) = .ok (n : Int) := by
  have h1 := parse_dec n h []
  rw [List.append_nil] at h1
  rw [parseIntB_64]
  cases hd : decDigits n with
  | nil => exact absurd hd (dec_ne n)
  | cons c r =>
    have hc := dec_digits n c (by rw [hd]; simp)
    unfold atoiAll
    dsimp only
    have h43 : ¬ (c.toNat = 43 ∨ c.toNat = 45) := by omega
    have h45 : ¬ c.toNat = 45 := by omega
    rw [if_neg h43]
    rw [hd] at h1
    have h2 : parseMag (c :: r) = .ok n := by
      unfold parseMag
      rw [if_neg (by simp), h1]
      rfl
    rw [h2]
    dsimp only
    rw [if_neg (by omega), if_neg (by simp [h45]), if_neg h45]

/-- The name of a number's file. -/
def numName (mark : List UInt8) (n : Nat) : List UInt8 := mark ++ decDigits n
/-- The number of a file's name, as the program reckons it. -/
def numOf (mark nm : List UInt8) : Int :=
  match parseIntB 64 (trimPrefix nm mark) with
  | .ok v => if 1 ≤ v ∧ mark ++ itoa v = nm then v else 0
  | _ => 0

theorem itoa_nat (n : Nat) : itoa (n : Int) = decDigits n := by unfold itoa; rw [if_neg (by omega)]; simp

theorem trim_name (mark x : List UInt8) : trimPrefix (mark ++ x) mark = x := by
  unfold trimPrefix hasPrefix
  rw [if_pos (by simp)]
  simp

theorem numOf_name {mark : List UInt8} {n : Nat} (h1 : 1 ≤ n) (h2 : n < 9223372036854775808) : numOf mark (numName mark n) = n := by
  unfold numOf numName
  rw [trim_name, parse_itoa h2]
  dsimp only
  rw [if_pos ⟨by omega, by rw [itoa_nat]⟩]

theorem numOf_cases (mark nm : List UInt8) : numOf mark nm = 0 ∨ ∃ n : Nat, 1 ≤ n ∧ n < 9223372036854775808 ∧ numOf mark nm = n ∧ nm = numName mark n := by
  unfold numOf
  cases hp : parseIntB 64 (trimPrefix nm mark) with
  | ok v =>
    dsimp only
    by_cases h : 1 ≤ v ∧ mark ++ itoa v = nm
    · rw [if_pos h]
      have hb := parseIntB_bounds hp
      obtain ⟨n, rfl⟩ : ∃ n : Nat, v = n := ⟨v.toNat, by omega⟩
      refine Or.inr ⟨n, by omega, by have := hb.2; simp at this; omega, rfl, ?_⟩
      rw [← h.2, itoa_nat]
      rfl
    · rw [if_neg h]
      exact Or.inl rfl
  | _ => exact Or.inl rfl

theorem dec_inj : ∀ {a b : Nat}, decDigits a = decDigits b → a = b := by
  intro a
  induction a using Nat.strongRecOn with
  | ind a ih =>
    intro b h
    rw [decDigits, decDigits.eq_def b] at h
    by_cases ha : a < 10
    · rw [dif_pos ha] at h
      by_cases hb : b < 10
      · rw [dif_pos hb] at h
        injection h with h
        have h2 := congrArg UInt8.toNat h
        rw [digit_toNat ha, digit_toNat hb] at h2
        omega
      · rw [dif_neg hb] at h
        have h2 := congrArg List.length h
        simp at h2
        exact absurd h2 (dec_ne _)
    · rw [dif_neg ha] at h
      by_cases hb : b < 10
      · rw [dif_pos hb] at h
        have h2 := congrArg List.length h
        simp at h2
        exact absurd h2 (dec_ne _)
      · rw [dif_neg hb] at h
        obtain ⟨h1, h2⟩ := List.append_inj' h rfl
        have h3 := ih (a / 10) (by omega) h1
        injection h2 with h2
        have h4 := congrArg UInt8.toNat h2
        have := Nat.mod_lt a (y := 10) (by omega)
        have := Nat.mod_lt b (y := 10) (by omega)
        rw [digit_toNat (by omega), digit_toNat (by omega)] at h4
        omega

theorem numName_inj {mark : List UInt8} {a b : Nat} (h : numName mark a = numName mark b) : a = b := dec_inj (List.append_cancel_left h)

end Go.Proofs.YtifacoompbngaaaGreatDoor

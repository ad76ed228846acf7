/- Queries: Parse. | Contracts of the library at this program (made by the kit's tools: lay-shelf.mjs, lay-plain.mjs). | Queries: texts that are joined; what a query's text is, in plain words. | Queries: the text of a value. -/
import Derived.Test.YtndmbljpfpnehaaGreatDoorMC
import Derived.Shelf.Strconv.Itoa0
import Derived.Shelf.Strconv.ParseIntEmpty
import Derived.Shelf.LaysM
import Derived.Shelf.Strconv.Clone
import Derived.Shelf.Strconv.SyntaxError
import Derived.Shelf.LaysC
import Derived.Shelf.Strconv.ToError
import Derived.Shelf.Strconv.Lower
import Derived.Shelf.Strconv.ParseUint10
import Derived.Shelf.Strconv.ParseUint10Empty
import Derived.Shelf.Strconv.ParseUint10Any
import Derived.Shelf.Strconv.ParseInt10
import Derived.Shelf.Strconv.RangeError
import Derived.Shelf.Strconv.ToErrorRange
import Derived.Shelf.Strconv.ParseUintEmpty
import Derived.Shelf.Strconv.ParseUint10b64
import Derived.Shelf.Strconv.ParseUint10b32
import Derived.Shelf.Strconv.ParseUint10b16
import Derived.Shelf.Strconv.ParseUint10b8
import Derived.Shelf.Strconv.ParseUint10At
import Derived.Shelf.Strconv.ParseInt10At64
import Derived.Shelf.Strconv.ParseInt10At32
import Derived.Shelf.Strconv.ParseInt10At16
import Derived.Shelf.Strconv.ParseInt10At8
import Derived.Shelf.Strconv.ParseInt10All
import Derived.Shelf.Strconv.ParseIntPublic10
import Derived.Shelf.Strconv.ErrVarParseInt
import Derived.Shelf.Strings.Search1
import Derived.Test.YtndmbljpfpnehaaGreatDoorProg
import Derived.Deep.RegionHeld3
import Derived.Shelf.Strings.Builder1
import Derived.Shelf.Strconv.Itoa1
import Derived.Shelf.Strconv.Itoa2
import Derived.Shelf.Strconv.Itoa3
import Derived.Shelf.Strconv.Itoa4
import Derived.Shelf.Slices.Turned
import Derived.Shelf.Strings.Builder2
import Derived.Shelf.Strings.OnBuilder
import Derived.Lib.AppendIntMem
import Derived.Lib.ItoaLen
namespace Go.Proofs.YtndmbljpfpnehaaGreatDoor
open Go.RowKit Go.Lib Go.Op

section
variable {P : Program} {ops : Array Oper} {Q : Exit → Act → World → Prop} {md : Region.Mode} {S : World → Prop}
/-- An operation that is wanted, and yields v. -/
theorem ttakeH (i d : Nat) {o : Oper} {v : Value} {fuel : Nat} {listed : Array Bool} {a : Act} {w : World} (ho : ops[i]? = some o) (hs : Region.noSelect ops = true) (hf : Region.free md ops listed i = true)
    (hr : (Region.ready md ops listed).contains i = true) (hd : o.dst = some d)
    (hQ : ∀ c a w, Q (.panic c) (a.put (some d) v) w → Q (.panic c) a w) (hw : Region.wanted o (yielded ops a.tmps) = true) (hy : ∀ w, S w → (execOp a.eval o).run P w = .ok (.value v) w) (hS : S w)
    (h : wpAnyH P md ops Q S fuel (listed.setIfInBounds i true) (a.put (some d) v) w) : wpAnyH P md ops Q S (fuel + 1) listed a w :=
  wpAnyH_take ho hs hf hr (by rw [hd]; exact hQ) (Or.inl ⟨hw, hy⟩) hS (by rw [hd]; exact h)
end

/-- What Parse leaves. -/
def PaTo (p : PQu × Int × Int) (w : World) (e : Ending) (w' : World) : Prop := ∃ a q c b r d, e = .returned (.tuple #[.agg #[.slice a q c, .slice b r d, .int .i64 p.1.within, .string (strB p.1.by_), .int .i64 p.1.pick], .int .i64 p.2.1, .int .i64 p.2.2]) ∧ QuAt (· < w.heap.size) w' a q c b r d p.1 ∧ Below w.heap.size w w'
theorem PaTo.zero {w w' : World} {x y : Int} (hb : Below w.heap.size w w') : PaTo (noQ, x, y) w (.returned (.tuple #[.agg #[.slice none 0 0, .slice none 0 0, .int .i64 0, .string ⟨#[]⟩, .int .i64 0], .int .i64 x, .int .i64 y])) w' :=
  ⟨Option.none, 0, 0, Option.none, 0, 0, rfl, ⟨RowK.nil _ _ _, RowK.nil _ _ _⟩, hb⟩

theorem bset {w w' : World} (h : Below w.heap.size w w') {b : Nat} (hb : w.heap.size ≤ b) (k : Nat) (v : Value) : Below w.heap.size w (w'.setCell ⟨b, k, none⟩ v) := h.setCell (p := ⟨b, k, none⟩) hb v
theorem bset5 {w w' : World} (h : Below w.heap.size w w') {b : Nat} (hb : w.heap.size ≤ b) (v0 v1 v2 v3 v4 : Value) : Below w.heap.size w (((((w'.setCell ⟨b, 0, none⟩ v0).setCell ⟨b, 1, none⟩ v1).setCell ⟨b, 2, none⟩ v2).setCell ⟨b, 3, none⟩ v3).setCell ⟨b, 4, none⟩ v4) :=
  bset (bset (bset (bset (bset h hb _ _) hb _ _) hb _ _) hb _ _) hb _ _

theorem set5_cell {W : World} {g b k : Nat} {u : Value} (hne : g ≠ b) (h : W.cell? ⟨g, k, none⟩ = some u) (v0 v1 v2 v3 v4 : Value) : (((((W.setCell ⟨b, 0, none⟩ v0).setCell ⟨b, 1, none⟩ v1).setCell ⟨b, 2, none⟩ v2).setCell ⟨b, 3, none⟩ v3).setCell ⟨b, 4, none⟩ v4).cell? ⟨g, k, none⟩ = some u :=
  (TFr.at b 4 v4).cell ((TFr.at b 3 v3).cell ((TFr.at b 2 v2).cell ((TFr.at b 1 v1).cell ((TFr.at b 0 v0).cell h hne) hne) hne) hne) hne

set_option maxHeartbeats 2000000 in
set_option maxRecDepth 100000 in
theorem parse_calls {w : World} (hv : TVars w) (l : List UInt8) (hl : l.length ≤ 100000) : Calls Tryz.prog 15 #[.string (strB l)] w (PaTo (parseI l) w) := by
  have hb0 := (Below.refl w.heap.size w).alloc (Nat.le_refl _) (.cells #[.slice none 0 0, .slice none 0 0, .int .i64 0, .string ⟨#[]⟩, .int .i64 0] 26)
  have hx2 := Blk.new w #[.slice none 0 0, .slice none 0 0, .int .i64 0, .string ⟨#[]⟩, .int .i64 0] 26
  have hrd := read_calls (hv.below hb0).xv (strB l) l (strB_list l) (by rw [strB_size]; exact hl)
  obtain ⟨⟨ts, er, at_⟩, hts⟩ : ∃ z, readX l = z := ⟨_, rfl⟩
  rw [hts] at hrd
  have HRD : Hid (Calls Tryz.prog 32 #[.string (strB l)] (w.alloc (.cells #[.slice none 0 0, .slice none 0 0, .int .i64 0, .string ⟨#[]⟩, .int .i64 0] 26)) fun e w' => ∃ v, e = .returned (.tuple #[v, .int .i64 er, .int .i64 at_]) ∧ XOwn w' (w.alloc (.cells #[.slice none 0 0, .slice none 0 0, .int .i64 0, .string ⟨#[]⟩, .int .i64 0] 26)).heap.size v ts ∧ Below (w.alloc (.cells #[.slice none 0 0, .slice none 0 0, .int .i64 0, .string ⟨#[]⟩, .int .i64 0] 26)).heap.size (w.alloc (.cells #[.slice none 0 0, .slice none 0 0, .int .i64 0, .string ⟨#[]⟩, .int .i64 0] 26)) w') := hrd
  have HB0 := Lib.hid hb0
  have HX2 := Lib.hid hx2
  have HV := Lib.hid (hv.below hb0)
  by_cases he : ¬ er = 0
  · have hp : parseI l = (noQ, (er : Int), (at_ : Int)) := by
      unfold parseI
      rw [hts]
      rw [if_pos he]
    rw [hp]
    have ht : ((er : Int) != 0) = true := by rw [bne_iff_ne]; omega
    clear hv hl hb0 hx2 hrd hts hp he
    go_enter Tryz.func15, Tryz.ntmps15
    go_wp2_with fail
    with_reducible refine HRD.out.mono ?_
    rintro e w1 ⟨v, rfl, ho, hb1⟩
    obtain ⟨va, vc, rfl⟩ := ho.slice
    have q2 := HX2.out.low hb1
    have r0 := tcell_of_blk q2 (k := 0) rfl
    have r1 := tcell_of_blk q2 (k := 1) rfl
    have r2 := tcell_of_blk q2 (k := 2) rfl
    have r3 := tcell_of_blk q2 (k := 3) rfl
    have r4 := tcell_of_blk q2 (k := 4) rfl
    have fr0 := tfrozen_of_blk q2 (k := 0)
    have fr1 := tfrozen_of_blk q2 (k := 1)
    have fr2 := tfrozen_of_blk q2 (k := 2)
    have fr3 := tfrozen_of_blk q2 (k := 3)
    have fr4 := tfrozen_of_blk q2 (k := 4)
    have HB1 := Lib.hid (HB0.out.trans (hb1.mono HB0.out.size))
    clear ho hb1 q2
    go_wp2
    refine bodyPost_ret (v := .tuple #[.agg #[.slice none 0 0, .slice none 0 0, .int .i64 0, .string ⟨#[]⟩, .int .i64 0], .int .i64 er, .int .i64 at_]) (by simp [results, Tryz.results15, go_sem, r0, r1, r2, r3, r4]) rfl (PaTo.zero ?_)
    exact bset5 HB1.out (Nat.le_refl _) _ _ _ _ _
  have he := Decidable.not_not.1 he
  subst he
  have HRD0 : Hid (Calls Tryz.prog 32 #[.string (strB l)] (w.alloc (.cells #[.slice none 0 0, .slice none 0 0, .int .i64 0, .string ⟨#[]⟩, .int .i64 0] 26)) fun e w' => ∃ v, e = .returned (.tuple #[v, .int .i64 0, .int .i64 at_]) ∧ XOwn w' (w.alloc (.cells #[.slice none 0 0, .slice none 0 0, .int .i64 0, .string ⟨#[]⟩, .int .i64 0] 26)).heap.size v ts ∧ Below (w.alloc (.cells #[.slice none 0 0, .slice none 0 0, .int .i64 0, .string ⟨#[]⟩, .int .i64 0] 26)).heap.size (w.alloc (.cells #[.slice none 0 0, .slice none 0 0, .int .i64 0, .string ⟨#[]⟩, .int .i64 0] 26)) w') := HRD
  clear HRD he
  have HRD := HRD0
  clear HRD0
  obtain ⟨htk, hlen, _, _, hl5⟩ := readX_toks hts
  obtain ⟨⟨qq, sq⟩, hq⟩ : ∃ z, queryT l.length (ts.length + 1) ⟨ts, 0, -1⟩ = z := ⟨_, rfl⟩
  have hqb := queryT_sb (E := l.length) (s := ⟨ts, 0, -1⟩) (ts.length + 1) ⟨fun t ht => (htk t ht).1, by show ts.length ≤ _; omega⟩
  rw [hq] at hqb
  have hp : parseI l = if sq.wrong ≠ -1 then (noQ, 81, sq.wrong) else if rightQ qq then (qq, 0, 0) else (noQ, 2, 0) := by
    unfold parseI
    rw [hts]
    dsimp only
    rw [if_neg (by simp), hq]
  rw [hp]
  obtain ⟨res, hres⟩ : ∃ z, (if sq.wrong ≠ -1 then (noQ, 81, sq.wrong) else if rightQ qq then (qq, 0, 0) else (noQ, 2, 0) : PQu × Int × Int) = z := ⟨_, rfl⟩
  rw [hres]
  have HRES := Lib.hid hres
  have HTK := Lib.hid (And.intro htk hlen)
  have HQ := Lib.hid (And.intro hq hqb)
  obtain ⟨E, hE⟩ : ∃ E, l.length = E := ⟨_, rfl⟩
  have hsE : (strB l).size = E := by rw [strB_size]; exact hE
  rw [hE] at HQ
  have HE := Lib.hid (show E ≤ 1000000 by omega)
  obtain ⟨sv, hsv⟩ : ∃ sv, strB l = sv := ⟨_, rfl⟩
  rw [hsv] at HRD hsE ⊢
  clear hv hl hb0 hx2 hrd hts hp htk hlen hl5 hq hqb hres hE hsv
  go_enter Tryz.func15, Tryz.ntmps15
  go_wp2_with fail
  with_reducible refine HRD.out.mono ?_
  rintro e w1 ⟨v, rfl, ho, hb1⟩
  have hv1 := HV.out.below hb1
  obtain ⟨va, vc, rfl⟩ := ho.slice
  obtain ⟨nt, hnt⟩ : ∃ n, ts.length = n := ⟨_, rfl⟩
  obtain ⟨T, hmade⟩ := RdR.made (E := E) ho HTK.out.1 HE.out hv1 (by have := hb1.size; have := HX2.out.lt; omega)
  have hqc := query_calls hmade (.inl (Nat.zero_le _)) (n := ts.length + 1) (Nat.lt_succ_self _) (by show ts.length ≤ _; have := HTK.out.2; omega)
  rw [HQ.out.1] at hqc
  rw [hnt] at hqc ⊢
  have HQC := Lib.hid hqc
  have hba := (Below.refl w1.heap.size w1).alloc (Nat.le_refl _) (.cells #[.slice va nt vc, .int .i64 E, .int .i64 0, .int .i64 (-1)] 70)
  have X3 := Lib.hid ((HX2.out.low hb1).low hba)
  have hsz1 : w.heap.size < w1.heap.size := by have := hb1.size; have := HX2.out.lt; omega
  have HB1 := Lib.hid ((HB0.out.trans (hb1.mono HB0.out.size)).trans (hba.mono (Nat.le_of_lt hsz1)))
  have hszE : ((sv.size : Nat) : Int) = (E : Int) := by rw [hsE]
  have HSZ := Lib.hid hsz1
  clear ho hb1 hv1 hmade hba hqc hnt hsz1 HTK HV HRD
  go_wp2_with fail
  with_reducible refine HQC.out.mono ?_
  rintro e w2 ⟨a, q, c, b, r, d, rfl, hits, hprs, hrt⟩
  have hb3 := (Below.refl w2.heap.size w2).alloc (Nat.le_refl _) (.cells #[.slice a q c, .slice b r d, .int .i64 qq.within, .string (strB qq.by_), .int .i64 qq.pick] 26)
  have x4 := (X3.out.keep hrt.fr (by have := HSZ.out; omega)).low hb3
  have X4 := Lib.hid x4
  have hsa : (w1.alloc (.cells #[.slice va nt vc, .int .i64 E, .int .i64 0, .int .i64 (-1)] 70)).heap.size = w1.heap.size + 1 := by simp
  have hb2 : Below w.heap.size w w2 := HB1.out.trans (hrt.fr.below (B := w.heap.size) (by rw [hsa]; have := HSZ.out; omega) (fun k hk => by rw [hk]; exact Nat.le_of_lt HSZ.out))
  have HB3 := Lib.hid (hb2.trans (hb3.mono hb2.size))
  obtain ⟨ra, rc, hrd⟩ := hrt.rd
  have m3 := hrd.c3
  have m3' := tkeepAl m3
  have hK : ∀ k, k < w.heap.size → k < (w1.alloc (.cells #[.slice va nt vc, .int .i64 E, .int .i64 0, .int .i64 (-1)] 70)).heap.size := fun k hk => by rw [hsa]; have := HSZ.out; omega
  have KI := Lib.hid (hits.low hb3)
  have KP := Lib.hid (hprs.low hb3)
  have HK := Lib.hid hK
  have hKb : w.heap.size < (w1.alloc (.cells #[.slice va nt vc, .int .i64 E, .int .i64 0, .int .i64 (-1)] 70)).heap.size := by rw [hsa]; have := HSZ.out; omega
  have HKB := Lib.hid hKb
  clear hKb
  have r0 := tcell_of_blk x4 (k := 0) rfl
  have r1 := tcell_of_blk x4 (k := 1) rfl
  have r2 := tcell_of_blk x4 (k := 2) rfl
  have r3 := tcell_of_blk x4 (k := 3) rfl
  have r4 := tcell_of_blk x4 (k := 4) rfl
  have fr0 := tfrozen_of_blk x4 (k := 0)
  have fr1 := tfrozen_of_blk x4 (k := 1)
  have fr2 := tfrozen_of_blk x4 (k := 2)
  have fr3 := tfrozen_of_blk x4 (k := 3)
  have fr4 := tfrozen_of_blk x4 (k := 4)
  clear hits hprs hrt hrd hb2 hb3 hK x4 X3 HQC hsa m3
  by_cases hw : ¬ sq.wrong = -1
  · have hr := HRES.out
    rw [if_pos hw] at hr
    subst hr
    have tw : (sq.wrong != -1) = true := by rw [bne_iff_ne]; exact hw
    clear KI KP HRES hw
    go_wp2_with fail
    have hne : w1.heap.size ≠ w.heap.size := by have := HSZ.out; omega
    have m3w := m3' (.cells #[.slice a q c, .slice b r d, .int .i64 qq.within, .string (strB qq.by_), .int .i64 qq.pick] 26)
    have m3d : (w2.alloc (.cells #[.slice a q c, .slice b r d, .int .i64 qq.within, .string (strB qq.by_), .int .i64 qq.pick] 26)).drew.cell? ⟨w1.heap.size, 3, none⟩ = some (.int .i64 sq.wrong) := m3w
    clear m3'
    have g0 : (w2.alloc (.cells #[.slice a q c, .slice b r d, .int .i64 qq.within, .string (strB qq.by_), .int .i64 qq.pick] 26)).drew.cell? ⟨w.heap.size, 0, none⟩ = some (.slice none 0 0) := r0
    have fg0 : (w2.alloc (.cells #[.slice a q c, .slice b r d, .int .i64 qq.within, .string (strB qq.by_), .int .i64 qq.pick] 26)).drew.frozen? ⟨w.heap.size, 0, none⟩ = false := fr0
    have g1 : (w2.alloc (.cells #[.slice a q c, .slice b r d, .int .i64 qq.within, .string (strB qq.by_), .int .i64 qq.pick] 26)).drew.cell? ⟨w.heap.size, 1, none⟩ = some (.slice none 0 0) := r1
    have fg1 : (w2.alloc (.cells #[.slice a q c, .slice b r d, .int .i64 qq.within, .string (strB qq.by_), .int .i64 qq.pick] 26)).drew.frozen? ⟨w.heap.size, 1, none⟩ = false := fr1
    have g2 : (w2.alloc (.cells #[.slice a q c, .slice b r d, .int .i64 qq.within, .string (strB qq.by_), .int .i64 qq.pick] 26)).drew.cell? ⟨w.heap.size, 2, none⟩ = some (.int .i64 0) := r2
    have fg2 : (w2.alloc (.cells #[.slice a q c, .slice b r d, .int .i64 qq.within, .string (strB qq.by_), .int .i64 qq.pick] 26)).drew.frozen? ⟨w.heap.size, 2, none⟩ = false := fr2
    have g3 : (w2.alloc (.cells #[.slice a q c, .slice b r d, .int .i64 qq.within, .string (strB qq.by_), .int .i64 qq.pick] 26)).drew.cell? ⟨w.heap.size, 3, none⟩ = some (.string ⟨#[]⟩) := r3
    have fg3 : (w2.alloc (.cells #[.slice a q c, .slice b r d, .int .i64 qq.within, .string (strB qq.by_), .int .i64 qq.pick] 26)).drew.frozen? ⟨w.heap.size, 3, none⟩ = false := fr3
    have g4 : (w2.alloc (.cells #[.slice a q c, .slice b r d, .int .i64 qq.within, .string (strB qq.by_), .int .i64 qq.pick] 26)).drew.cell? ⟨w.heap.size, 4, none⟩ = some (.int .i64 0) := r4
    have fg4 : (w2.alloc (.cells #[.slice a q c, .slice b r d, .int .i64 qq.within, .string (strB qq.by_), .int .i64 qq.pick] 26)).drew.frozen? ⟨w.heap.size, 4, none⟩ = false := fr4
    clear HX2 HB0 HQ HE X4 HB1 HSZ HK HKB
    refine wp_region_held_drew (S := fun W => W.cell? ⟨w1.heap.size, 3, none⟩ = some (.int .i64 sq.wrong)) (by kernel_rfl) m3d (fun hHeld => ?_)
    refine ttakeH 0 33 (v := ?va0) rfl (by kernel_rfl) (by kernel_rfl) (by kernel_rfl) rfl (fun _ _ _ h => h) (by rfl) ?ya0 (by assumption) ?ra0
    case ya0 => (intro W hSw; (try dsimp only at hSw); go_simp; try with_reducible rfl)
    try simp only [Act.put, List.setIfInBounds_toArray, List.set_cons_zero, List.set_cons_succ]
    refine ttakeH 1 34 (v := ?va1) rfl (by kernel_rfl) (by kernel_rfl) (by kernel_rfl) rfl (fun _ _ _ h => h) (by rfl) ?ya1 (by assumption) ?ra1
    case ya1 => (intro W hSw; (try dsimp only at hSw); go_simp; try with_reducible rfl)
    try simp only [Act.put, List.setIfInBounds_toArray, List.set_cons_zero, List.set_cons_succ]
    refine ttakeH 2 35 (v := ?va2) rfl (by kernel_rfl) (by kernel_rfl) (by kernel_rfl) rfl (fun _ _ _ h => h) (by rfl) ?ya2 (by assumption) ?ra2
    case ya2 => (intro W hSw; (try dsimp only at hSw); go_simp; try with_reducible rfl)
    try simp only [Act.put, List.setIfInBounds_toArray, List.set_cons_zero, List.set_cons_succ]
    refine ttakeH 3 36 (v := ?va3) rfl (by kernel_rfl) (by kernel_rfl) (by kernel_rfl) rfl (fun _ _ _ h => h) (by rfl) ?ya3 (by assumption) ?ra3
    case ya3 => (intro W hSw; (try dsimp only at hSw); go_simp; try with_reducible rfl)
    try simp only [Act.put, List.setIfInBounds_toArray, List.set_cons_zero, List.set_cons_succ]
    refine ttakeH 4 37 (v := ?va4) rfl (by kernel_rfl) (by kernel_rfl) (by kernel_rfl) rfl (fun _ _ _ h => h) (by rfl) ?ya4 (by assumption) ?ra4
    case ya4 => (intro W hSw; (try dsimp only at hSw); go_simp; try with_reducible rfl)
    try simp only [Act.put, List.setIfInBounds_toArray, List.set_cons_zero, List.set_cons_succ]
    refine wpAnyH_ready (rs := [5]) (by kernel_rfl) (by simp) ?_
    refine AllReadyH.cons (o := _) rfl (fun K hK => ?_) AllReadyH.nil
    dsimp only [List.getElem_toArray, List.getElem_cons_succ, List.getElem_cons_zero]
    go_simp
    refine hK.out _ _ (set5_cell hne m3d _ _ _ _ _) (fun hHeld2 => ?_)
    clear hK K
    try simp only [Act.put, List.setIfInBounds_toArray, List.set_cons_zero, List.set_cons_succ]
    refine ttakeH 6 3 (v := ?va6) rfl (by kernel_rfl) (by kernel_rfl) (by kernel_rfl) rfl (fun _ _ _ h => h) (by rfl) ?ya6 (by assumption) ?ra6
    case ya6 => (intro W hSw; (try dsimp only at hSw); go_simp; try with_reducible rfl)
    try simp only [Act.put, List.setIfInBounds_toArray, List.set_cons_zero, List.set_cons_succ]
    refine ttakeH 7 4 (v := ?va7) rfl (by kernel_rfl) (by kernel_rfl) (by kernel_rfl) rfl (fun _ _ _ h => h) (by rfl) ?ya7 (by assumption) ?ra7
    case ya7 => (intro W hSw; (try dsimp only at hSw); go_simp; try with_reducible rfl)
    try simp only [Act.put, List.setIfInBounds_toArray, List.set_cons_zero, List.set_cons_succ]
    clear hHeld hHeld2 g0 g1 g2 g3 g4 fg0 fg1 fg2 fg3 fg4 m3w m3d tw hne
    refine wpAnyH_done (by kernel_rfl) ?_ _
    go_wp2
    refine bodyPost_ret (v := .tuple #[.agg #[.slice none 0 0, .slice none 0 0, .int .i64 0, .string ⟨#[]⟩, .int .i64 0], .int .i64 81, .int .i64 sq.wrong]) (by simp [results, Tryz.results15, go_sem, r0, r1, r2, r3, r4]) rfl (PaTo.zero ?_)
    exact vbelow_drew (bset5 HB3.out (Nat.le_refl _) _ _ _ _ _)
  · have hw1 := Decidable.not_not.1 hw
    have hr := HRES.out
    rw [if_neg (fun h => h hw1)] at hr
    rw [hw1] at m3'
    have HRT := Lib.hid (right_calls (w := w2.alloc (.cells #[.slice a q c, .slice b r d, .int .i64 qq.within, .string (strB qq.by_), .int .i64 qq.pick] 26)) ⟨KI.out, KP.out⟩ HQ.out.2)
    clear hw hw1 HRES
    cases hz : rightQ qq with
    | false =>
      rw [hz] at HRT hr
      rw [if_neg (by simp)] at hr
      subst hr
      clear KI KP hz
      go_wp2_with (go_at_call 21; (with_reducible refine HRT.out.mono ?_); rintro e w5 ⟨rfl, hb5⟩; have x5 := X4.out.low hb5; have s0 := tcell_of_blk x5 (k := 0) rfl; have s1 := tcell_of_blk x5 (k := 1) rfl; have s2 := tcell_of_blk x5 (k := 2) rfl; have s3 := tcell_of_blk x5 (k := 3) rfl; have s4 := tcell_of_blk x5 (k := 4) rfl; have fs0 := tfrozen_of_blk x5 (k := 0); have fs1 := tfrozen_of_blk x5 (k := 1); have fs2 := tfrozen_of_blk x5 (k := 2); have fs3 := tfrozen_of_blk x5 (k := 3); have fs4 := tfrozen_of_blk x5 (k := 4); have HB5 := Lib.hid (HB3.out.trans (hb5.mono HB3.out.size)); clear hb5 x5)
      refine bodyPost_ret (v := .tuple #[.agg #[.slice none 0 0, .slice none 0 0, .int .i64 0, .string ⟨#[]⟩, .int .i64 0], .int .i64 2, .int .i64 0]) (by simp [results, Tryz.results15, go_sem, s0, s1, s2, s3, s4]) rfl (PaTo.zero ?_)
      exact bset5 HB5.out (Nat.le_refl _) _ _ _ _ _
    | true =>
      rw [hz] at HRT hr
      rw [if_pos rfl] at hr
      subst hr
      clear hz
      go_wp2_with (go_at_call 21; (with_reducible refine HRT.out.mono ?_); rintro e w5 ⟨rfl, hb5⟩; have x5 := X4.out.low hb5; have y5 := (Blk.new w2 #[.slice a q c, .slice b r d, .int .i64 qq.within, .string (strB qq.by_), .int .i64 qq.pick] 26).low hb5; have s0 := tcell_of_blk x5 (k := 0) rfl; have s1 := tcell_of_blk x5 (k := 1) rfl; have s2 := tcell_of_blk x5 (k := 2) rfl; have s3 := tcell_of_blk x5 (k := 3) rfl; have s4 := tcell_of_blk x5 (k := 4) rfl; have fs0 := tfrozen_of_blk x5 (k := 0); have fs1 := tfrozen_of_blk x5 (k := 1); have fs2 := tfrozen_of_blk x5 (k := 2); have fs3 := tfrozen_of_blk x5 (k := 3); have fs4 := tfrozen_of_blk x5 (k := 4); have y0 := tcell_of_blk y5 (k := 0) rfl; have y1 := tcell_of_blk y5 (k := 1) rfl; have y2 := tcell_of_blk y5 (k := 2) rfl; have y3 := tcell_of_blk y5 (k := 3) rfl; have y4 := tcell_of_blk y5 (k := 4) rfl; have HB5 := Lib.hid (HB3.out.trans (hb5.mono HB3.out.size)); have KI5 := Lib.hid (KI.out.low hb5); have KP5 := Lib.hid (KP.out.low hb5); clear hb5 x5 y5)
      refine bodyPost_ret (v := .tuple #[.agg #[.slice a q c, .slice b r d, .int .i64 qq.within, .string (strB qq.by_), .int .i64 qq.pick], .int .i64 0, .int .i64 0]) (by simp [results, Tryz.results15, go_sem, s0, s1, s2, s3, s4]) rfl ⟨a, q, c, b, r, d, rfl, ⟨?_, ?_⟩, bset5 HB5.out (Nat.le_refl _) _ _ _ _ _⟩
      · exact (((((KI5.out.set (b := w.heap.size) HKB.out _ _).set (b := w.heap.size) HKB.out _ _).set (b := w.heap.size) HKB.out _ _).set (b := w.heap.size) HKB.out _ _).set (b := w.heap.size) HKB.out _ _).mono HK.out
      · exact (((((KP5.out.set (b := w.heap.size) HKB.out _ _).set (b := w.heap.size) HKB.out _ _).set (b := w.heap.size) HKB.out _ _).set (b := w.heap.size) HKB.out _ _).set (b := w.heap.size) HKB.out _ _).mono HK.out

end Go.Proofs.YtndmbljpfpnehaaGreatDoor
namespace Go.Proofs
open Go.Shelf
def Tryz.lays156_ren : Go.Shelf.Ren := ⟨fun | 156 => 104 | 165 => 151 | 166 => 152 | 169 => 153 | 240 => 185 | 241 => 186 | 276 => 216 | 277 => 217 | n => n, fun | 31 => 47 | 9 => 9 | 3 => 3 | 4 => 4 | 0 => 0 | 20 => 20 | 72 => 177 | 76 => 179 | 70 => 175 | 37 => 144 | 75 => 109 | 127 => 216 | 164 => 188 | 5 => 5 | 80 => 132 | n => n, fun | n => n⟩
theorem Tryz.lays156 : Go.Proofs.Lays.n156 Tryz.prog Tryz.lays156_ren := {
  mixed := by kernel_rfl
  f156 := Tryz.func104.trans (congrArg some (by kernel_rfl))
  f165 := Tryz.func151.trans (congrArg some (by kernel_rfl))
  f166 := Tryz.func152.trans (congrArg some (by kernel_rfl))
  f169 := Tryz.func153.trans (congrArg some (by kernel_rfl))
  f240 := Tryz.func185.trans (congrArg some (by kernel_rfl))
  f241 := Tryz.func186.trans (congrArg some (by kernel_rfl))
  f276 := Tryz.func216.trans (congrArg some (by kernel_rfl))
  f277 := Tryz.func217.trans (congrArg some (by kernel_rfl))
  t0 := Tryz.underlying0
  a0 := Tryz.isAgg0
  z0 := Tryz.sizeOf0
  v0 := Tryz.zeroValue0
  t3 := Tryz.underlying3
  a3 := Tryz.isAgg3
  z3 := Tryz.sizeOf3
  v3 := Tryz.zeroValue3
  t4 := Tryz.underlying4
  a4 := Tryz.isAgg4
  z4 := Tryz.sizeOf4
  v4 := Tryz.zeroValue4
  t9 := Tryz.underlying9
  a9 := Tryz.isAgg9
  z9 := Tryz.sizeOf9
  v9 := Tryz.zeroValue9
  t20 := Tryz.underlying20
  a20 := Tryz.isAgg20
  z20 := Tryz.sizeOf20
  v20 := Tryz.zeroValue20
  t31 := Tryz.underlying47
  a31 := Tryz.isAgg47
  z31 := Tryz.sizeOf47
  v31 := Tryz.zeroValue47
  t37 := Tryz.underlying144
  a37 := Tryz.isAgg144
  z37 := Tryz.sizeOf144
  v37 := Tryz.zeroValue144
  t70 := Tryz.underlying175
  a70 := Tryz.isAgg175
  z70 := Tryz.sizeOf175
  v70 := Tryz.zeroValue175
  t72 := Tryz.underlying177
  a72 := Tryz.isAgg177
  z72 := Tryz.sizeOf177
  v72 := Tryz.zeroValue177
  t75 := Tryz.underlying109
  a75 := Tryz.isAgg109
  z75 := Tryz.sizeOf109
  v75 := Tryz.zeroValue109
  t76 := Tryz.underlying179
  a76 := Tryz.isAgg179
  z76 := Tryz.sizeOf179
  v76 := Tryz.zeroValue179
  t127 := Tryz.underlying216
  a127 := Tryz.isAgg216
  z127 := Tryz.sizeOf216
  v127 := Tryz.zeroValue216
  t164 := Tryz.underlying188
  a164 := Tryz.isAgg188
  z164 := Tryz.sizeOf188
  v164 := Tryz.zeroValue188 }
end Go.Proofs
namespace Go.Proofs.YtndmbljpfpnehaaGreatDoor
open Go.RowKit Go.Lib Go.Op Go.Shelf

theorem textra : Builder.Extra Tryz.prog Tryz.lays156_ren where
  sizeBuilder := by kernel_rfl
  liesBuilder := by kernel_rfl
  t5 := Tryz.underlying5
  a5 := Tryz.isAgg5
  z5 := Tryz.sizeOf5
  v5 := Tryz.zeroValue5
  infoByte := by kernel_rfl
  cellsByte := by kernel_rfl
  sizeByte := by kernel_rfl
  neB5 := by decide

theorem joinRow_calls {K : Nat → Prop} {w : World} {a : Option Addr} {c : Nat} {l : List (List UInt8)} (h : RowK nameD K w (.slice a l.length c) l) (hne : l ≠ []) (sep : List UInt8) (hlen : (sep.intercalate l).length ≤ 140737488355328) (hl : l.length ≤ 1000000) :
    Calls Tryz.prog 104 #[.slice a l.length c, .string (strB sep)] w fun e w' => e = .returned (.string (strB (sep.intercalate l))) ∧ Below w.heap.size w w' := by
  obtain ⟨b0, hb0⟩ : ∃ b, l[0]? = some b := ⟨_, List.getElem?_eq_getElem (by
    cases l with
    | nil => exact absurd rfl hne
    | cons x r => simp)⟩
  obtain ⟨g, o, rfl, hc0⟩ := h.nameAt hb0
  have hcap := h.cap
  have e1 : (l.map strB).map (·.data.toList) = l := by
    rw [List.map_map]
    exact List.map_id'' (fun x => strB_list x) l
  have e2 : Lib.join ((l.map strB).map (·.data.toList)) (strB sep).data.toList = sep.intercalate l := by
    rw [e1, strB_list]
    rfl
  have hj := Any.strings_Join Tryz.lays156 textra g o c (l.map strB) (strB sep) w (fun j x hx => by
    rw [List.getElem?_map] at hx
    cases hj : l[j]? with
    | none => rw [hj] at hx; cases hx
    | some b =>
      rw [hj] at hx
      injection hx with hx
      obtain ⟨g', o', e, hc⟩ := h.nameAt hj
      injection e with e
      injection e with e3 e4
      subst e3 e4
      rw [← hx]
      exact hc) (World.block_lt_of_cell? _ _ hc0) (by rw [List.length_map]; omega) (by rw [List.length_map]; exact hcap) (by rw [e2]; exact hlen)
  rw [e2, List.length_map] at hj
  exact hj

/-- A value's text. -/
def valTx (v : PVal) : List UInt8 := if v.k = 2 then 39 :: (v.s ++ [39]) else if v.k = 3 then (if v.n = 1 then bTrue else bFalse) else itoa v.n
/-- The text of a number, of some. -/
def atL (l : List (List UInt8)) (k : Int) : List UInt8 := l.getD k.toNat []
def exprTx : Nat → PEx → List UInt8
  | 0, _ => []
  | d + 1, .mk k v x f ks =>
    if k = 1 then valTx v
    else if k = 2 then x ++ 46 :: f
    else if k = 3 then atL callsL k ++ 40 :: (x ++ [41])
    else if k = 4 ∨ k = 5 ∨ k = 6 then atL callsL k ++ 40 :: (x ++ 46 :: (f ++ [41]))
    else match ks with
      | [a, b] => exprTx d a ++ 32 :: (atL sumsL k ++ 32 :: (if b.k = 7 ∨ b.k = 8 then 40 :: (exprTx d b ++ [41]) else exprTx d b))
      | _ => []
def itemTx (i : PIt) : List UInt8 := (if i.no then [110, 111, 116, 32] else []) ++ ([32, 111, 114, 32].intercalate i.ns ++ 32 :: (i.x ++ atL modesL i.mode))
def predTx (p : PPr) : List UInt8 := exprTx 6 p.l ++ 32 :: (atL cmpsL p.cmp ++ 32 :: exprTx 6 p.r)
def printQ (q : PQu) : List UInt8 :=
  if rightQ q then
    [115, 101, 113, 32] ++ ([32, 116, 104, 101, 110, 32].intercalate (q.its.map itemTx) ++ ((if q.prs = [] then [] else [32, 119, 104, 101, 114, 101, 32] ++ [32, 97, 110, 100, 32].intercalate (q.prs.map predTx)) ++
      ([32, 119, 105, 116, 104, 105, 110, 32] ++ (itoa q.within ++ ((if q.by_ = [] then [] else [32, 98, 121, 32] ++ q.by_) ++ ([32, 112, 105, 99, 107, 32] ++ atL picksL q.pick))))))
  else []

end Go.Proofs.YtndmbljpfpnehaaGreatDoor
namespace Go.Proofs.YtndmbljpfpnehaaGreatDoor
open Go.RowKit Go.Lib Go.Op Go.Shelf Go.Sort

/-- The variables that texts are made with. -/
structure PVars (w : World) : Prop where
  tab : TabIs Tryz.prog w "internal/strconv.uint64pow10" .u64 pow10Tab
  t0 : w.cell? ⟨1, 0, none⟩ = some (.string ⟨#[102, 97, 108, 115, 101]⟩)
  t1 : w.cell? ⟨1, 1, none⟩ = some (.string ⟨#[116, 114, 117, 101]⟩)
theorem tgTab : Tryz.prog.globalNamed "internal/strconv.uint64pow10" = some 2 := by kernel_rfl
theorem PVars.below {w w' : World} (h : PVars w) (hb : Below w.heap.size w w') : PVars w' := ⟨by
  have ht := h.tab
  unfold TabIs at ht ⊢
  exact xvar_keep hb tgTab ht, tkeep hb h.t0, tkeep hb h.t1⟩
theorem tgrow_below {w w' : World} (h : ∃ k os, w' = grow (w.drewN k) os) : Below w.heap.size w w' := by
  obtain ⟨k, os, rfl⟩ := h
  exact below_grow _ w (Nat.le_refl _) k os

set_option maxHeartbeats 1000000 in
set_option maxRecDepth 100000 in
theorem valText_calls {w : World} (hv : PVars w) (v : PVal) (hr : rightB v = true) : Calls Tryz.prog 154 #[.agg #[.int .i64 v.k, .int .i64 v.n, .string (strB v.s)]] w fun e w' => e = .returned (.string (strB (valTx v))) ∧ Below w.heap.size w w' := by
  have hb0 := (Below.refl w.heap.size w).alloc (Nat.le_refl _) (.cells #[.int .i64 v.k, .int .i64 v.n, .string (strB v.s)] 35)
  have HB0 := Lib.hid hb0
  obtain ⟨k, n, s⟩ := v
  rcases rightB_kind hr with hk | hk | hk
  · dsimp only at hk
    subst hk
    have hn : -1099511627776 ≤ n ∧ n ≤ 1099511627776 := by
      unfold rightB at hr
      simp only [if_true, decide_eq_true_eq] at hr
      exact ⟨hr.1, hr.2.1⟩
    have HF := Lib.hid (Tryz.strconv_FormatInt_10 n (by omega) (by omega) _ (hv.below hb0).tab)
    have e1 : valTx ⟨1, n, s⟩ = itoa n := rfl
    rw [e1]
    clear hv hr hb0 e1 hn
    go_enter Tryz.func154, Tryz.ntmps154
    go_wp2_with (go_at_call 51; (with_reducible refine HF.out.mono ?_); rintro e w1 ⟨rfl, hb1⟩; have HB1 := Lib.hid (HB0.out.trans ((tgrow_below hb1).mono HB0.out.size)); clear hb1)
    go_ret
    exact ⟨rfl, HB1.out⟩
  · dsimp only at hk
    subst hk
    have hs : s.length ≤ 64 := by
      unfold rightB at hr
      rw [if_neg (by simp), if_pos rfl, decide_eq_true_eq] at hr
      exact hr.2
    have hsz : (strB s).size ≤ 64 := by rw [strB_size]; exact hs
    have he : (⟨#[39]⟩ : ByteArray) ++ strB s ++ ⟨#[39]⟩ = strB (valTx ⟨2, n, s⟩) := by
      show strB [39] ++ strB s ++ strB [39] = strB (39 :: (s ++ [39]))
      apply ByteArray.ext
      apply Array.ext'
      simp [strB]
    have HE := Lib.hid he
    have hc1 : (⟨#[39]⟩ : ByteArray).size = 1 := rfl
    clear hv hr hb0 hs he
    go_enter Tryz.func154, Tryz.ntmps154
    go_wp2
    go_ret
    exact ⟨by rw [← HE.out]; rfl, HB0.out⟩
  · dsimp only at hk
    subst hk
    have hn : n = 0 ∨ n = 1 := by
      unfold rightB at hr
      rw [if_neg (by simp), if_neg (by simp), if_pos rfl, decide_eq_true_eq] at hr
      dsimp only at hr
      omega
    have hv0 := (hv.below hb0)
    have t0 := hv0.t0
    have t1 := hv0.t1
    clear hv hr hb0 hv0
    rcases hn with rfl | rfl
    · go_enter Tryz.func154, Tryz.ntmps154
      go_wp2
      go_ret
      exact ⟨rfl, HB0.out⟩
    · go_enter Tryz.func154, Tryz.ntmps154
      go_wp2
      go_ret
      exact ⟨rfl, HB0.out⟩

end Go.Proofs.YtndmbljpfpnehaaGreatDoor

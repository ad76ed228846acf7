/- The statement EventTells, its walk. -/
import Derived.Test.YtppgecbjdkfohaaEDf
import Derived.Test.YtppgecbjdkfohaaEEf
import Derived.Test.YtppgecbjdkfohaaEOe
import Derived.Test.YtppgecbjdkfohaaEYe
namespace Go.Proofs.Ytppgecbjdkfohaa
open Go.RowKit Go.Lib Go.Op

/-- What a call that tells something leaves. -/
def ValQ (v : Value) (P : World → Prop) (W : World) (e : Ending) (w' : World) : Prop := e = .returned v ∧ Hid (P w') ∧ Below W.heap.size W w'
def ByQ (W : World) (bs : List UInt8) (P : World → Prop) (e : Ending) (w' : World) : Prop := ∃ v, e = .returned v ∧ Hid (BRow w' v bs) ∧ (convert 40 9 v).run Try.prog w' = .ok (.string (strB bs)) w' ∧ Hid (P w') ∧ Hid (∀ u us, BRow W u us → BRow w' u us)

theorem putPost_by {w W : World} {L : List (Nat × Nat × Value)} {bs : List UInt8} (hW : Hid (CL w L W)) {e : Ending} {w' : World} (h : PutPost W bs e w') : ByQ W bs (CL w L) e w' := by
  obtain ⟨v, h1, h2, h3⟩ := h
  have h4 := BRow.of_owns h2
  exact ⟨v, h1, h4, conv_brow h4, hW.out.below h3, fun u us hu => hu.below h3⟩

section
variable {w w' W : World} {L : List (Nat × Nat × Value)} {X M1 M2 : Nat} {t d s : Int} {n rn : ByteArray} {v f1 f2 : Value}
theorem E0.start : Hid (CL w (eC w.heap.size t d s n v) (w.alloc (.cells #[.int .i64 t, .int .i64 d, .int .i64 s, .string n, v] 25))) :=
  ⟨fun b i u hm => by
    simp only [eC, List.mem_cons, Prod.mk.injEq, List.not_mem_nil, or_false] at hm
    rcases hm with ⟨rfl, rfl, rfl⟩ | ⟨rfl, rfl, rfl⟩ | ⟨rfl, rfl, rfl⟩ | ⟨rfl, rfl, rfl⟩ | ⟨rfl, rfl, rfl⟩ <;> exact new_cell _ _ _ rfl rfl, (Below.refl _ _).alloc (Nat.le_refl _) _⟩
theorem CL.boxS (h : Hid (CL w L W)) (n : ByteArray) (f : Value) : Hid (CL w (L ++ sC W.heap.size n f) (W.alloc (.cells #[.string n, f] 31))) :=
  CL.append (CL.alloc _ h) fun b i u hm => by
    simp only [sC, List.mem_cons, Prod.mk.injEq, List.not_mem_nil, or_false] at hm
    rcases hm with ⟨rfl, rfl, rfl⟩ | ⟨rfl, rfl, rfl⟩ <;> exact new_cell _ _ _ rfl rfl
theorem ET.conj (h : Hid (CL w' ((eC X t d s n v ++ sC M1 rn f1) ++ sC M2 rn f2) W)) :
    W.cell? ⟨X, 0, none⟩ = some (.int .i64 t) ∧ W.cell? ⟨X, 1, none⟩ = some (.int .i64 d) ∧ W.cell? ⟨X, 2, none⟩ = some (.int .i64 s) ∧ W.cell? ⟨X, 3, none⟩ = some (.string n) ∧ W.cell? ⟨X, 4, none⟩ = some v ∧
    W.cell? ⟨M1, 0, none⟩ = some (.string rn) ∧ W.cell? ⟨M1, 1, none⟩ = some f1 ∧ W.cell? ⟨M2, 0, none⟩ = some (.string rn) ∧ W.cell? ⟨M2, 1, none⟩ = some f2 ∧ Hid (CL w' ((eC X t d s n v ++ sC M1 rn f1) ++ sC M2 rn f2) W) := by
  refine ⟨h.out.cs _ _ _ ?_, h.out.cs _ _ _ ?_, h.out.cs _ _ _ ?_, h.out.cs _ _ _ ?_, h.out.cs _ _ _ ?_, h.out.cs _ _ _ ?_, h.out.cs _ _ _ ?_, h.out.cs _ _ _ ?_, h.out.cs _ _ _ ?_, h⟩ <;> simp [eC, sC]
end

theorem GreatP.q {w W : World} {L : List (Nat × Nat × Value)} (hW : Hid (CL w L W)) {e : Ending} {w' : World} (h : GreatP W e w') : GreatQ (CL w L) e w' := by
  obtain ⟨g, h1, h2⟩ := h
  exact ⟨g, h1, hW.out.below h2⟩

set_option maxHeartbeats 8000000 in
set_option maxRecDepth 100000 in
theorem etells_walk (w : World) (sa : Option Addr) (sc : Nat) (xs : List SIn) (hs : SRow w sa xs) (hsl : xs.length ≤ maxLen) (hsb : ∀ x ∈ xs, x.fs.length * 24 ≤ 140737488355328) (t d s : Int) (n : ByteArray) (a : Option Addr) (c : Nat) (vs : List VIn) (hn : n.size ≤ maxLen) (hv : VRow w a vs) (hl : vs.length ≤ maxLen) (name : ByteArray) (hnm : name.size ≤ maxLen) :
    Calls Try.prog 3 #[.slice sa xs.length sc, evV t d s n (.slice a vs.length c), .string name] w (EFine w) := by
  have HGS : Hid (∀ W, Hid (CL w (eC w.heap.size t d s n (.slice a vs.length c)) W) → Calls Try.prog 15 #[.slice sa xs.length sc] W (GreatQ (CL w (eC w.heap.size t d s n (.slice a vs.length c))))) := fun W hW =>
    (greatS_calls sa sc xs W (hs.below hW.out.hb) hsl).mono fun e w' h => GreatP.q hW h
  have HGE : Hid (∀ W, Hid (CL w (eC w.heap.size t d s n (.slice a vs.length c)) W) → Calls Try.prog 16 #[evV t d s n (.slice a vs.length c)] W (GreatQ (CL w (eC w.heap.size t d s n (.slice a vs.length c))))) := fun W hW =>
    (greatE_calls t d s n a c vs W hn (hv.below hW.out.hb) hl).mono fun e w' h => GreatP.q hW h
  have HF1 := Lib.hid (fun W (hW : Below w.heap.size w W) => find_calls sa sc xs name W (hs.below hW) hsl hsb)
  have HF2 := Lib.hid (fun W (hW : Below w.heap.size w W) => rfind_calls sa sc xs name W (hs.below hW) hsl)
  have HFt := Lib.hid (fun W (hW : Below w.heap.size w W) => fits_calls sa sc xs t d s n a c vs W (hs.below hW) hsl hn (hv.below hW) hl)
  have HRt := Lib.hid (fun W (hW : Below w.heap.size w W) => rfits_calls sa sc xs t d s n a c vs W (hs.below hW) hsl hn (hv.below hW) hl)
  have HPt := Lib.hid (fun W (hW : Below w.heap.size w W) => eput_calls t d s n a c vs W hn (hv.below hW) hl)
  have HRp := Lib.hid (fun W (hW : Below w.heap.size w W) => reput_calls t d s n a c vs W hn (hv.below hW) hl)
  have HW1 := Lib.hid (fun W => word_calls name W hnm)
  have HW2 := Lib.hid (fun W => rword_calls name W hnm)
  have HS0 := E0.start (w := w) (t := t) (d := d) (s := s) (n := n) (v := .slice a vs.length c)
  have HS := Lib.hid hs
  have hsb9 : ∀ x, findS xs name = some x → x.fs.length * 24 ≤ 140737488355328 := fun x hx => by
    unfold findS at hx
    cases hk : xs.findIdx? (fun x => nameIs name x.name) with
    | none => rw [hk] at hx; cases hx
    | some k => rw [hk] at hx; exact hsb x (List.mem_of_getElem? hx)
  obtain ⟨l, hll⟩ : ∃ l, vs.length = l := ⟨_, rfl⟩
  obtain ⟨m, hmm⟩ : ∃ m, xs.length = m := ⟨_, rfl⟩
  have Hm := Lib.hid hmm
  rw [hll] at HGE HGS HFt HRt HPt HRp HS0 ⊢
  rw [hmm] at HGS HF1 HF2 HFt HRt hsl ⊢
  unfold maxLen at hsl
  clear hs hsb hn hv hl hll hmm hnm
  go_enter Try.func3, Try.ntmps3
  go_wp2_with fail
  refine (ehead_calls _).mono ?_
  rintro _ w1 ⟨rfl, hb1⟩
  have HH := Lib.hid (HS0.out.below hb1)
  obtain ⟨p0, p1, p2, p3, p4⟩ := eC.conj HH fun _ hq => hq
  clear hb1 HS0
  go_wp2_with fail
  refine (HGS.out _ HH).mono ?_
  clear HH p0 p1 p2 p3 p4
  rintro _ w2 ⟨g, rfl, HH⟩
  obtain ⟨p0, p1, p2, p3, p4⟩ := eC.conj HH fun _ hq => hq
  cases g with
  | true =>
    go_wp2
    go_ret
    exact ⟨rfl, HH.out.hb⟩
  | false =>
  go_wp2_with fail
  refine (HGE.out _ HH).mono ?_
  clear HH p0 p1 p2 p3 p4
  rintro _ w3 ⟨g, rfl, HH⟩
  cases g with
  | true =>
    go_wp2
    go_ret
    exact ⟨rfl, HH.out.hb⟩
  | false =>
  by_cases h3 : 3000 < name.size
  · go_wp2
    go_ret
    exact ⟨rfl, HH.out.hb⟩
  clear HGS HGE
  go_wp2_with fail
  refine (HF1.out _ HH.out.hb).mono ?_
  rintro _ w4 ⟨rn, ra, rc, rf, rfl, hrn, hrf, hfr, hb4⟩
  have HH := CL.boxS (Lib.hid (HH.out.below hb4)) rn (.slice ra rf.length rc)
  have HFa := Lib.hid (hfr.below ((Below.refl w4.heap.size w4).alloc (Nat.le_refl _) (.cells #[.string rn, .slice ra rf.length rc] 31)))
  obtain ⟨rl, hrl⟩ : ∃ rl, rf.length = rl := ⟨_, rfl⟩
  have Hrl := Lib.hid hrl
  have Hrn := Lib.hid hrn
  have Hrf := Lib.hid hrf
  have HRl : Hid (rf.length ≤ maxLen) := by
    show _ ≤ _
    rw [hrf]
    cases hfs : findS xs name with
    | none => exact Nat.zero_le _
    | some x =>
      have h9 := hsb9 x hfs
      show x.fs.length ≤ maxLen
      unfold maxLen
      omega
  rw [hrl] at HH HFa ⊢
  clear hb4 hfr hrl hrn hrf HF1 hsb9
  go_wp2_with fail
  refine (HF2.out _ HH.out.hb).mono ?_
  rintro _ w5 ⟨rn', rb, rd, rf', rfl, hrn', hrf', hfr', hb5⟩
  obtain rfl : rn' = rn := hrn'.trans Hrn.out.symm
  obtain rfl : rf' = rf := hrf'.trans Hrf.out.symm
  have HFa := Lib.hid (HFa.out.below hb5)
  have HH := CL.boxS (Lib.hid (HH.out.below hb5)) rn' (.slice rb rf'.length rd)
  have hbx : Below w5.heap.size w5 (w5.alloc (.cells #[.string rn', .slice rb rf'.length rd] 31)) := (Below.refl _ _).alloc (Nat.le_refl _) _
  have HFa := Lib.hid (HFa.out.below hbx)
  have HFb := Lib.hid (hfr'.below hbx)
  rw [Hrl.out] at HH HFa HFb ⊢
  clear hb5 hfr' hrn' hrf' Hrn Hrf hbx HF2
  go_wp2_with fail
  generalize w4.heap.size = M1 at *
  generalize w5.heap.size = M2 at *
  generalize w5.alloc (.cells #[.string rn', .slice rb rl rd] 31) = Wb at *
  have HBb : Hid (Below w.heap.size w Wb) := HH.out.hb
  have HC0 : Hid (CL Wb ((eC w.heap.size t d s n (.slice a l c) ++ sC M1 rn' (.slice ra rl rc)) ++ sC M2 rn' (.slice rb rl rd)) Wb) := ⟨HH.out.cs, Below.refl _ _⟩
  clear HH
  go_loopw [12, 13, 14, 15, 16] (fun i x1 x2 x3 x4 wr => ∃ k : Nat, i = .int .i64 k ∧ k ≤ m ∧ Hid (CL Wb ((eC w.heap.size t d s n (.slice a l c) ++ sC M1 rn' (.slice ra rl rc)) ++ sC M2 rn' (.slice rb rl rd)) wr)) (fun i _ _ _ _ _ => m - (intOf i).toNat)
  case atStart => exact ⟨0, rfl, Nat.zero_le _, HC0⟩
  case round =>
  obtain ⟨k, rfl, hk, HR⟩ := hrel
  have HBr : Hid (Below w.heap.size w wr) := HBb.out.trans (HR.out.hb.mono HBb.out.size)
  by_cases hlt : k < m
  · obtain ⟨x, hx⟩ : ∃ x, xs[k]? = some x := ⟨_, List.getElem?_eq_getElem (by rw [Hm.out]; exact hlt)⟩
    obtain ⟨A, rfl, c0, c1, hfr, hfl, hns⟩ := (HS.out.below HBr.out) k x hx
    obtain ⟨xn, fa, fc, fs⟩ := x
    dsimp only at c0 c1 hfr hfl hns
    unfold efld at c1
    have HFr := Lib.hid hfr
    have hk0 : (0 : Int) ≤ (k : Int) := by omega
    have hk1 : (k : Int) < (m : Int) := by omega
    obtain ⟨⟨i1, i2⟩, hi⟩ : ∃ z, fieldI fs name = z := ⟨_, rfl⟩
    obtain ⟨sb, hsb⟩ : ∃ z, schemaB xn fs = z := ⟨_, rfl⟩
    have HFi := Lib.hid (fun W (hW : Below wr.heap.size wr W) => field_calls xn fa fc fs name W (hfr.below hW) hfl)
    have HFr2 := Lib.hid (fun W (hW : Below wr.heap.size wr W) => rfield_calls xn fa fc fs name W (hfr.below hW) hfl)
    have HSc := Lib.hid (fun W (hW : Below wr.heap.size wr W) => schema_calls xn fa fc fs W hns (hfr.below hW) hfl)
    have HSr := Lib.hid (fun W (hW : Below wr.heap.size wr W) => rschema_calls xn fa fc fs W hns (hfr.below hW) hfl)
    rw [hi] at HFi HFr2
    rw [hsb] at HSc HSr
    obtain ⟨f, hff⟩ : ∃ f, fs.length = f := ⟨_, rfl⟩
    rw [hff] at HFi HFr2 HSc HSr c1
    clear hx hfr hi hsb hff hfl hns HFr HFt HRt HPt HRp HW1 HW2 HFa HFb HC0
    have HC0 := Lib.hid c0
    have HC1 := Lib.hid c1
    go_wp2_with (go_at_call 19; (with_reducible refine (HFi.out _ (Below.refl _ _)).mono ?_); rintro e w6 ⟨rfl, hb6⟩; have c0' := ekeep hb6 c0; have c1' := ekeep hb6 c1; have HR6 := Lib.hid (HR.out.below hb6); have HB6 := Lib.hid hb6; clear hb6)
    refine (HFr2.out _ HB6.out).mono ?_
    rintro _ w7 ⟨rfl, hb7⟩
    have d0 := ekeep hb7 c0'
    have d1 := ekeep hb7 c1'
    have HR7 := Lib.hid (HR6.out.below hb7)
    have HB7 := Lib.hid (HB6.out.trans (hb7.mono HB6.out.size))
    clear hb7 c0 c1 c0' c1' HR HR6 HB6 HFi HFr2 HC0 HC1
    go_upto_region 11 with fail
    have HBd : Hid (Below wr.heap.size wr w7.drew) := vbelow_drew HB7.out
    have HRd := CL.drew HR7
    have g0 : w7.drew.cell? (A.add (k * 2)) = some (.string xn) := d0
    have g1 : w7.drew.cell? ⟨(A.add (k * 2)).block, (A.add (k * 2)).off + 1, none⟩ = some (.slice fa f fc) := d1
    have HSc' : Hid (∀ W, Hid (Below wr.heap.size wr W) → Hid (CL Wb ((eC w.heap.size t d s n (.slice a l c) ++ sC M1 rn' (.slice ra rl rc)) ++ sC M2 rn' (.slice rb rl rd)) W) → Calls Try.prog 21 #[.agg #[.string xn, .slice fa f fc]] W (ValQ (.bool sb) (fun W' => CL Wb ((eC w.heap.size t d s n (.slice a l c) ++ sC M1 rn' (.slice ra rl rc)) ++ sC M2 rn' (.slice rb rl rd)) W' ∧ Below wr.heap.size wr W') W)) := fun W hW hC => (HSc.out W hW.out).mono fun e w' ⟨e1, h2⟩ => ⟨e1, ⟨hC.out.below h2, hW.out.trans (h2.mono hW.out.size)⟩, h2⟩
    have HSr' : Hid (∀ W, Hid (Below wr.heap.size wr W) → Hid (CL Wb ((eC w.heap.size t d s n (.slice a l c) ++ sC M1 rn' (.slice ra rl rc)) ++ sC M2 rn' (.slice rb rl rd)) W) → Calls Try.prog 22 #[.agg #[.string xn, .slice fa f fc]] W (ValQ (.bool sb) (fun W' => CL Wb ((eC w.heap.size t d s n (.slice a l c) ++ sC M1 rn' (.slice ra rl rc)) ++ sC M2 rn' (.slice rb rl rd)) W' ∧ Below wr.heap.size wr W') W)) := fun W hW hC => (HSr.out W hW.out).mono fun e w' ⟨e1, h2⟩ => ⟨e1, ⟨hC.out.below h2, hW.out.trans (h2.mono hW.out.size)⟩, h2⟩
    clear HSc HSr d0 d1 HR7 HB7 HS
    cases sb
    all_goals
      go_region_held3 (fun W => W.cell? (A.add (k * 2)) = some (.string xn) ∧ W.cell? ⟨(A.add (k * 2)).block, (A.add (k * 2)).off + 1, none⟩ = some (.slice fa f fc) ∧ Hid (Below wr.heap.size wr W) ∧ Hid (CL Wb ((eC w.heap.size t d s n (.slice a l c) ++ sC M1 rn' (.slice ra rl rc)) ++ sC M2 rn' (.slice rb rl rd)) W))
        (((try go_split_ands); (refine ⟨?_, ?_, ?_, ?_⟩ <;> with_reducible assumption)))
        (first
          | (go_at_call 21; (with_reducible refine (HSc'.out _ ?_ ?_).mono ?_); (go_split_ands; with_reducible assumption); (go_split_ands; with_reducible assumption); rintro e w8 ⟨rfl, HQ8, hb8⟩; go_split_ands; (have y0 : w8.cell? (A.add (k * 2)) = some (.string xn) := ekeep hb8 (by assumption)); (have y1 : w8.cell? ⟨(A.add (k * 2)).block, (A.add (k * 2)).off + 1, none⟩ = some (.slice fa f fc) := ekeep hb8 (by assumption)); (have HR8 : Hid (CL Wb ((eC w.heap.size t d s n (.slice a l c) ++ sC M1 rn' (.slice ra rl rc)) ++ sC M2 rn' (.slice rb rl rd)) w8) := HQ8.out.1); (have HB8 : Hid (Below wr.heap.size wr w8) := HQ8.out.2); clear hb8 HQ8)
          | (go_at_call 22; (with_reducible refine (HSr'.out _ ?_ ?_).mono ?_); (go_split_ands; with_reducible assumption); (go_split_ands; with_reducible assumption); rintro e w9 ⟨rfl, HQ9, hb9⟩; go_split_ands; (have z0 : w9.cell? (A.add (k * 2)) = some (.string xn) := ekeep hb9 (by assumption)); (have z1 : w9.cell? ⟨(A.add (k * 2)).block, (A.add (k * 2)).off + 1, none⟩ = some (.slice fa f fc) := ekeep hb9 (by assumption)); (have HR9 : Hid (CL Wb ((eC w.heap.size t d s n (.slice a l c) ++ sC M1 rn' (.slice ra rl rc)) ++ sC M2 rn' (.slice rb rl rd)) w9) := HQ9.out.1); (have HB9 : Hid (Below wr.heap.size wr w9) := HQ9.out.2); clear hb9 HQ9))
      all_goals
        go_wp2
        go_roundw
        case rel => first | exact ⟨k + 1, by go_num, by omega, HR9⟩ | exact ⟨k + 1, by go_num, by omega, HR8⟩
        case measure => simp [intOf]; omega
  · obtain rfl : k = m := by omega
    go_upto_region 13 with fail
    obtain ⟨z, hz⟩ : ∃ z, (if rightE (pe t d s n vs) then fitsI xs n vs else 1) = z := ⟨_, rfl⟩
    obtain ⟨bs, hbs⟩ : ∃ z, putE (pe t d s n vs) = z := ⟨_, rfl⟩
    obtain ⟨wb, hwb⟩ : ∃ z, wordB name.data.toList = z := ⟨_, rfl⟩
    have HSm : Hid (∀ W, Hid (CL Wb ((eC w.heap.size t d s n (.slice a l c) ++ sC M1 rn' (.slice ra rl rc)) ++ sC M2 rn' (.slice rb rl rd)) W) → Calls Try.prog 23 #[.agg #[.string rn', .slice ra rl rc], .agg #[.string rn', .slice rb rl rd]] W (BoolQ true (CL Wb ((eC w.heap.size t d s n (.slice a l c) ++ sC M1 rn' (.slice ra rl rc)) ++ sC M2 rn' (.slice rb rl rd))))) := fun W hW => by
      have h := sameS_calls rn' ra rc rb rd rf' W (HFa.out.below hW.out.hb) (HFb.out.below hW.out.hb) HRl.out
      rw [Hrl.out] at h
      exact h.mono fun e w' ⟨e1, h2⟩ => ⟨e1, hW.out.below h2⟩
    have HF1 : Hid (∀ W, Hid (CL Wb ((eC w.heap.size t d s n (.slice a l c) ++ sC M1 rn' (.slice ra rl rc)) ++ sC M2 rn' (.slice rb rl rd)) W) → Calls Try.prog 24 #[.slice sa k sc, evV t d s n (.slice a l c)] W (FitQ z (CL Wb ((eC w.heap.size t d s n (.slice a l c) ++ sC M1 rn' (.slice ra rl rc)) ++ sC M2 rn' (.slice rb rl rd))))) := fun W hW => by
      have h := HFt.out W (HBb.out.trans (hW.out.hb.mono HBb.out.size))
      rw [hz] at h
      exact h.mono fun e w' ⟨e1, h2⟩ => ⟨e1, hW.out.below h2⟩
    have HF2 : Hid (∀ W, Hid (CL Wb ((eC w.heap.size t d s n (.slice a l c) ++ sC M1 rn' (.slice ra rl rc)) ++ sC M2 rn' (.slice rb rl rd)) W) → Calls Try.prog 25 #[.slice sa k sc, evV t d s n (.slice a l c)] W (FitQ z (CL Wb ((eC w.heap.size t d s n (.slice a l c) ++ sC M1 rn' (.slice ra rl rc)) ++ sC M2 rn' (.slice rb rl rd))))) := fun W hW => by
      have h := HRt.out W (HBb.out.trans (hW.out.hb.mono HBb.out.size))
      rw [hz] at h
      exact h.mono fun e w' ⟨e1, h2⟩ => ⟨e1, hW.out.below h2⟩
    have HP1 : Hid (∀ W, Hid (CL Wb ((eC w.heap.size t d s n (.slice a l c) ++ sC M1 rn' (.slice ra rl rc)) ++ sC M2 rn' (.slice rb rl rd)) W) → Calls Try.prog 26 #[evV t d s n (.slice a l c)] W (ByQ W bs (CL Wb ((eC w.heap.size t d s n (.slice a l c) ++ sC M1 rn' (.slice ra rl rc)) ++ sC M2 rn' (.slice rb rl rd))))) := fun W hW => by
      have h := HPt.out W (HBb.out.trans (hW.out.hb.mono HBb.out.size))
      rw [hbs] at h
      exact h.mono fun e w' h => putPost_by hW h
    have HP2 : Hid (∀ W, Hid (CL Wb ((eC w.heap.size t d s n (.slice a l c) ++ sC M1 rn' (.slice ra rl rc)) ++ sC M2 rn' (.slice rb rl rd)) W) → Calls Try.prog 27 #[evV t d s n (.slice a l c)] W (ByQ W bs (CL Wb ((eC w.heap.size t d s n (.slice a l c) ++ sC M1 rn' (.slice ra rl rc)) ++ sC M2 rn' (.slice rb rl rd))))) := fun W hW => by
      have h := HRp.out W (HBb.out.trans (hW.out.hb.mono HBb.out.size))
      rw [hbs] at h
      exact h.mono fun e w' h => putPost_by hW h
    have HWa : Hid (∀ W, Hid (CL Wb ((eC w.heap.size t d s n (.slice a l c) ++ sC M1 rn' (.slice ra rl rc)) ++ sC M2 rn' (.slice rb rl rd)) W) → Calls Try.prog 28 #[.string name] W (BoolQ wb (CL Wb ((eC w.heap.size t d s n (.slice a l c) ++ sC M1 rn' (.slice ra rl rc)) ++ sC M2 rn' (.slice rb rl rd))))) := fun W hW => by
      have h := HW1.out W
      rw [hwb] at h
      exact h.mono fun e w' ⟨e1, h2⟩ => ⟨e1, hW.out.below h2⟩
    have HWb : Hid (∀ W, Hid (CL Wb ((eC w.heap.size t d s n (.slice a l c) ++ sC M1 rn' (.slice ra rl rc)) ++ sC M2 rn' (.slice rb rl rd)) W) → Calls Try.prog 29 #[.string name] W (BoolQ wb (CL Wb ((eC w.heap.size t d s n (.slice a l c) ++ sC M1 rn' (.slice ra rl rc)) ++ sC M2 rn' (.slice rb rl rd))))) := fun W hW => by
      have h := HW2.out W
      rw [hwb] at h
      exact h.mono fun e w' ⟨e1, h2⟩ => ⟨e1, by rw [← h2]; exact hW⟩
    obtain ⟨g0, g1, g2, g3, g4, g5, g6, g7, g8, _⟩ := ET.conj (CL.drew HR)
    generalize (findS xs name).isSome = fs1 at *
    clear hz hbs hwb HFt HRt HPt HRp HW1 HW2 HFa HFb HS HC0 HBr HR Hm hk hlt
    go_region_held (fun W => W.cell? ⟨w.heap.size, 0, none⟩ = some (.int .i64 t) ∧ W.cell? ⟨w.heap.size, 1, none⟩ = some (.int .i64 d) ∧ W.cell? ⟨w.heap.size, 2, none⟩ = some (.int .i64 s) ∧ W.cell? ⟨w.heap.size, 3, none⟩ = some (.string n) ∧ W.cell? ⟨w.heap.size, 4, none⟩ = some (.slice a l c) ∧ W.cell? ⟨M1, 0, none⟩ = some (.string rn') ∧ W.cell? ⟨M1, 1, none⟩ = some (.slice ra rl rc) ∧ W.cell? ⟨M2, 0, none⟩ = some (.string rn') ∧ W.cell? ⟨M2, 1, none⟩ = some (.slice rb rl rd) ∧ Hid (CL Wb ((eC w.heap.size t d s n (.slice a l c) ++ sC M1 rn' (.slice ra rl rc)) ++ sC M2 rn' (.slice rb rl rd)) W))
      (((try go_split_ands); (with_reducible refine ET.conj ?_); with_reducible assumption))
      (first
        | (go_at_call 23; (with_reducible refine (HSm.out _ ?_).mono ?_); (go_split_ands; with_reducible assumption); rintro e w10 ⟨rfl, HC10⟩)
        | (go_at_call 24; (with_reducible refine (HF1.out _ ?_).mono ?_); (go_split_ands; with_reducible assumption); rintro e w11 ⟨rfl, HC11⟩)
        | (go_at_call 25; (with_reducible refine (HF2.out _ ?_).mono ?_); (go_split_ands; with_reducible assumption); rintro e w12 ⟨rfl, HC12⟩)
        | (go_at_call 26; (with_reducible refine (HP1.out _ ?_).mono ?_); (go_split_ands; with_reducible assumption); rintro e wA ⟨vA, rfl, HRA, hcA, HCA, HFA⟩; (try (have hcB2 := conv_brow (HFA.out _ _ HRB.out))))
        | (go_at_call 27; (with_reducible refine (HP2.out _ ?_).mono ?_); (go_split_ands; with_reducible assumption); rintro e wB ⟨vB, rfl, HRB, hcB, HCB, HFB⟩; (try (have hcA2 := conv_brow (HFB.out _ _ HRA.out))))
        | (go_at_call 28; (with_reducible refine (HWa.out _ ?_).mono ?_); (go_split_ands; with_reducible assumption); rintro e w13 ⟨rfl, HC13⟩)
        | (go_at_call 29; (with_reducible refine (HWb.out _ ?_).mono ?_); (go_split_ands; with_reducible assumption); rintro e w14 ⟨rfl, HC14⟩))
    all_goals
      go_wp2
      go_ret
      first
        | exact ⟨rfl, HBb.out.trans (HC14.out.hb.mono HBb.out.size)⟩
        | exact ⟨rfl, HBb.out.trans (HC13.out.hb.mono HBb.out.size)⟩

end Go.Proofs.Ytppgecbjdkfohaa

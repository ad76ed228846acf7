/- Queries: predicates, one behind the other. | Queries: whole ones. | Queries: what may be a name; names that are unlike. | Queries: which items are right. -/
import Derived.Test.YtifacoompbngaaaGreatDoorM3
import Derived.Deep.DeepCutAuto
import Derived.Test.YtifacoompbngaaaGreatDoorTS
namespace Go.Proofs.YtifacoompbngaaaGreatDoor
open Go.RowKit Go.Lib Go.Op

set_option maxHeartbeats 1000000 in
set_option maxRecDepth 100000 in
theorem rowP_calls {w : World} {R T E : Nat} {s : RS} {one : RS → PPr × RS} {m n : Nat} (hone : ∀ (w : World) (s : RS), RdR w R T E s → DeepOk s → s.l.length ≤ m → Calls Tryz.prog 103 #[.pointer (some ⟨R, 0, none⟩)] w fun e w' => ∃ xa xq xc ya yq yc, e = .returned (.agg #[.int .i64 (one s).1.cmp, .int .i64 (one s).1.l.k, .int .i64 (one s).1.l.v.k, .int .i64 (one s).1.l.v.n, .string (strB (one s).1.l.v.s), .string (strB (one s).1.l.x), .string (strB (one s).1.l.f), .slice xa xq xc, .int .i64 (one s).1.r.k, .int .i64 (one s).1.r.v.k, .int .i64 (one s).1.r.v.n, .string (strB (one s).1.r.v.s), .string (strB (one s).1.r.x), .string (strB (one s).1.r.f), .slice ya yq yc]) ∧ predD.P (· < w.heap.size) w' (.int .i64 (one s).1.cmp :: (exL (one s).1.l (.slice xa xq xc) ++ exL (one s).1.r (.slice ya yq yc))) (one s).1 ∧ RdTo R T E (one s).2 w w')
    (hle : ∀ s, (one s).2.l.length ≤ s.l.length) (hdp : ∀ s, (one s).2.deep = s.deep) (b : List UInt8) (h : RdR w R T E s) (hok : DeepOk s) (hm : s.l.length ≤ m) (hn : s.l.length ≤ n) (h5 : s.l.length ≤ 500) :
    Calls Tryz.prog 102 #[.pointer (some ⟨R, 0, none⟩), .string (strB b), .func (.func 103) #[.pointer (some ⟨R, 0, none⟩)] #[]] w (RowTo predD R T E (row1T E b one n s) w) := by
  have hR := h.lt
  obtain ⟨z, hz⟩ : ∃ z, row1T E b one n s = z := ⟨_, rfl⟩
  rw [hz]
  obtain ⟨⟨y, s1⟩, hys⟩ : ∃ z, one s = z := ⟨_, rfl⟩
  have HO := hone w s h hok hm
  have hl1 := hle s
  have hp1 := hdp s
  rw [hys] at HO hl1 hp1
  dsimp only at HO hl1 hp1
  have HO1 := Lib.hid HO
  have HON := Lib.hid hone
  have hz1 : rowT E b one n [y] s1 = z := by rw [← hz]; unfold row1T; rw [hys]
  have HW := Lib.hid (fun W => word_mark (strB b) W)
  have HX := Lib.hid (And.intro hz1 (And.intro (show s1.l.length ≤ n ∧ s1.l.length ≤ m ∧ [y].length + s1.l.length ≤ 501 from ⟨by omega, by omega, by simp; omega⟩) (hok.le hp1 hl1)))
  clear hone HO hz hz1 hl1 hp1 hys h hok hm hn h5
  go_enter Tryz.func102, Tryz.ntmps102
  go_wp2_with fail
  with_reducible refine HO1.out.mono ?_
  rintro e w1 ⟨xa, xq, xc, ya, yq, yc, rfl, hp, hd1⟩
  have HI : Hid (RowIn predD R T E m 40 b one z w (w1.alloc (.cells #[.int .i64 y.cmp, .int .i64 y.l.k, .int .i64 y.l.v.k, .int .i64 y.l.v.n, .string (strB y.l.v.s), .string (strB y.l.x), .string (strB y.l.f), .slice xa xq xc, .int .i64 y.r.k, .int .i64 y.r.v.k, .int .i64 y.r.v.n, .string (strB y.r.v.s), .string (strB y.r.x), .string (strB y.r.f), .slice ya yq yc] 40)) (.slice (some ⟨w1.heap.size, 0, none⟩) 1 1) n [y] s1) := by
    have hb1 := (Below.refl w1.heap.size w1).alloc (Nat.le_refl _) (.cells #[.int .i64 y.cmp, .int .i64 y.l.k, .int .i64 y.l.v.k, .int .i64 y.l.v.n, .string (strB y.l.v.s), .string (strB y.l.x), .string (strB y.l.f), .slice xa xq xc, .int .i64 y.r.k, .int .i64 y.r.v.k, .int .i64 y.r.v.n, .string (strB y.r.v.s), .string (strB y.r.x), .string (strB y.r.f), .slice ya yq yc] 40)
    refine ⟨OwnP.first hd1.fr.size (heap_alloc_new w1 _) ?_, hd1.then hb1, HX.out.1, HX.out.2.1, HX.out.2.2⟩
    exact predD.ne' hb1 (show predD.P (· < w.heap.size) w1 (.int .i64 y.cmp :: (exL y.l (.slice xa xq xc) ++ exL y.r (.slice ya yq yc))) y from hp)
  clear hd1 HX HO1 hp
  go_wp2
  go_loopw [7] (fun v wr => ∃ (n : Nat) (l : List PPr) (s : RS), Hid (RowIn predD R T E m 40 b one z w wr v n l s)) (fun _ wr => leftN R wr)
  case atStart => exact ⟨n, [y], s1, HI⟩
  case round =>
    clear HI
    obtain ⟨n2, l, s2, HE⟩ := hrel
    have hE := HE.out
    obtain ⟨va, vc, rfl⟩ := hE.own.slice
    have HL := Lib.hid (leftN_is hE.rt.rd)
    go_wp2_with fail
    with_reducible refine (HW.out _).mono ?_
    rintro e w2 ⟨rfl, hb2⟩
    have D2 := Lib.hid (hE.rt.then hb2)
    have O2 := Lib.hid (hE.own.keep (TFr.of_below (K := fun _ => False) hb2) (fun _ h => h.elim))
    have HZ := Lib.hid (And.intro hE.is (And.intro hE.len hE.ok))
    have htk := takeW_calls D2.out.rd b
    have HTK := Lib.hid htk
    clear hb2 hE HE htk
    cases hp : isT E s2 1 b with
    | false =>
      have hz := HZ.out.1
      rw [rowT_end hp] at hz
      subst hz
      rw [hp, takeT_no hp] at HTK
      clear hp HZ
      go_wp2_with fail
      with_reducible refine HTK.out.mono ?_
      rintro e w3 ⟨rfl, hd3⟩
      have D3 := Lib.hid (D2.out.trans hd3)
      have O3 := Lib.hid (O2.out.keep hd3.fr (fun k e => by omega))
      clear hd3 D2 O2
      go_wp2
      go_ret
      exact ⟨_, rfl, O3.out.row, D3.out⟩
    | true =>
      obtain ⟨n3, rfl⟩ : ∃ n3, n2 = n3 + 1 := by
        have h1 := takeT_lt hp (by decide)
        have h2 := HZ.out.2.1.1
        exact ⟨n2 - 1, by omega⟩
      have hlt := takeT_lt hp (by decide)
      obtain ⟨s3, hs3⟩ : ∃ s3, (takeT E s2 1 b).2 = s3 := ⟨_, rfl⟩
      have hdp3 := takeT_deep (E := E) (s := s2) 1 b
      rw [hs3] at hlt hdp3
      obtain ⟨⟨y2, s4⟩, hys⟩ : ∃ z, one s3 = z := ⟨_, rfl⟩
      have hok3 : DeepOk s3 := HZ.out.2.2.le hdp3 (Nat.le_of_lt hlt)
      have hle4 := hle s3
      have hdp4 := hdp s3
      have his := HZ.out.1
      rw [rowT_more hp, hs3, hys] at his
      rw [hp, hs3] at HTK
      rw [hys] at hle4 hdp4
      dsimp only at hle4 hdp4 his
      have HN := Lib.hid (And.intro his (And.intro (show s4.l.length ≤ n3 ∧ s4.l.length ≤ m ∧ (l ++ [y2]).length + s4.l.length ≤ 501 by have := HZ.out.2.1; rw [List.length_append]; simp; omega) (hok3.le hdp4 hle4)))
      have HLT := Lib.hid (And.intro (show s4.l.length < s2.l.length by omega) (show l.length ≤ 1000 by have := HZ.out.2.1; omega))
      have HT2 : Hid (∀ W, RdR W R T E s3 → Calls Tryz.prog 103 #[.pointer (some ⟨R, 0, none⟩)] W fun e w' => ∃ xa xq xc ya yq yc, e = .returned (.agg #[.int .i64 y2.cmp, .int .i64 y2.l.k, .int .i64 y2.l.v.k, .int .i64 y2.l.v.n, .string (strB y2.l.v.s), .string (strB y2.l.x), .string (strB y2.l.f), .slice xa xq xc, .int .i64 y2.r.k, .int .i64 y2.r.v.k, .int .i64 y2.r.v.n, .string (strB y2.r.v.s), .string (strB y2.r.x), .string (strB y2.r.f), .slice ya yq yc]) ∧ predD.P (· < W.heap.size) w' (.int .i64 y2.cmp :: (exL y2.l (.slice xa xq xc) ++ exL y2.r (.slice ya yq yc))) y2 ∧ RdTo R T E s4 W w') := fun W hW => by
        have h := HON.out W s3 hW hok3 (by have := HZ.out.2.1; omega)
        rw [hys] at h
        exact h
      obtain ⟨q, hq⟩ : ∃ q, l.length = q := ⟨_, rfl⟩
      have HQ := Lib.hid hq
      rw [hq] at O2 ⊢
      clear hlt hdp3 hok3 hle4 hdp4 hys his HZ hp hq hs3
      go_wp2_with fail
      with_reducible refine HTK.out.mono ?_
      rintro e w3 ⟨rfl, hd3⟩
      have HT3 := Lib.hid (HT2.out w3 hd3.rd)
      have D3 := Lib.hid (D2.out.trans hd3)
      have O3 := Lib.hid (O2.out.keep hd3.fr (fun k e => by omega))
      clear hd3 D2 O2 HTK HT2
      go_wp2_with fail
      with_reducible refine HT3.out.mono ?_
      rintro e w4 ⟨xa, xq, xc, ya, yq, yc, rfl, hp, hd4⟩
      have HAP : ∃ a9 l9 c9 w9, (Builtin.append_ #[24, 24] 24 #[.slice va q vc, .slice (some ⟨w4.heap.size, 0, none⟩) 1 1]).run Tryz.prog (w4.alloc (.cells #[.int .i64 y2.cmp, .int .i64 y2.l.k, .int .i64 y2.l.v.k, .int .i64 y2.l.v.n, .string (strB y2.l.v.s), .string (strB y2.l.x), .string (strB y2.l.f), .slice xa xq xc, .int .i64 y2.r.k, .int .i64 y2.r.v.k, .int .i64 y2.r.v.n, .string (strB y2.r.v.s), .string (strB y2.r.x), .string (strB y2.r.f), .slice ya yq yc] 40)) = .ok (.slice a9 l9 c9) w9 ∧ Hid (OwnP predD w9 w.heap.size 40 (.slice a9 l9 c9) (l ++ [y2])) ∧ Hid (RdTo R T E s4 w w9) := by
        have hb5 := (Below.refl w4.heap.size w4).alloc (Nat.le_refl _) (.cells #[.int .i64 y2.cmp, .int .i64 y2.l.k, .int .i64 y2.l.v.k, .int .i64 y2.l.v.n, .string (strB y2.l.v.s), .string (strB y2.l.x), .string (strB y2.l.f), .slice xa xq xc, .int .i64 y2.r.k, .int .i64 y2.r.v.k, .int .i64 y2.r.v.n, .string (strB y2.r.v.s), .string (strB y2.r.x), .string (strB y2.r.f), .slice ya yq yc] 40)
        have o5 := (O3.out.keep hd4.fr (fun k e => by omega)).keep (TFr.of_below (K := fun _ => False) hb5) (fun _ h => h.elim)
        have hw3 := O3.out.own
        have hB := D3.out.fr.size
        have hpp := predD.at' (B := w.heap.size) (v := .slice va q vc) hb5 hw3 hB (show predD.P (· < w3.heap.size) w4 (.int .i64 y2.cmp :: (exL y2.l (.slice xa xq xc) ++ exL y2.r (.slice ya yq yc))) y2 from hp)
        obtain ⟨v9, w9, hr, ho, hg⟩ := OwnP.append (ts := 24) (ty := 24) (by kernel_rfl) predI rfl (by decide) (by decide) o5 (by have := hd4.fr.size; have := hb5.size; omega) HLT.out.2 hpp (heap_alloc_new w4 _)
        obtain ⟨a9, c9, rfl⟩ := ho.slice
        exact ⟨a9, _, c9, w9, hr, ho, ((D3.out.trans hd4).then hb5).grown hR hg (fun k hk => (o5.own k hk).1)⟩
      obtain ⟨a9, l9, c9, w9, hr9, O9, D9⟩ := HAP
      clear hd4 O3 D3 HT3 hp
      go_wp2_with (at_builtin; refine Lib.wpList_append_run _ rfl _ _ _ _ rfl _ _ rfl rfl _ _ hr9 ?_; clear hr9)
      refine ⟨⟨n3, l ++ [y2], s4, ?_⟩, ?_⟩
      · exact ⟨O9.out, D9.out, HN.out.1, HN.out.2.1, HN.out.2.2⟩
      · rw [leftN_is D9.out.rd, HL.out]
        exact HLT.out.1

end Go.Proofs.YtifacoompbngaaaGreatDoor
namespace Go.Proofs.YtifacoompbngaaaGreatDoor
open Go.RowKit Go.Lib Go.Op

/-- What is read so far of a query. -/
structure QIn (R T E : Nat) (w wc : World) (s : RS) (c0 c1 c2 c3 c4 : Value) (its : List PIt) (prs : List PPr) : Prop where
  res : Blk wc w.heap.size #[.slice none 0 0, .slice none 0 0, .int .i64 0, .string ⟨#[]⟩, .int .i64 0] 26
  own : Blk wc (w.heap.size + 1) #[c0, c1, c2, c3, c4] 26
  iR : RowK itemD (· < w.heap.size + 2) wc c0 its
  pR : RowK predD (· < w.heap.size + 2) wc c1 prs
  rt : RdTo R T E s w wc
  big : w.heap.size + 2 ≤ wc.heap.size
section
variable {R T E : Nat} {w wc w' : World} {s s' : RS} {c0 c1 c2 c3 c4 : Value} {its : List PIt} {prs : List PPr}
theorem QIn.low (h : QIn R T E w wc s c0 c1 c2 c3 c4 its prs) (hb : Below wc.heap.size wc w') : QIn R T E w w' s c0 c1 c2 c3 c4 its prs :=
  ⟨h.res.low hb, h.own.low hb, h.iR.low hb, h.pR.low hb, h.rt.then hb, Nat.le_trans h.big hb.size⟩
theorem QIn.step (h : QIn R T E w wc s c0 c1 c2 c3 c4 its prs) (hR : R < w.heap.size) (hd : RdTo R T E s' wc w') : QIn R T E w w' s' c0 c1 c2 c3 c4 its prs :=
  ⟨h.res.keep hd.fr (by omega), h.own.keep hd.fr (by omega), h.iR.keepR hd.fr (by show R < _; omega), h.pR.keepR hd.fr (by show R < _; omega), h.rt.trans hd, Nat.le_trans h.big hd.fr.size⟩
theorem QIn.set0 (h : QIn R T E w wc s c0 c1 c2 c3 c4 its prs) (hR : R < w.heap.size) {v : Value} {its' : List PIt} (hv : RowK itemD (· < w.heap.size + 2) wc v its') : QIn R T E w (wc.setCell ⟨w.heap.size + 1, 0, none⟩ v) s v c1 c2 c3 c4 its' prs :=
  ⟨h.res.at (by omega) _ _, h.own.set 0 v rfl, hv.set (by show _ < _; omega) _ _, h.pR.set (by show _ < _; omega) _ _, h.rt.set hR (by omega) _ _, by simpa using h.big⟩
theorem QIn.set1 (h : QIn R T E w wc s c0 c1 c2 c3 c4 its prs) (hR : R < w.heap.size) {v : Value} {prs' : List PPr} (hv : RowK predD (· < w.heap.size + 2) wc v prs') : QIn R T E w (wc.setCell ⟨w.heap.size + 1, 1, none⟩ v) s c0 v c2 c3 c4 its prs' :=
  ⟨h.res.at (by omega) _ _, h.own.set 1 v rfl, h.iR.set (by show _ < _; omega) _ _, hv.set (by show _ < _; omega) _ _, h.rt.set hR (by omega) _ _, by simpa using h.big⟩
theorem QIn.set2 (h : QIn R T E w wc s c0 c1 c2 c3 c4 its prs) (hR : R < w.heap.size) (v : Value) : QIn R T E w (wc.setCell ⟨w.heap.size + 1, 2, none⟩ v) s c0 c1 v c3 c4 its prs :=
  ⟨h.res.at (by omega) _ _, h.own.set 2 v rfl, h.iR.set (by show _ < _; omega) _ _, h.pR.set (by show _ < _; omega) _ _, h.rt.set hR (by omega) _ _, by simpa using h.big⟩
theorem QIn.set3 (h : QIn R T E w wc s c0 c1 c2 c3 c4 its prs) (hR : R < w.heap.size) (v : Value) : QIn R T E w (wc.setCell ⟨w.heap.size + 1, 3, none⟩ v) s c0 c1 c2 v c4 its prs :=
  ⟨h.res.at (by omega) _ _, h.own.set 3 v rfl, h.iR.set (by show _ < _; omega) _ _, h.pR.set (by show _ < _; omega) _ _, h.rt.set hR (by omega) _ _, by simpa using h.big⟩
theorem QIn.set4 (h : QIn R T E w wc s c0 c1 c2 c3 c4 its prs) (hR : R < w.heap.size) (v : Value) : QIn R T E w (wc.setCell ⟨w.heap.size + 1, 4, none⟩ v) s c0 c1 c2 c3 v its prs :=
  ⟨h.res.at (by omega) _ _, h.own.set 4 v rfl, h.iR.set (by show _ < _; omega) _ _, h.pR.set (by show _ < _; omega) _ _, h.rt.set hR (by omega) _ _, by simpa using h.big⟩
end

/-- What a call leaves that reads a query. -/
def QuTo (R T E : Nat) (p : PQu × RS) (w : World) (e : Ending) (w' : World) : Prop := ∃ a q c b r d, e = .returned (.agg #[.slice a q c, .slice b r d, .int .i64 p.1.within, .string (strB p.1.by_), .int .i64 p.1.pick]) ∧
  RowK itemD (· < w.heap.size) w' (.slice a q c) p.1.its ∧ RowK predD (· < w.heap.size) w' (.slice b r d) p.1.prs ∧ RdTo R T E p.2 w w'

set_option maxHeartbeats 2000000 in
set_option maxRecDepth 100000 in
theorem query_calls {w : World} {R T E : Nat} {s : RS} {n : Nat} (h : RdR w R T E s) (hok : DeepOk s) (hn : s.l.length < n) (h5 : s.l.length ≤ 500) : Calls Tryz.prog 44 #[.pointer (some ⟨R, 0, none⟩)] w (QuTo R T E (queryT E n s) w) := by
  have hR := h.lt
  obtain ⟨s0, hs0⟩ : ∃ s0, needT E s 1 wSeq = s0 := ⟨_, rfl⟩
  obtain ⟨⟨its, s1⟩, hs1⟩ : ∃ z, row1T E wThen (itemT E n) n s0 = z := ⟨_, rfl⟩
  obtain ⟨pw, hpw⟩ : ∃ z, isT E s1 1 wWhere = z := ⟨_, rfl⟩
  obtain ⟨s1', hs1'⟩ : ∃ z, (takeT E s1 1 wWhere).2 = z := ⟨_, rfl⟩
  obtain ⟨⟨prs, s2⟩, hs2⟩ : ∃ z, (if pw then row1T E wAnd (predT E n) n s1' else ([], s1')) = z := ⟨_, rfl⟩
  obtain ⟨s3, hs3⟩ : ∃ s3, needT E s2 1 wWithin = s3 := ⟨_, rfl⟩
  obtain ⟨⟨wi, s4⟩, hs4⟩ : ∃ z, numberT E s3 = z := ⟨_, rfl⟩
  obtain ⟨pb, hpb⟩ : ∃ z, isT E s4 1 wBy = z := ⟨_, rfl⟩
  obtain ⟨s4', hs4'⟩ : ∃ z, (takeT E s4 1 wBy).2 = z := ⟨_, rfl⟩
  obtain ⟨⟨bb, s5⟩, hs5⟩ : ∃ z, (if pb then nameT E s4' else ([], s4')) = z := ⟨_, rfl⟩
  obtain ⟨pk, hpk⟩ : ∃ z, isT E s5 1 wPick = z := ⟨_, rfl⟩
  obtain ⟨s5', hs5'⟩ : ∃ z, (takeT E s5 1 wPick).2 = z := ⟨_, rfl⟩
  obtain ⟨⟨kk, s6⟩, hs6⟩ : ∃ z, (if pk then chooseT E s5' 1 picksL else (1, s5')) = z := ⟨_, rfl⟩
  have hit : queryT E n s = (⟨its, prs, wi, bb, (kk : Int)⟩, if s6.l = [] then s6 else failT E s6) := by
    unfold queryT
    have e1 : (if isT E s1 1 wWhere then row1T E wAnd (predT E n) n (takeT E s1 1 wWhere).2 else ([], s1)) = (prs, s2) := by
      rw [hpw, ← hs2]
      cases pw with
      | true => rw [hs1']; rfl
      | false => rw [← hs1', takeT_no hpw]
    have e2 : (if isT E s4 1 wBy then nameT E (takeT E s4 1 wBy).2 else ([], s4)) = (bb, s5) := by
      rw [hpb, ← hs5]
      cases pb with
      | true => rw [hs4']; rfl
      | false => rw [← hs4', takeT_no hpb]
    have e3 : (if isT E s5 1 wPick then chooseT E (takeT E s5 1 wPick).2 1 picksL else (1, s5)) = (kk, s6) := by
      rw [hpk, ← hs6]
      cases pk with
      | true => rw [hs5']; rfl
      | false => rw [← hs5', takeT_no hpk]
    rw [hs0, hs1]
    dsimp only
    rw [e1]
    dsimp only
    rw [hs3, hs4]
    dsimp only
    rw [e2]
    dsimp only
    rw [e3]
  rw [hit]
  obtain ⟨sf, hsf⟩ : ∃ sf, (if s6.l = [] then s6 else failT E s6) = sf := ⟨_, rfl⟩
  rw [hsf]
  have HSF := Lib.hid hsf
  clear hsf
  have hok0 : DeepOk s0 := by rw [← hs0]; exact hok.le (needT_deep _ _) (needT_le _ _)
  have hl0 : s0.l.length ≤ s.l.length := by rw [← hs0]; exact needT_le _ _
  have hl1 := row1T_le (E := E) (b := wThen) (one := itemT E n) (fun _ => itemT_le) n s0
  have hd1 := row1T_deep (E := E) (b := wThen) (one := itemT E n) (fun _ => itemT_deep) n s0
  rw [hs1] at hl1 hd1
  dsimp only at hl1 hd1
  have hok1 : DeepOk s1' := by rw [← hs1']; exact (hok0.le hd1 hl1).le (takeT_deep _ _) (takeT_le _ _)
  have hl1' : s1'.l.length ≤ s1.l.length := by rw [← hs1']; exact takeT_le _ _
  have hb1 := (Below.refl w.heap.size w).alloc (Nat.le_refl _) (.cells #[.slice none 0 0, .slice none 0 0, .int .i64 0, .string ⟨#[]⟩, .int .i64 0] 26)
  have hb2 := hb1.alloc hb1.size (.cells #[.slice none 0 0, .slice none 0 0, .int .i64 0, .string ⟨#[]⟩, .int .i64 0] 26)
  have P2 := (Blk.new w #[.slice none 0 0, .slice none 0 0, .int .i64 0, .string ⟨#[]⟩, .int .i64 0] 26).low ((Below.refl _ _).alloc (Nat.le_refl _) (.cells #[.slice none 0 0, .slice none 0 0, .int .i64 0, .string ⟨#[]⟩, .int .i64 0] 26))
  have hp3 := Blk.new (w.alloc (.cells #[.slice none 0 0, .slice none 0 0, .int .i64 0, .string ⟨#[]⟩, .int .i64 0] 26)) #[.slice none 0 0, .slice none 0 0, .int .i64 0, .string ⟨#[]⟩, .int .i64 0] 26
  rw [show (w.alloc (.cells #[.slice none 0 0, .slice none 0 0, .int .i64 0, .string ⟨#[]⟩, .int .i64 0] 26)).heap.size = w.heap.size + 1 by simp] at hp3
  have QA : Hid (QIn R T E w ((w.alloc (.cells #[.slice none 0 0, .slice none 0 0, .int .i64 0, .string ⟨#[]⟩, .int .i64 0] 26)).alloc (.cells #[.slice none 0 0, .slice none 0 0, .int .i64 0, .string ⟨#[]⟩, .int .i64 0] 26)) s (.slice none 0 0) (.slice none 0 0) (.int .i64 0) (.string ⟨#[]⟩) (.int .i64 0) [] []) :=
    ⟨P2, hp3, RowK.nil _ _ _, RowK.nil _ _ _, RdTo.of_below h hb2, by have := hp3.lt; omega⟩
  have HL := Lib.hid (And.intro hok0 (And.intro (show s0.l.length ≤ n ∧ s0.l.length ≤ 500 ∧ s0.l.length < n by omega) (And.intro hok1 (show s1'.l.length ≤ n ∧ s1'.l.length ≤ 500 ∧ s1'.l.length < n by omega))))
  have H0 := Lib.hid hs0
  have H1 := Lib.hid hs1
  have HPW := Lib.hid (And.intro hpw hs1')
  have H2 := Lib.hid hs2
  have H3 := Lib.hid hs3
  have H4 := Lib.hid hs4
  have HPB := Lib.hid (And.intro hpb hs4')
  have H5 := Lib.hid hs5
  have HPK := Lib.hid (And.intro hpk hs5')
  have H6 := Lib.hid hs6
  clear h hb1 hb2 hp3 P2 hs0 hs1 hpw hs1' hs2 hs3 hs4 hpb hs4' hs5 hpk hs5' hs6 hit hok0 hok1 hl0 hl1 hd1 hl1' hok hn h5
  go_enter Tryz.func44, Tryz.ntmps44
  have HM := Lib.hid (show ∀ W, Calls Tryz.prog 98 #[.string ⟨#[115, 101, 113]⟩] W (fun e w' => e = .returned (.agg #[.int .i64 1, .string ⟨#[115, 101, 113]⟩]) ∧ Below W.heap.size W w') from fun W => word_mark _ W)
  go_wp2_with fail
  with_reducible refine (HM.out _).mono ?_
  rintro e w1 ⟨rfl, hb⟩
  have QB := Lib.hid (QA.out.low hb)
  clear hb HM QA
  have hc := needW_calls QB.out.rt.rd wSeq
  rw [H0.out] at hc
  have HC : Hid (Calls Tryz.prog 97 #[.pointer (some ⟨R, 0, none⟩), .agg #[.int .i64 1, .string ⟨#[115, 101, 113]⟩]] w1 fun e w' => e = .returned (.tuple #[]) ∧ RdTo R T E s0 w1 w') := hc
  clear hc
  go_wp2_with fail
  with_reducible refine HC.out.mono ?_
  rintro e w2 ⟨rfl, hd⟩
  have QC := Lib.hid (QB.out.step hR hd)
  clear hd HC QB
  have hc := rowI_calls (m := s0.l.length) (n := n) (one := itemT E n) (fun w s h hok hm => item_calls h hok (by have := HL.out.2.1; omega) (by have := HL.out.2.1; omega)) (fun _ => itemT_le) (fun _ => itemT_deep) wThen QC.out.rt.rd HL.out.1 (Nat.le_refl _) HL.out.2.1.1 HL.out.2.1.2.1
  rw [H1.out] at hc
  have HC : Hid (Calls Tryz.prog 99 #[.pointer (some ⟨R, 0, none⟩), .string ⟨#[116, 104, 101, 110]⟩, .func (.func 100) #[.pointer (some ⟨R, 0, none⟩)] #[]] w2 (RowTo itemD R T E (its, s1) w2)) := hc
  clear hc
  go_wp2_with fail
  with_reducible refine HC.out.mono ?_
  rintro e w3 ⟨v, rfl, hrw, hd⟩
  obtain ⟨a, c, rfl⟩ := hrw.slice
  obtain ⟨q, hq⟩ : ∃ q, (its, s1).1.length = q := ⟨_, rfl⟩
  rw [hq] at hrw ⊢
  dsimp only at hd hrw
  have qd := QC.out.step hR hd
  have c0 := tcell_of_blk qd.own (k := 0) rfl
  have fc0 := tfrozen_of_blk qd.own (k := 0)
  have QD := Lib.hid (qd.set0 hR (v := .slice a q c) (hrw.mono (fun k hk => Nat.lt_of_lt_of_le hk QC.out.big)))
  clear hq hrw hd qd QC HC
  have HM := Lib.hid (show ∀ W, Calls Tryz.prog 98 #[.string ⟨#[119, 104, 101, 114, 101]⟩] W (fun e w' => e = .returned (.agg #[.int .i64 1, .string ⟨#[119, 104, 101, 114, 101]⟩]) ∧ Below W.heap.size W w') from fun W => word_mark _ W)
  go_wp2_with fail
  with_reducible refine (HM.out _).mono ?_
  rintro e w4 ⟨rfl, hb⟩
  have QE := Lib.hid (QD.out.low hb)
  clear hb HM QD
  clear c0 fc0
  have hc := takeW_calls QE.out.rt.rd wWhere
  rw [HPW.out.1, HPW.out.2] at hc
  have HC : Hid (Calls Tryz.prog 101 #[.pointer (some ⟨R, 0, none⟩), .agg #[.int .i64 1, .string ⟨#[119, 104, 101, 114, 101]⟩]] w4 fun e w' => e = .returned (.bool pw) ∧ RdTo R T E s1' w4 w') := hc
  clear hc
  go_wp2_with fail
  with_reducible refine HC.out.mono ?_
  rintro e w5 ⟨rfl, hd⟩
  have QF := Lib.hid (QE.out.step hR hd)
  clear hd HC QE
  go_upto_if 14 with fail
  go_cut [] from 12 (fun wc => ∃ b r d, Hid (QIn R T E w wc s2 (.slice a q c) (.slice b r d) (.int .i64 0) (.string ⟨#[]⟩) (.int .i64 0) its prs))
  case first =>
    cases pw with
    | false =>
      have h := H2.out
      rw [if_neg (by simp)] at h
      injection h with h1 h2
      subst h1 h2
      go_wp2_with fail
      go_meet
      exact ⟨_, _, _, QF⟩
    | true =>
      have h := H2.out
      rw [if_pos rfl] at h
      have hc := rowP_calls (m := s1'.l.length) (n := n) (one := predT E n) (fun w s h hok hm => pred_calls h hok (by have := HL.out.2.2.2; omega)) (fun _ => predT_le) (fun _ => predT_deep) wAnd QF.out.rt.rd HL.out.2.2.1 (Nat.le_refl _) HL.out.2.2.2.1 HL.out.2.2.2.2.1
      rw [h] at hc
      have HC : Hid (Calls Tryz.prog 102 #[.pointer (some ⟨R, 0, none⟩), .string ⟨#[97, 110, 100]⟩, .func (.func 103) #[.pointer (some ⟨R, 0, none⟩)] #[]] w5 (RowTo predD R T E (prs, s2) w5)) := hc
      clear hc h
      go_wp2_with fail
      with_reducible refine HC.out.mono ?_
      rintro e w6 ⟨v, rfl, hrw, hd⟩
      obtain ⟨b, d, rfl⟩ := hrw.slice
      obtain ⟨r, hr⟩ : ∃ q, (prs, s2).1.length = q := ⟨_, rfl⟩
      rw [hr] at hrw ⊢
      dsimp only at hd hrw
      have qd := QF.out.step hR hd
      have c1 := tcell_of_blk qd.own (k := 1) rfl
      have fc1 := tfrozen_of_blk qd.own (k := 1)
      have QG := Lib.hid (qd.set1 hR (v := .slice b r d) (hrw.mono (fun k hk => Nat.lt_of_lt_of_le hk QF.out.big)))
      clear hr hrw hd qd QF HC
      go_wp2_with fail
      go_meet
      exact ⟨b, r, d, QG⟩
  case rest =>
    obtain ⟨b, r, d, QG⟩ := hcut
    clear QF
    have HM := Lib.hid (show ∀ W, Calls Tryz.prog 98 #[.string ⟨#[119, 105, 116, 104, 105, 110]⟩] W (fun e w' => e = .returned (.agg #[.int .i64 1, .string ⟨#[119, 105, 116, 104, 105, 110]⟩]) ∧ Below W.heap.size W w') from fun W => word_mark _ W)
    go_wp2_with fail
    with_reducible refine (HM.out _).mono ?_
    rintro e w7 ⟨rfl, hb⟩
    have QH := Lib.hid (QG.out.low hb)
    clear hb HM QG
    have hc := needW_calls QH.out.rt.rd wWithin
    rw [H3.out] at hc
    have HC : Hid (Calls Tryz.prog 97 #[.pointer (some ⟨R, 0, none⟩), .agg #[.int .i64 1, .string ⟨#[119, 105, 116, 104, 105, 110]⟩]] w7 fun e w' => e = .returned (.tuple #[]) ∧ RdTo R T E s3 w7 w') := hc
    clear hc
    go_wp2_with fail
    with_reducible refine HC.out.mono ?_
    rintro e w8 ⟨rfl, hd⟩
    have QI := Lib.hid (QH.out.step hR hd)
    clear hd HC QH
    have hc := numberR_calls QI.out.rt.rd
    rw [H4.out] at hc
    have HC := Lib.hid hc
    clear hc
    go_wp2_with fail
    with_reducible refine HC.out.mono ?_
    rintro e w9 ⟨rfl, hd⟩
    have qd := QI.out.step hR hd
    have c2 := tcell_of_blk qd.own (k := 2) rfl
    have fc2 := tfrozen_of_blk qd.own (k := 2)
    have QJ := Lib.hid (qd.set2 hR (.int .i64 (wi, s4).1))
    clear hd qd QI HC
    dsimp only at QJ
    dsimp only
    have HM := Lib.hid (show ∀ W, Calls Tryz.prog 98 #[.string ⟨#[98, 121]⟩] W (fun e w' => e = .returned (.agg #[.int .i64 1, .string ⟨#[98, 121]⟩]) ∧ Below W.heap.size W w') from fun W => word_mark _ W)
    go_wp2_with fail
    with_reducible refine (HM.out _).mono ?_
    rintro e w10 ⟨rfl, hb⟩
    have QK := Lib.hid (QJ.out.low hb)
    clear hb HM QJ
    clear c2 fc2
    have hc := takeW_calls QK.out.rt.rd wBy
    rw [HPB.out.1, HPB.out.2] at hc
    have HC : Hid (Calls Tryz.prog 101 #[.pointer (some ⟨R, 0, none⟩), .agg #[.int .i64 1, .string ⟨#[98, 121]⟩]] w10 fun e w' => e = .returned (.bool pb) ∧ RdTo R T E s4' w10 w') := hc
    clear hc
    go_wp2_with fail
    with_reducible refine HC.out.mono ?_
    rintro e w11 ⟨rfl, hd⟩
    have QL := Lib.hid (QK.out.step hR hd)
    clear hd HC QK
    go_upto_if 28 with fail
    go_cut [] from 26 (fun wc => Hid (QIn R T E w wc s5 (.slice a q c) (.slice b r d) (.int .i64 wi) (.string (strB bb)) (.int .i64 0) its prs))
    case first =>
      cases pb with
      | false =>
        have h := H5.out
        rw [if_neg (by simp)] at h
        injection h with h1 h2
        subst h1 h2
        go_wp2_with fail
        go_meet
        exact QL
      | true =>
        have h := H5.out
        rw [if_pos rfl] at h
        have hc := nameR_calls QL.out.rt.rd
        rw [h] at hc
        have HC := Lib.hid hc
        clear hc h
        go_wp2_with fail
        with_reducible refine HC.out.mono ?_
        rintro e w12 ⟨rfl, hd⟩
        have qd := QL.out.step hR hd
        have c3 := tcell_of_blk qd.own (k := 3) rfl
        have fc3 := tfrozen_of_blk qd.own (k := 3)
        have QM := Lib.hid (qd.set3 hR (.string (strB bb)))
        clear hd qd QL HC
        go_wp2_with fail
        go_meet
        exact QM
    case rest =>
      have QM := hcut
      clear hcut QL
      have hq4 := QM.out
      have c4 := tcell_of_blk hq4.own (k := 4) rfl
      have fc4 := tfrozen_of_blk hq4.own (k := 4)
      have QN := Lib.hid (hq4.set4 hR (.int .i64 1))
      clear QM hq4
      have HM := Lib.hid (show ∀ W, Calls Tryz.prog 98 #[.string ⟨#[112, 105, 99, 107]⟩] W (fun e w' => e = .returned (.agg #[.int .i64 1, .string ⟨#[112, 105, 99, 107]⟩]) ∧ Below W.heap.size W w') from fun W => word_mark _ W)
      go_wp2_with fail
      with_reducible refine (HM.out _).mono ?_
      rintro e w14 ⟨rfl, hb⟩
      have QO := Lib.hid (QN.out.low hb)
      clear hb HM QN
      clear c4 fc4
      have hc := takeW_calls QO.out.rt.rd wPick
      rw [HPK.out.1, HPK.out.2] at hc
      have HC : Hid (Calls Tryz.prog 101 #[.pointer (some ⟨R, 0, none⟩), .agg #[.int .i64 1, .string ⟨#[112, 105, 99, 107]⟩]] w14 fun e w' => e = .returned (.bool pk) ∧ RdTo R T E s5' w14 w') := hc
      clear hc
      go_wp2_with fail
      with_reducible refine HC.out.mono ?_
      rintro e w15 ⟨rfl, hd⟩
      have QP := Lib.hid (QO.out.step hR hd)
      clear hd HC QO
      go_upto_if 35 with fail
      go_cut [] from 33 (fun wc => Hid (QIn R T E w wc s6 (.slice a q c) (.slice b r d) (.int .i64 wi) (.string (strB bb)) (.int .i64 kk) its prs))
      case first =>
        cases pk with
        | false =>
          have h := H6.out
          rw [if_neg (by simp)] at h
          injection h with h1 h2
          subst h1 h2
          go_wp2_with fail
          go_meet
          exact QP
        | true =>
          have h := H6.out
          rw [if_pos rfl] at h
          have HPI := Lib.hid (fun W => picks_calls W)
          go_wp2_with fail
          with_reducible refine (HPI.out _).mono ?_
          rintro e w16 ⟨rfl, hb⟩
          have QQ := Lib.hid (QP.out.low hb)
          have hc := chooseW_calls QQ.out.rt.rd picksL rfl
          rw [h] at hc
          have HC := Lib.hid hc
          clear hc h hb
          go_wp2_with fail
          with_reducible refine HC.out.mono ?_
          rintro e w17 ⟨rfl, hd⟩
          have qd := QQ.out.step hR hd
          have c4 := tcell_of_blk qd.own (k := 4) rfl
          have fc4 := tfrozen_of_blk qd.own (k := 4)
          have QR := Lib.hid (qd.set4 hR (.int .i64 kk))
          clear hd qd QQ HC
          go_wp2_with fail
          go_meet
          exact QR
      case rest =>
        have QR := hcut
        clear hcut QP
        obtain ⟨la, lc, k0⟩ := QR.out.rt.rd
        have l0 := k0.c0
        clear k0
        by_cases hl : s6.l = []
        · have hsf := HSF.out
          rw [if_pos hl] at hsf
          subst hsf
          rw [hl] at l0
          simp only [List.length_nil] at l0
          have hqf := QR.out
          have d0 := tcell_of_blk hqf.own (k := 0) rfl
          have d1 := tcell_of_blk hqf.own (k := 1) rfl
          have d2 := tcell_of_blk hqf.own (k := 2) rfl
          have d3 := tcell_of_blk hqf.own (k := 3) rfl
          have d4 := tcell_of_blk hqf.own (k := 4) rfl
          have fd0 := tfrozen_of_blk hqf.own (k := 0)
          have fd1 := tfrozen_of_blk hqf.own (k := 1)
          have fd2 := tfrozen_of_blk hqf.own (k := 2)
          have fd3 := tfrozen_of_blk hqf.own (k := 3)
          have fd4 := tfrozen_of_blk hqf.own (k := 4)
          have r0 := tcell_of_blk hqf.res (k := 0) rfl
          have r1 := tcell_of_blk hqf.res (k := 1) rfl
          have r2 := tcell_of_blk hqf.res (k := 2) rfl
          have r3 := tcell_of_blk hqf.res (k := 3) rfl
          have r4 := tcell_of_blk hqf.res (k := 4) rfl
          have fr0 := tfrozen_of_blk hqf.res (k := 0)
          have fr1 := tfrozen_of_blk hqf.res (k := 1)
          have fr2 := tfrozen_of_blk hqf.res (k := 2)
          have fr3 := tfrozen_of_blk hqf.res (k := 3)
          have fr4 := tfrozen_of_blk hqf.res (k := 4)
          clear hqf
          go_wp2
          refine bodyPost_ret (v := .agg #[.slice a q c, .slice b r d, .int .i64 wi, .string (strB bb), .int .i64 kk]) (by simp [results, Tryz.results44, go_sem, r0, r1, r2, r3, r4]) rfl ⟨a, q, c, b, r, d, rfl, ?_, ?_, ?_⟩
          · have hk := ((((QR.out.iR.set (b := w.heap.size) (by show _ < _; omega) 0 (.slice a q c)).set (b := w.heap.size) (by show _ < _; omega) 1 (.slice b r d)).set (b := w.heap.size) (by show _ < _; omega) 2 (.int .i64 wi)).set (b := w.heap.size) (by show _ < _; omega) 3 (.string (strB bb))).set (b := w.heap.size) (by show _ < _; omega) 4 (.int .i64 kk)
            exact hk.mono (fun k hk => Nat.lt_trans hk (by omega))
          · have hk := ((((QR.out.pR.set (b := w.heap.size) (by show _ < _; omega) 0 (.slice a q c)).set (b := w.heap.size) (by show _ < _; omega) 1 (.slice b r d)).set (b := w.heap.size) (by show _ < _; omega) 2 (.int .i64 wi)).set (b := w.heap.size) (by show _ < _; omega) 3 (.string (strB bb))).set (b := w.heap.size) (by show _ < _; omega) 4 (.int .i64 kk)
            exact hk.mono (fun k hk => Nat.lt_trans hk (by omega))
          · exact ((((QR.out.rt.set hR (Nat.le_refl _) _ _).set hR (Nat.le_refl _) _ _).set hR (Nat.le_refl _) _ _).set hR (Nat.le_refl _) _ _).set hR (Nat.le_refl _) _ _
        · have hsf := HSF.out
          rw [if_neg hl] at hsf
          subst hsf
          obtain ⟨lq, hlq⟩ : ∃ q, s6.l.length = q := ⟨_, rfl⟩
          have hpos : 0 < lq := by
            rw [← hlq]
            exact List.length_pos_iff.2 hl
          rw [hlq] at l0
          have ht : decide (0 < lq) = true := decide_eq_true hpos
          have HF := Lib.hid (fail_calls QR.out.rt.rd)
          clear hlq hl
          go_wp2_with fail
          with_reducible refine HF.out.mono ?_
          rintro e w18 ⟨rfl, hd⟩
          have QS := Lib.hid (QR.out.step hR hd)
          clear hd QR HF
          have hqf := QS.out
          have d0 := tcell_of_blk hqf.own (k := 0) rfl
          have d1 := tcell_of_blk hqf.own (k := 1) rfl
          have d2 := tcell_of_blk hqf.own (k := 2) rfl
          have d3 := tcell_of_blk hqf.own (k := 3) rfl
          have d4 := tcell_of_blk hqf.own (k := 4) rfl
          have fd0 := tfrozen_of_blk hqf.own (k := 0)
          have fd1 := tfrozen_of_blk hqf.own (k := 1)
          have fd2 := tfrozen_of_blk hqf.own (k := 2)
          have fd3 := tfrozen_of_blk hqf.own (k := 3)
          have fd4 := tfrozen_of_blk hqf.own (k := 4)
          have r0 := tcell_of_blk hqf.res (k := 0) rfl
          have r1 := tcell_of_blk hqf.res (k := 1) rfl
          have r2 := tcell_of_blk hqf.res (k := 2) rfl
          have r3 := tcell_of_blk hqf.res (k := 3) rfl
          have r4 := tcell_of_blk hqf.res (k := 4) rfl
          have fr0 := tfrozen_of_blk hqf.res (k := 0)
          have fr1 := tfrozen_of_blk hqf.res (k := 1)
          have fr2 := tfrozen_of_blk hqf.res (k := 2)
          have fr3 := tfrozen_of_blk hqf.res (k := 3)
          have fr4 := tfrozen_of_blk hqf.res (k := 4)
          clear hqf
          go_wp2
          refine bodyPost_ret (v := .agg #[.slice a q c, .slice b r d, .int .i64 wi, .string (strB bb), .int .i64 kk]) (by simp [results, Tryz.results44, go_sem, r0, r1, r2, r3, r4]) rfl ⟨a, q, c, b, r, d, rfl, ?_, ?_, ?_⟩
          · have hk := ((((QS.out.iR.set (b := w.heap.size) (by show _ < _; omega) 0 (.slice a q c)).set (b := w.heap.size) (by show _ < _; omega) 1 (.slice b r d)).set (b := w.heap.size) (by show _ < _; omega) 2 (.int .i64 wi)).set (b := w.heap.size) (by show _ < _; omega) 3 (.string (strB bb))).set (b := w.heap.size) (by show _ < _; omega) 4 (.int .i64 kk)
            exact hk.mono (fun k hk => Nat.lt_trans hk (by omega))
          · have hk := ((((QS.out.pR.set (b := w.heap.size) (by show _ < _; omega) 0 (.slice a q c)).set (b := w.heap.size) (by show _ < _; omega) 1 (.slice b r d)).set (b := w.heap.size) (by show _ < _; omega) 2 (.int .i64 wi)).set (b := w.heap.size) (by show _ < _; omega) 3 (.string (strB bb))).set (b := w.heap.size) (by show _ < _; omega) 4 (.int .i64 kk)
            exact hk.mono (fun k hk => Nat.lt_trans hk (by omega))
          · exact ((((QS.out.rt.set hR (Nat.le_refl _) _ _).set hR (Nat.le_refl _) _ _).set hR (Nat.le_refl _) _ _).set hR (Nat.le_refl _) _ _).set hR (Nat.le_refl _) _ _

end Go.Proofs.YtifacoompbngaaaGreatDoor
namespace Go.Proofs.YtifacoompbngaaaGreatDoor
open Go.RowKit Go.Lib Go.Op

set_option maxRecDepth 100000 in
theorem nameOk_calls (b : List UInt8) (w : World) (hb : b.length ≤ 1000000) : Calls Tryz.prog 54 #[.string (strB b)] w fun e w' => e = .returned (.bool (nameB b)) ∧ Below w.heap.size w w' := by
  have hw := word_calls (strB b) w (by rw [strB_size]; unfold maxLen; omega)
  rw [strB_list] at hw
  have HK := Lib.hid (fun W => key_calls b W)
  unfold nameB
  cases h1 : wordB b with
  | false =>
    rw [h1] at hw
    have HW := Lib.hid hw
    clear hw hb h1
    go_enter Tryz.func54, Tryz.ntmps54
    go_wp2_with (go_at_call 121; (with_reducible refine HW.out.mono ?_); rintro e w1 ⟨rfl, hb1⟩; have HB1 := Lib.hid hb1; clear hb1)
    go_ret
    exact ⟨rfl, HB1.out⟩
  | true =>
    rw [h1] at hw
    have HW := Lib.hid hw
    obtain ⟨z, hz⟩ : ∃ z, keyB b = z := ⟨_, rfl⟩
    rw [hz] at HK ⊢
    clear hw hb h1 hz
    go_enter Tryz.func54, Tryz.ntmps54
    go_wp2_with (first
      | (go_at_call 121; (with_reducible refine HW.out.mono ?_); rintro e w1 ⟨rfl, hb1⟩; have HB1 := Lib.hid hb1; clear hb1)
      | (go_at_call 122; (with_reducible refine (HK.out _).mono ?_); rintro e w2 ⟨rfl, rfl⟩))
    go_ret
    exact ⟨tbool (by cases z <;> rfl), HB1.out⟩

/-- The cells of a row of names. -/
theorem RowK.nameAt {K : Nat → Prop} {w : World} {a : Option Addr} {c : Nat} {l : List (List UInt8)} (h : RowK nameD K w (.slice a l.length c) l) {j : Nat} {b : List UInt8} (hj : l[j]? = some b) : ∃ g o, a = some ⟨g, o, none⟩ ∧ w.cell? ⟨g, o + j, none⟩ = some (.string (strB b)) := by
  obtain ⟨a', c', e, _, h⟩ := h
  injection e with e1 e2 e3
  obtain ⟨g, o, cs, ea, hg, hp, hc⟩ := h j b hj
  have hp' : cs = [.string (strB b)] := hp
  subst hp'
  have := hc 0 _ rfl
  exact ⟨g, o, e1.trans ea, by simpa [nameD] using this⟩

theorem containsRow_calls {K : Nat → Prop} {w : World} {a : Option Addr} {c : Nat} {l : List (List UInt8)} (h : RowK nameD K w (.slice a l.length c) l) (hl : l.length ≤ 1000000) (m : Nat) (hm : m ≤ l.length) (c' : Nat) (x : List UInt8) :
    Calls Tryz.prog 191 #[.slice a m c', .string (strB x)] w fun e w' => e = .returned (.bool (decide (x ∈ l.take m))) ∧ w' = w := by
  by_cases h0 : m = 0
  · subst h0
    refine (Tryz.slices_Contains_string_empty a c' (strB x) w).mono ?_
    rintro e w' ⟨rfl, rfl⟩
    exact ⟨by simp, rfl⟩
  · have h1 : ∃ b, l[0]? = some b := ⟨_, List.getElem?_eq_getElem (by omega)⟩
    obtain ⟨b0, hb0⟩ := h1
    obtain ⟨g, o, rfl, _⟩ := h.nameAt hb0
    refine (Tryz.slices_Contains_string g o m c' (l.map strB) (strB x) w (by simpa using hm) (by omega) (fun j hj => ?_)).mono ?_
    · rw [List.length_map] at hj
      obtain ⟨g', o', e, h2⟩ := h.nameAt (List.getElem?_eq_getElem hj)
      injection e with e
      injection e with e1 e2
      subst e1 e2
      rw [h2]
      simp [List.getD, hj]
    · rintro e w' ⟨rfl, rfl⟩
      refine ⟨?_, rfl⟩
      have e1 : containsS ((l.map strB).take m) (strB x) = decide (x ∈ l.take m) := by
        rw [← List.map_take, Bool.eq_iff_iff, containsS_iff, decide_eq_true_eq, List.mem_map]
        exact ⟨fun ⟨y, hy, e⟩ => by
          have : y = x := by rw [← strB_list y, ← strB_list x, e]
          rw [← this]; exact hy, fun h => ⟨x, h, rfl⟩⟩
      rw [e1]

/-- So far all are names, and unlike. -/
def UnTo (l : List (List UInt8)) (j : Nat) : Prop := (∀ b ∈ l.take j, nameB b = true) ∧ (l.take j).Nodup
theorem UnTo.next {l : List (List UInt8)} {j : Nat} {x : List UInt8} (h : UnTo l j) (hx : l[j]? = some x) (h1 : nameB x = true) (h2 : x ∉ l.take j) : UnTo l (j + 1) := by
  unfold UnTo
  rw [List.take_add_one, hx]
  refine ⟨fun b hb => ?_, ?_⟩
  · rcases List.mem_append.1 hb with hb | hb
    · exact h.1 b hb
    · obtain rfl : b = x := by simpa using hb
      exact h1
  · rw [List.nodup_append]
    exact ⟨h.2, by simp, fun a ha b hb => by
      obtain rfl : b = x := by simpa using hb
      exact fun e => h2 (e ▸ ha)⟩
theorem unlikeB_name {l : List (List UInt8)} {j : Nat} {x : List UInt8} (hx : l[j]? = some x) (h1 : nameB x = false) : unlikeB l = false := by
  unfold unlikeB
  have : l.all nameB = false := List.all_eq_false.2 ⟨x, List.mem_of_getElem? hx, by simp [h1]⟩
  rw [this]; rfl
theorem unlikeB_twice {l : List (List UInt8)} {j : Nat} {x : List UInt8} (hx : l[j]? = some x) (h2 : x ∈ l.take j) : unlikeB l = false := by
  unfold unlikeB
  have : ¬ l.Nodup := fun hn => by
    have h3 : (l.take (j + 1)).Nodup := hn.sublist (List.take_sublist _ _)
    rw [List.take_add_one, hx, List.nodup_append] at h3
    exact h3.2.2 x h2 x (by simp) rfl
  simp [this]
theorem unlikeB_all {l : List (List UInt8)} (h : UnTo l l.length) : unlikeB l = true := by
  obtain ⟨h1, h2⟩ := h
  rw [List.take_length] at h1 h2
  unfold unlikeB
  simp only [Bool.and_eq_true, List.all_eq_true, decide_eq_true_eq]
  exact ⟨h1, h2⟩

theorem names_upto (a : Option Addr) (n c m : Nat) (hm : m ≤ n) (hn : n ≤ c) (W : World) : (Instr.slice 60 (.slice a n c) none (some (.int .i64 m)) none).run Tryz.prog W = .ok (.slice a m c) W := by
  have hz : (sizeOf 9).run Tryz.prog W = .ok 1 W := by kernel_rfl
  rw [run_slice_h (P := Tryz.prog) W 60 a n c (by kernel_rfl) .i64 (m : Int) (by omega) (by omega)]
  have he : Tryz.prog.elem 60 = 9 := by kernel_rfl
  rw [he, hz]
  cases a <;> simp [Result.andThen, sliced, Addr.add]

set_option maxHeartbeats 1000000 in
set_option maxRecDepth 100000 in
theorem unlike_calls {K : Nat → Prop} {w : World} {a : Option Addr} {c : Nat} {l : List (List UInt8)} (h : RowK nameD K w (.slice a l.length c) l) (hl : l.length ≤ 1000000) (hb : ∀ b ∈ l, b.length ≤ 1000000) :
    Calls Tryz.prog 118 #[.slice a l.length c] w fun e w' => e = .returned (.bool (unlikeB l)) ∧ Below w.heap.size w w' := by
  have hc := h.cap
  have H := Lib.hid h
  obtain ⟨q, hq⟩ : ∃ q, l.length = q := ⟨_, rfl⟩
  have HQ := Lib.hid hq
  have HBD := Lib.hid hb
  obtain ⟨z, hz⟩ : ∃ z, unlikeB l = z := ⟨_, rfl⟩
  have HZ := Lib.hid hz
  rw [hz]
  rw [hq] at hc hl ⊢
  clear h hq hb hz
  go_enter Tryz.func118, Tryz.ntmps118
  go_wp2
  go_loopw [7] (fun i wr => ∃ j : Nat, i = .int .i64 j ∧ j ≤ q ∧ Hid (UnTo l j) ∧ Hid (Below w.heap.size w wr)) (fun i _ => q - (RowKit.intOf i).toNat)
  case atStart => exact ⟨0, rfl, Nat.zero_le _, ⟨fun b hb => by simp at hb, by simp⟩, Below.refl _ _⟩
  case round =>
    obtain ⟨j, rfl, hj, HU, HB⟩ := hrel
    by_cases hlt : j < q
    · obtain ⟨x, hx⟩ : ∃ x, l[j]? = some x := ⟨_, List.getElem?_eq_getElem (by rw [HQ.out]; exact hlt)⟩
      have hr := H.out.low HB.out
      obtain ⟨g, o, rfl, hcell⟩ := hr.nameAt hx
      have HN := Lib.hid (nameOk_calls x wr (HBD.out x (List.mem_of_getElem? hx)))
      have HX := Lib.hid hx
      cases hnm : nameB x with
      | false =>
        rw [hnm] at HN
        have hz0 : z = false := HZ.out.symm.trans (unlikeB_name hx hnm)
        subst hz0
        clear hr hx hnm
        go_wp2_with (go_at_call 54; (with_reducible refine HN.out.mono ?_); rintro e w1 ⟨rfl, hb1⟩; have HB1 := Lib.hid (HB.out.trans (hb1.mono HB.out.size)); clear hb1)
        go_ret
        exact ⟨rfl, HB1.out⟩
      | true =>
        rw [hnm] at HN
        have hsl := names_upto (some ⟨g, o, none⟩) q c j (by omega) hc
        have hr' := hr
        rw [HQ.out] at hr'
        have HCT : Hid (∀ W, Below wr.heap.size wr W → Calls Tryz.prog 191 #[.slice (some ⟨g, o, none⟩) j c, .string (strB x)] W fun e w' => e = .returned (.bool (decide (x ∈ l.take j))) ∧ w' = W) := fun W hW => containsRow_calls (hr.low hW) (by rw [HQ.out]; exact hl) j (by rw [HQ.out]; exact hj) c x
        have HNM := Lib.hid hnm
        obtain ⟨t, ht⟩ : ∃ t, decide (x ∈ l.take j) = t := ⟨_, rfl⟩
        rw [ht] at HCT
        have HT := Lib.hid ht
        clear hr hr' hx hnm ht
        cases t with
        | true =>
          have hz0 : z = false := HZ.out.symm.trans (unlikeB_twice HX.out (of_decide_eq_true HT.out))
          subst hz0
          go_wp2_with (first
            | (go_at_call 54; (with_reducible refine HN.out.mono ?_); rintro e w1 ⟨rfl, hb1⟩; have HB1 := Lib.hid (HB.out.trans (hb1.mono HB.out.size)); have HC1 := Lib.hid (HCT.out _ hb1); clear hb1)
            | (go_at_call 191; (with_reducible refine HC1.out.mono ?_); rintro e w2 ⟨rfl, rfl⟩))
          go_ret
          exact ⟨rfl, HB1.out⟩
        | false =>
          have HU2 := Lib.hid (HU.out.next HX.out HNM.out (of_decide_eq_false HT.out))
          go_wp2_with (first
            | (go_at_call 54; (with_reducible refine HN.out.mono ?_); rintro e w1 ⟨rfl, hb1⟩; have HB1 := Lib.hid (HB.out.trans (hb1.mono HB.out.size)); have HC1 := Lib.hid (HCT.out _ hb1); clear hb1)
            | (go_at_call 191; (with_reducible refine HC1.out.mono ?_); rintro e w2 ⟨rfl, rfl⟩))
          go_round
          case rel => exact ⟨j + 1, by go_num, by omega, HU2, HB1⟩
          case measure => simp [RowKit.intOf]; omega
    · have hz0 : z = true := HZ.out.symm.trans (unlikeB_all (by rw [HQ.out, show q = j by omega]; exact HU.out))
      subst hz0
      go_wp2
      go_ret
      exact ⟨rfl, HB.out⟩

end Go.Proofs.YtifacoompbngaaaGreatDoor
namespace Go.Proofs.YtifacoompbngaaaGreatDoor
open Go.RowKit Go.Lib Go.Op

section
variable {w : World} {a : Option Addr} {c : Nat} {l : List (List UInt8)}

set_option maxRecDepth 100000 in
theorem ritem_low (n : Nat) (no : Bool) (x : ByteArray) (mode : Int) (h1 : mode < 1) : Calls Tryz.prog 117 #[.agg #[.bool no, .slice a n c, .string x, .int .i64 mode]] w fun e w' => e = .returned (.bool false) ∧ Below w.heap.size w w' := by
  have HB := Lib.hid ((Below.refl w.heap.size w).alloc (Nat.le_refl _) (.cells #[.bool no, .slice a n c, .string x, .int .i64 mode] 62))
  have t1 : decide (mode < 1) = true := decide_eq_true h1
  clear h1
  go_enter Tryz.func117, Tryz.ntmps117
  go_wp2
  go_ret
  exact ⟨rfl, HB.out⟩
set_option maxRecDepth 100000 in
theorem ritem_high (n : Nat) (no : Bool) (x : ByteArray) (mode : Int) (h1 : ¬ mode < 1) (h2 : 3 < mode) : Calls Tryz.prog 117 #[.agg #[.bool no, .slice a n c, .string x, .int .i64 mode]] w fun e w' => e = .returned (.bool false) ∧ Below w.heap.size w w' := by
  have HB := Lib.hid ((Below.refl w.heap.size w).alloc (Nat.le_refl _) (.cells #[.bool no, .slice a n c, .string x, .int .i64 mode] 62))
  have t1 : decide (mode < 1) = false := decide_eq_false h1
  have t2 : decide (3 < mode) = true := decide_eq_true h2
  clear h1 h2
  go_enter Tryz.func117, Tryz.ntmps117
  go_wp2
  go_ret
  exact ⟨rfl, HB.out⟩
set_option maxRecDepth 100000 in
theorem ritem_not (n : Nat) (no : Bool) (x : ByteArray) (mode : Int) (h1 : ¬ mode < 1) (h2 : ¬ 3 < mode) (hno : no = true) (h3 : mode ≠ 1) : Calls Tryz.prog 117 #[.agg #[.bool no, .slice a n c, .string x, .int .i64 mode]] w fun e w' => e = .returned (.bool false) ∧ Below w.heap.size w w' := by
  have HB := Lib.hid ((Below.refl w.heap.size w).alloc (Nat.le_refl _) (.cells #[.bool no, .slice a n c, .string x, .int .i64 mode] 62))
  have t1 : decide (mode < 1) = false := decide_eq_false h1
  have t2 : decide (3 < mode) = false := decide_eq_false h2
  have t3 : (mode != 1) = true := by rw [bne_iff_ne]; exact h3
  subst hno
  clear h1 h2 h3
  go_enter Tryz.func117, Tryz.ntmps117
  go_wp2
  go_ret
  exact ⟨rfl, HB.out⟩
set_option maxRecDepth 100000 in
theorem ritem_none (no : Bool) (x : ByteArray) (mode : Int) (h1 : ¬ mode < 1) (h2 : ¬ 3 < mode) (h3 : no = false ∨ mode = 1) (n : Nat) (hn : n = 0) : Calls Tryz.prog 117 #[.agg #[.bool no, .slice a n c, .string x, .int .i64 mode]] w fun e w' => e = .returned (.bool false) ∧ Below w.heap.size w w' := by
  have t1 : decide (mode < 1) = false := decide_eq_false h1
  have t2 : decide (3 < mode) = false := decide_eq_false h2
  subst hn
  have HB := Lib.hid ((Below.refl w.heap.size w).alloc (Nat.le_refl _) (.cells #[.bool no, .slice a 0 c, .string x, .int .i64 mode] 62))
  clear h1 h2
  cases no with
  | false =>
    clear h3
    go_enter Tryz.func117, Tryz.ntmps117
    go_wp2
    go_ret
    exact ⟨rfl, HB.out⟩
  | true =>
    have h3' : mode = 1 := h3.resolve_left (by simp)
    subst h3'
    have t3 : ((1 : Int) != 1) = false := rfl
    clear h3
    go_enter Tryz.func117, Tryz.ntmps117
    go_wp2
    go_ret
    exact ⟨rfl, HB.out⟩
set_option maxRecDepth 100000 in
theorem ritem_many (no : Bool) (x : ByteArray) (mode : Int) (h1 : ¬ mode < 1) (h2 : ¬ 3 < mode) (h3 : no = false ∨ mode = 1) (n : Nat) (hn : 3 < n) : Calls Tryz.prog 117 #[.agg #[.bool no, .slice a n c, .string x, .int .i64 mode]] w fun e w' => e = .returned (.bool false) ∧ Below w.heap.size w w' := by
  have t1 : decide (mode < 1) = false := decide_eq_false h1
  have t2 : decide (3 < mode) = false := decide_eq_false h2
  have u1 : decide (0 < n) = true := decide_eq_true (by omega)
  have u2 : decide ((n : Int) ≤ 3) = false := decide_eq_false (by omega)
  have HB := Lib.hid ((Below.refl w.heap.size w).alloc (Nat.le_refl _) (.cells #[.bool no, .slice a n c, .string x, .int .i64 mode] 62))
  clear h1 h2
  cases no with
  | false =>
    clear h3
    go_enter Tryz.func117, Tryz.ntmps117
    go_wp2
    go_ret
    exact ⟨rfl, HB.out⟩
  | true =>
    have h3' : mode = 1 := h3.resolve_left (by simp)
    subst h3'
    have t3 : ((1 : Int) != 1) = false := rfl
    clear h3
    go_enter Tryz.func117, Tryz.ntmps117
    go_wp2
    go_ret
    exact ⟨rfl, HB.out⟩
set_option maxRecDepth 100000 in
theorem ritem_some (no : Bool) (x : ByteArray) (mode : Int) (h1 : ¬ mode < 1) (h2 : ¬ 3 < mode) (h3 : no = false ∨ mode = 1) (n : Nat) (hn : 0 < n) (hn3 : n ≤ 3) (z : Bool) (hu : ∀ W, Below w.heap.size w W → Calls Tryz.prog 118 #[.slice a n c] W fun e w' => e = .returned (.bool z) ∧ Below W.heap.size W w') : Calls Tryz.prog 117 #[.agg #[.bool no, .slice a n c, .string x, .int .i64 mode]] w fun e w' => e = .returned (.bool z) ∧ Below w.heap.size w w' := by
  have t1 : decide (mode < 1) = false := decide_eq_false h1
  have t2 : decide (3 < mode) = false := decide_eq_false h2
  have u1 : decide (0 < n) = true := decide_eq_true hn
  have u2 : decide ((n : Int) ≤ 3) = true := decide_eq_true (by omega)
  have HU := Lib.hid hu
  clear hu hn hn3
  have HB := Lib.hid ((Below.refl w.heap.size w).alloc (Nat.le_refl _) (.cells #[.bool no, .slice a n c, .string x, .int .i64 mode] 62))
  clear h1 h2
  cases no with
  | false =>
    clear h3
    go_enter Tryz.func117, Tryz.ntmps117
    go_wp2_with (go_at_call 118; (with_reducible refine (HU.out _ HB.out).mono ?_); rintro e w1 ⟨rfl, hb1⟩; have HB1 := Lib.hid (HB.out.trans (hb1.mono HB.out.size)); clear hb1)
    go_ret
    exact ⟨tbool (by cases z <;> rfl), HB1.out⟩
  | true =>
    have h3' : mode = 1 := h3.resolve_left (by simp)
    subst h3'
    have t3 : ((1 : Int) != 1) = false := rfl
    clear h3
    go_enter Tryz.func117, Tryz.ntmps117
    go_wp2_with (go_at_call 118; (with_reducible refine (HU.out _ HB.out).mono ?_); rintro e w1 ⟨rfl, hb1⟩; have HB1 := Lib.hid (HB.out.trans (hb1.mono HB.out.size)); clear hb1)
    go_ret
    exact ⟨tbool (by cases z <;> rfl), HB1.out⟩

theorem rightItem_calls {K : Nat → Prop} (i : PIt) (h : RowK nameD K w (.slice a i.ns.length c) i.ns) (hl : i.ns.length ≤ 1000000) (hb : ∀ b ∈ i.ns, b.length ≤ 1000000) (x : ByteArray) :
    Calls Tryz.prog 117 #[.agg #[.bool i.no, .slice a i.ns.length c, .string x, .int .i64 i.mode]] w fun e w' => e = .returned (.bool (rightI i)) ∧ Below w.heap.size w w' := by
  unfold rightI
  by_cases h1 : i.mode < 1
  · rw [if_pos (.inl h1)]
    exact ritem_low _ _ _ _ h1
  by_cases h2 : 3 < i.mode
  · rw [if_pos (.inr (.inl h2))]
    exact ritem_high _ _ _ _ h1 h2
  by_cases h3 : i.no = true ∧ i.mode ≠ 1
  · rw [if_pos (.inr (.inr h3))]
    exact ritem_not _ _ _ _ h1 h2 h3.1 h3.2
  rw [if_neg (fun e => e.elim h1 (fun e => e.elim h2 h3))]
  have h3' : i.no = false ∨ i.mode = 1 := by
    cases hno : i.no with
    | false => exact .inl rfl
    | true =>
      right
      by_cases hm : i.mode = 1
      · exact hm
      · exact absurd ⟨hno, hm⟩ h3
  by_cases hn : i.ns.length = 0
  · rw [show decide (0 < i.ns.length ∧ i.ns.length ≤ 3) = false by simp; omega]
    exact ritem_none _ _ _ h1 h2 h3' _ hn
  by_cases hn3 : 3 < i.ns.length
  · rw [show decide (0 < i.ns.length ∧ i.ns.length ≤ 3) = false by simp; omega]
    exact ritem_many _ _ _ h1 h2 h3' _ hn3
  rw [show decide (0 < i.ns.length ∧ i.ns.length ≤ 3) = true by simp; omega, Bool.true_and]
  exact ritem_some _ _ _ h1 h2 h3' _ (by omega) (by omega) _ (fun W hW => unlike_calls (h.low hW) hl hb)
end

end Go.Proofs.YtifacoompbngaaaGreatDoor

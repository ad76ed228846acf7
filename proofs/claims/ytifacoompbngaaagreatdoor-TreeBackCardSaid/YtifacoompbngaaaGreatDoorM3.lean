/- Queries: names, items, predicates in rows. | Queries: names, one behind the other. | Queries: items. | Queries: items, one behind the other. | Queries: predicates. -/
import Derived.Test.YtifacoompbngaaaGreatDoorM2
import Derived.Test.YtifacoompbngaaaGreatDoorV4
namespace Go.Proofs.YtifacoompbngaaaGreatDoor
open Go.RowKit Go.Lib Go.Op

def nameD : RowD (List UInt8) where
  k := 1
  P := fun _ _ cs b => cs = [.string (strB b)]
  len := fun h => by rw [h]; rfl
  one := fun h u hu => by rw [h] at hu; rw [List.mem_singleton.1 hu]; rfl
  keep := fun _ h => h
  mono := fun _ h => h
  ne := fun _ h => h
def itemD : RowD PIt where
  k := 4
  P := fun K w cs i => ∃ a c, cs = [.bool i.no, .slice a i.ns.length c, .string (strB i.x), .int .i64 i.mode] ∧ RowK nameD K w (.slice a i.ns.length c) i.ns
  len := fun ⟨a, c, h, _⟩ => by rw [h]; rfl
  one := fun ⟨a, c, h, _⟩ u hu => by
    rw [h] at hu
    simp only [List.mem_cons, List.not_mem_nil, or_false] at hu
    rcases hu with rfl | rfl | rfl | rfl <;> rfl
  keep := fun hf ⟨a, c, h, hr⟩ => ⟨a, c, h, hr.keep hf⟩
  mono := fun hs ⟨a, c, h, hr⟩ => ⟨a, c, h, hr.mono hs⟩
  ne := fun hb ⟨a, c, h, hr⟩ => ⟨a, c, h, hr.ne (by decide) hb⟩
def exL (x : PEx) (kv : Value) : List Value := [.int .i64 x.k, .int .i64 x.v.k, .int .i64 x.v.n, .string (strB x.v.s), .string (strB x.x), .string (strB x.f), kv]
def predD : RowD PPr where
  k := 15
  P := fun K w cs p => ∃ a q c b r e d, cs = .int .i64 p.cmp :: (exL p.l (.slice a q c) ++ exL p.r (.slice b r e)) ∧ ExK K w d (.slice a q c) p.l.ks ∧ ExK K w d (.slice b r e) p.r.ks
  len := fun ⟨a, q, c, b, r, e, d, h, _⟩ => by rw [h]; rfl
  one := fun ⟨a, q, c, b, r, e, d, h, _⟩ u hu => by
    rw [h] at hu
    simp only [exL, List.cons_append, List.nil_append, List.mem_cons, List.not_mem_nil, or_false] at hu
    rcases hu with rfl | rfl | rfl | rfl | rfl | rfl | rfl | rfl | rfl | rfl | rfl | rfl | rfl | rfl | rfl <;> rfl
  keep := fun hf ⟨a, q, c, b, r, e, d, h, h1, h2⟩ => ⟨a, q, c, b, r, e, d, h, h1.keep hf, h2.keep hf⟩
  mono := fun hs ⟨a, q, c, b, r, e, d, h, h1, h2⟩ => ⟨a, q, c, b, r, e, d, h, h1.mono hs, h2.mono hs⟩
  ne := fun hb ⟨a, q, c, b, r, e, d, h, h1, h2⟩ => ⟨a, q, c, b, r, e, d, h, ExK.ne hb h1, ExK.ne hb h2⟩

theorem strI : (Tryz.prog.info? 9).map (fun i => (i.zero, i.size, i.bytes)) = some (some (.string .empty), 1, 16) := by kernel_rfl
theorem itemI : (Tryz.prog.info? 62).map (fun i => (i.zero, i.size, i.bytes)) = some (some (.agg #[.bool false, .slice none 0 0, .string .empty, .int .i64 0]), 4, 56) := by kernel_rfl
theorem predI : (Tryz.prog.info? 40).map (fun i => (i.zero, i.size, i.bytes)) = some (some (.agg #[.int .i64 0, .int .i64 0, .int .i64 0, .int .i64 0, .string .empty, .string .empty, .string .empty, .slice none 0 0, .int .i64 0, .int .i64 0, .int .i64 0, .string .empty, .string .empty, .string .empty, .slice none 0 0]), 15, 200) := by kernel_rfl

section
variable {α : Type} {E : Nat} {b : List UInt8} {one : RS → α × RS} {n : Nat} {l : List α} {s : RS}
theorem rowT_end (h : isT E s 1 b = false) : rowT E b one n l s = (l, s) := by
  cases n with
  | zero => rfl
  | succ n => rw [rowT, h]; rfl
theorem rowT_more (h : isT E s 1 b = true) : rowT E b one (n + 1) l s = rowT E b one n (l ++ [(one (takeT E s 1 b).2).1]) (one (takeT E s 1 b).2).2 := by rw [rowT, h]; rfl
theorem rowT_le (hle : ∀ s, (one s).2.l.length ≤ s.l.length) : ∀ (n : Nat) (l : List α) (s : RS), (rowT E b one n l s).2.l.length ≤ s.l.length
  | 0, l, s => Nat.le_refl _
  | n + 1, l, s => by
    rw [rowT]
    split
    · exact Nat.le_trans (rowT_le hle n _ _) (Nat.le_trans (hle _) (takeT_le _ _))
    · exact Nat.le_refl _
theorem rowT_deep (hdp : ∀ s, (one s).2.deep = s.deep) : ∀ (n : Nat) (l : List α) (s : RS), (rowT E b one n l s).2.deep = s.deep
  | 0, l, s => rfl
  | n + 1, l, s => by
    rw [rowT]
    split
    · rw [rowT_deep hdp n _ _, hdp, takeT_deep]
    · rfl
theorem row1T_le (hle : ∀ s, (one s).2.l.length ≤ s.l.length) (n : Nat) (s : RS) : (row1T E b one n s).2.l.length ≤ s.l.length := Nat.le_trans (rowT_le hle n _ _) (hle s)
theorem row1T_deep (hdp : ∀ s, (one s).2.deep = s.deep) (n : Nat) (s : RS) : (row1T E b one n s).2.deep = s.deep := (rowT_deep hdp n _ _).trans (hdp s)
end

/-- What is held in a round of row: l is read so far; what comes of all, is z. -/
structure RowIn {α : Type} (D : RowD α) (R T E m : Nat) (t : TypeId) (b : List UInt8) (one : RS → α × RS) (z : List α × RS) (w wr : World) (v : Value) (n : Nat) (l : List α) (s : RS) : Prop where
  own : OwnP D wr w.heap.size t v l
  rt : RdTo R T E s w wr
  is : rowT E b one n l s = z
  len : s.l.length ≤ n ∧ s.l.length ≤ m ∧ l.length + s.l.length ≤ 501
  ok : DeepOk s
/-- What a call of row leaves. -/
def RowTo {α : Type} (D : RowD α) (R T E : Nat) (p : List α × RS) (w : World) (e : Ending) (w' : World) : Prop := ∃ v, e = .returned v ∧ RowK D (· < w.heap.size) w' v p.1 ∧ RdTo R T E p.2 w w'

end Go.Proofs.YtifacoompbngaaaGreatDoor
namespace Go.Proofs.YtifacoompbngaaaGreatDoor
open Go.RowKit Go.Lib Go.Op

set_option maxHeartbeats 1000000 in
set_option maxRecDepth 100000 in
theorem rowS_calls {w : World} {R T E : Nat} {s : RS} {one : RS → (List UInt8) × RS} {m n : Nat} (hone : ∀ (w : World) (s : RS), RdR w R T E s → DeepOk s → s.l.length ≤ m → Calls Tryz.prog 105 #[.pointer (some ⟨R, 0, none⟩)] w fun e w' => e = .returned (.string (strB (one s).1)) ∧ RdTo R T E (one s).2 w w')
    (hle : ∀ s, (one s).2.l.length ≤ s.l.length) (hdp : ∀ s, (one s).2.deep = s.deep) (b : List UInt8) (h : RdR w R T E s) (hok : DeepOk s) (hm : s.l.length ≤ m) (hn : s.l.length ≤ n) (h5 : s.l.length ≤ 500) :
    Calls Tryz.prog 181 #[.pointer (some ⟨R, 0, none⟩), .string (strB b), .func (.func 105) #[.pointer (some ⟨R, 0, none⟩)] #[]] w (RowTo nameD R T E (row1T E b one n s) w) := by
  have hR := h.lt
  obtain ⟨z, hz⟩ : ∃ z, row1T E b one n s = z := ⟨_, rfl⟩
  rw [hz]
  obtain ⟨⟨y, s1⟩, hys⟩ : ∃ z, one s = z := ⟨_, rfl⟩
  have HO := hone w s h hok hm
  have hl1 := hle s
  have hp1 := hdp s
  rw [hys] at HO hl1 hp1
  dsimp only at HO hl1 hp1
  have HO1 := Lib.hid HO
  have HON := Lib.hid hone
  have hz1 : rowT E b one n [y] s1 = z := by rw [← hz]; unfold row1T; rw [hys]
  have HW := Lib.hid (fun W => word_mark (strB b) W)
  have HX := Lib.hid (And.intro hz1 (And.intro (show s1.l.length ≤ n ∧ s1.l.length ≤ m ∧ [y].length + s1.l.length ≤ 501 from ⟨by omega, by omega, by simp; omega⟩) (hok.le hp1 hl1)))
  clear hone HO hz hz1 hl1 hp1 hys h hok hm hn h5
  go_enter Tryz.func181, Tryz.ntmps181
  go_wp2_with fail
  with_reducible refine HO1.out.mono ?_
  rintro e w1 ⟨rfl, hd1⟩
  have HI : Hid (RowIn nameD R T E m 9 b one z w (w1.alloc (.cells #[.string (strB y)] 9)) (.slice (some ⟨w1.heap.size, 0, none⟩) 1 1) n [y] s1) := by
    have hb1 := (Below.refl w1.heap.size w1).alloc (Nat.le_refl _) (.cells #[.string (strB y)] 9)
    refine ⟨OwnP.first hd1.fr.size (heap_alloc_new w1 _) ?_, hd1.then hb1, HX.out.1, HX.out.2.1, HX.out.2.2⟩
    exact nameD.ne' hb1 (show nameD.P (· < w.heap.size) w1 [.string (strB y)] y from rfl)
  clear hd1 HX HO1 
  go_wp2
  go_loopw [7] (fun v wr => ∃ (n : Nat) (l : List (List UInt8)) (s : RS), Hid (RowIn nameD R T E m 9 b one z w wr v n l s)) (fun _ wr => leftN R wr)
  case atStart => exact ⟨n, [y], s1, HI⟩
  case round =>
    clear HI
    obtain ⟨n2, l, s2, HE⟩ := hrel
    have hE := HE.out
    obtain ⟨va, vc, rfl⟩ := hE.own.slice
    have HL := Lib.hid (leftN_is hE.rt.rd)
    go_wp2_with fail
    with_reducible refine (HW.out _).mono ?_
    rintro e w2 ⟨rfl, hb2⟩
    have D2 := Lib.hid (hE.rt.then hb2)
    have O2 := Lib.hid (hE.own.keep (TFr.of_below (K := fun _ => False) hb2) (fun _ h => h.elim))
    have HZ := Lib.hid (And.intro hE.is (And.intro hE.len hE.ok))
    have htk := takeW_calls D2.out.rd b
    have HTK := Lib.hid htk
    clear hb2 hE HE htk
    cases hp : isT E s2 1 b with
    | false =>
      have hz := HZ.out.1
      rw [rowT_end hp] at hz
      subst hz
      rw [hp, takeT_no hp] at HTK
      clear hp HZ
      go_wp2_with fail
      with_reducible refine HTK.out.mono ?_
      rintro e w3 ⟨rfl, hd3⟩
      have D3 := Lib.hid (D2.out.trans hd3)
      have O3 := Lib.hid (O2.out.keep hd3.fr (fun k e => by omega))
      clear hd3 D2 O2
      go_wp2
      go_ret
      exact ⟨_, rfl, O3.out.row, D3.out⟩
    | true =>
      obtain ⟨n3, rfl⟩ : ∃ n3, n2 = n3 + 1 := by
        have h1 := takeT_lt hp (by decide)
        have h2 := HZ.out.2.1.1
        exact ⟨n2 - 1, by omega⟩
      have hlt := takeT_lt hp (by decide)
      obtain ⟨s3, hs3⟩ : ∃ s3, (takeT E s2 1 b).2 = s3 := ⟨_, rfl⟩
      have hdp3 := takeT_deep (E := E) (s := s2) 1 b
      rw [hs3] at hlt hdp3
      obtain ⟨⟨y2, s4⟩, hys⟩ : ∃ z, one s3 = z := ⟨_, rfl⟩
      have hok3 : DeepOk s3 := HZ.out.2.2.le hdp3 (Nat.le_of_lt hlt)
      have hle4 := hle s3
      have hdp4 := hdp s3
      have his := HZ.out.1
      rw [rowT_more hp, hs3, hys] at his
      rw [hp, hs3] at HTK
      rw [hys] at hle4 hdp4
      dsimp only at hle4 hdp4 his
      have HN := Lib.hid (And.intro his (And.intro (show s4.l.length ≤ n3 ∧ s4.l.length ≤ m ∧ (l ++ [y2]).length + s4.l.length ≤ 501 by have := HZ.out.2.1; rw [List.length_append]; simp; omega) (hok3.le hdp4 hle4)))
      have HLT := Lib.hid (And.intro (show s4.l.length < s2.l.length by omega) (show l.length ≤ 1000 by have := HZ.out.2.1; omega))
      have HT2 : Hid (∀ W, RdR W R T E s3 → Calls Tryz.prog 105 #[.pointer (some ⟨R, 0, none⟩)] W fun e w' => e = .returned (.string (strB y2)) ∧ RdTo R T E s4 W w') := fun W hW => by
        have h := HON.out W s3 hW hok3 (by have := HZ.out.2.1; omega)
        rw [hys] at h
        exact h
      obtain ⟨q, hq⟩ : ∃ q, l.length = q := ⟨_, rfl⟩
      have HQ := Lib.hid hq
      rw [hq] at O2 ⊢
      clear hlt hdp3 hok3 hle4 hdp4 hys his HZ hp hq hs3
      go_wp2_with fail
      with_reducible refine HTK.out.mono ?_
      rintro e w3 ⟨rfl, hd3⟩
      have HT3 := Lib.hid (HT2.out w3 hd3.rd)
      have D3 := Lib.hid (D2.out.trans hd3)
      have O3 := Lib.hid (O2.out.keep hd3.fr (fun k e => by omega))
      clear hd3 D2 O2 HTK HT2
      go_wp2_with fail
      with_reducible refine HT3.out.mono ?_
      rintro e w4 ⟨rfl, hd4⟩
      have HAP : ∃ a9 l9 c9 w9, (Builtin.append_ #[60, 60] 60 #[.slice va q vc, .slice (some ⟨w4.heap.size, 0, none⟩) 1 1]).run Tryz.prog (w4.alloc (.cells #[.string (strB y2)] 9)) = .ok (.slice a9 l9 c9) w9 ∧ Hid (OwnP nameD w9 w.heap.size 9 (.slice a9 l9 c9) (l ++ [y2])) ∧ Hid (RdTo R T E s4 w w9) := by
        have hb5 := (Below.refl w4.heap.size w4).alloc (Nat.le_refl _) (.cells #[.string (strB y2)] 9)
        have o5 := (O3.out.keep hd4.fr (fun k e => by omega)).keep (TFr.of_below (K := fun _ => False) hb5) (fun _ h => h.elim)
        have hw3 := O3.out.own
        have hB := D3.out.fr.size
        have hpp := nameD.at' (B := w.heap.size) (v := .slice va q vc) hb5 hw3 hB (show nameD.P (· < w3.heap.size) w4 [.string (strB y2)] y2 from rfl)
        obtain ⟨v9, w9, hr, ho, hg⟩ := OwnP.append (ts := 60) (ty := 60) (by kernel_rfl) strI rfl (by decide) (by decide) o5 (by have := hd4.fr.size; have := hb5.size; omega) HLT.out.2 hpp (heap_alloc_new w4 _)
        obtain ⟨a9, c9, rfl⟩ := ho.slice
        exact ⟨a9, _, c9, w9, hr, ho, ((D3.out.trans hd4).then hb5).grown hR hg (fun k hk => (o5.own k hk).1)⟩
      obtain ⟨a9, l9, c9, w9, hr9, O9, D9⟩ := HAP
      clear hd4 O3 D3 HT3 
      go_wp2_with (at_builtin; refine Lib.wpList_append_run _ rfl _ _ _ _ rfl _ _ rfl rfl _ _ hr9 ?_; clear hr9)
      refine ⟨⟨n3, l ++ [y2], s4, ?_⟩, ?_⟩
      · exact ⟨O9.out, D9.out, HN.out.1, HN.out.2.1, HN.out.2.2⟩
      · rw [leftN_is D9.out.rd, HL.out]
        exact HLT.out.1

end Go.Proofs.YtifacoompbngaaaGreatDoor
namespace Go.Proofs.YtifacoompbngaaaGreatDoor
open Go.RowKit Go.Lib Go.Op

/-- A block of cells. -/
def Blk (w : World) (b : Nat) (cs : Array Value) (t : TypeId) : Prop := w.heap[b]? = some (.cells cs t (0, 0))
section
variable {w w' : World} {b : Nat} {cs : Array Value} {t : TypeId}
theorem Blk.new (w : World) (cs : Array Value) (t : TypeId) : Blk (w.alloc (.cells cs t)) w.heap.size cs t := heap_alloc_new w _
theorem Blk.keep {K : Nat → Prop} (h : Blk w b cs t) (hf : TFr K w w') (hk : ¬ K b) : Blk w' b cs t := (hf.block b (Array.getElem?_eq_some_iff.1 h).1 hk).trans h
theorem Blk.low (h : Blk w b cs t) (hb : Below w.heap.size w w') : Blk w' b cs t := h.keep (TFr.of_below (K := fun _ => False) hb) id
theorem Blk.set (h : Blk w b cs t) (k : Nat) (v : Value) {cs' : Array Value} (hc : cs.setIfInBounds k v = cs') : Blk (w.setCell ⟨b, k, none⟩ v) b cs' t := by
  subst hc
  exact tsetCell_blk h v
theorem Blk.at (h : Blk w b cs t) {b' : Nat} (hne : b ≠ b') (k : Nat) (v : Value) : Blk (w.setCell ⟨b', k, none⟩ v) b cs t := h.keep (TFr.at b' k v) hne
theorem Blk.lt (h : Blk w b cs t) : b < w.heap.size := (Array.getElem?_eq_some_iff.1 h).1
end
theorem takeT_fst {E : Nat} {s : RS} (k : Nat) (b : List UInt8) : (takeT E s k b).1 = isT E s k b := by
  unfold takeT
  cases isT E s k b <;> rfl
theorem RowK.set {α : Type} {D : RowD α} {K : Nat → Prop} {w : World} {v : Value} {l : List α} (h : RowK D K w v l) {b : Nat} (hb : K b) (k : Nat) (u : Value) : RowK D K (w.setCell ⟨b, k, none⟩ u) v l := h.keepR (TFr.at b k u) hb
theorem RowK.low {α : Type} {D : RowD α} {K : Nat → Prop} {w w' : World} {v : Value} {l : List α} (h : RowK D K w v l) (hb : Below w.heap.size w w') : RowK D K w' v l := h.keep (TFr.of_below hb)

section
variable {E : Nat} {s : RS} {n : Nat}
theorem itemT_le : (itemT E n s).2.l.length ≤ s.l.length := by
  unfold itemT
  exact Nat.le_trans (amongT_le _ _ _) (Nat.le_trans nameT_le (Nat.le_trans (row1T_le (fun _ => nameT_le) n _) (takeT_le _ _)))
theorem itemT_deep : (itemT E n s).2.deep = s.deep := by
  unfold itemT
  dsimp only
  rw [amongT_deep, nameT_deep, row1T_deep (fun _ => nameT_deep), takeT_deep]
theorem predT_le : (predT E n s).2.l.length ≤ s.l.length := by
  unfold predT
  exact Nat.le_trans (exprT_le (termT_le n) n _) (Nat.le_trans (chooseT_le _ _) (exprT_le (termT_le n) n _))
theorem predT_deep : (predT E n s).2.deep = s.deep := by
  unfold predT
  dsimp only
  rw [exprT_deep (termT_deep n), chooseT_deep, exprT_deep (termT_deep n)]
end

set_option maxHeartbeats 1000000 in
set_option maxRecDepth 100000 in
theorem item_calls {w : World} {R T E : Nat} {s : RS} {n : Nat} (h : RdR w R T E s) (hok : DeepOk s) (hn : s.l.length ≤ n) (h5 : s.l.length ≤ 500) : Calls Tryz.prog 100 #[.pointer (some ⟨R, 0, none⟩)] w fun e w' => ∃ a q c, e = .returned (.agg #[.bool (itemT E n s).1.no, .slice a q c, .string (strB (itemT E n s).1.x), .int .i64 (itemT E n s).1.mode]) ∧ itemD.P (· < w.heap.size) w' [.bool (itemT E n s).1.no, .slice a q c, .string (strB (itemT E n s).1.x), .int .i64 (itemT E n s).1.mode] (itemT E n s).1 ∧ RdTo R T E (itemT E n s).2 w w' := by
  have hR := h.lt
  obtain ⟨bn, hbn⟩ : ∃ bn, isT E s 1 wNot = bn := ⟨_, rfl⟩
  obtain ⟨s1, hs1⟩ : ∃ s1, (takeT E s 1 wNot).2 = s1 := ⟨_, rfl⟩
  obtain ⟨⟨ns, s2⟩, hns⟩ : ∃ z, row1T E wOr (nameT E) n s1 = z := ⟨_, rfl⟩
  obtain ⟨⟨x, s3⟩, hx⟩ : ∃ z, nameT E s2 = z := ⟨_, rfl⟩
  obtain ⟨⟨k, s4⟩, hk⟩ : ∃ z, amongT E s3 4 0 modesL = z := ⟨_, rfl⟩
  have hit : itemT E n s = (⟨bn, ns, x, if k = 0 then 1 else (k : Int)⟩, s4) := by
    unfold itemT
    rw [takeT_fst, hbn, hs1, hns]
    dsimp only
    rw [hx]
    dsimp only
    rw [hk]
  rw [hit]
  obtain ⟨md, hmd⟩ : ∃ md, (if k = 0 then 1 else (k : Int)) = md := ⟨_, rfl⟩
  rw [hmd]
  have HMD := Lib.hid hmd
  clear hmd
  have hok1 : DeepOk s1 := by rw [← hs1]; exact hok.le (takeT_deep _ _) (takeT_le _ _)
  have hl1 : s1.l.length ≤ s.l.length := by rw [← hs1]; exact takeT_le _ _
  have hb1 := (Below.refl w.heap.size w).alloc (Nat.le_refl _) (.cells #[.bool false, .slice none 0 0, .string ⟨#[]⟩, .int .i64 0] 62)
  have hb2 := hb1.alloc hb1.size (.cells #[.bool false, .slice none 0 0, .string ⟨#[]⟩, .int .i64 0] 62)
  have P2 := Lib.hid ((Blk.new w #[.bool false, .slice none 0 0, .string ⟨#[]⟩, .int .i64 0] 62).low ((Below.refl _ _).alloc (Nat.le_refl _) (.cells #[.bool false, .slice none 0 0, .string ⟨#[]⟩, .int .i64 0] 62)))
  have hp3 := Blk.new (w.alloc (.cells #[.bool false, .slice none 0 0, .string ⟨#[]⟩, .int .i64 0] 62)) #[.bool false, .slice none 0 0, .string ⟨#[]⟩, .int .i64 0] 62
  rw [show (w.alloc (.cells #[.bool false, .slice none 0 0, .string ⟨#[]⟩, .int .i64 0] 62)).heap.size = w.heap.size + 1 by simp] at hp3
  have P3 := Lib.hid hp3
  have D0 := Lib.hid (RdTo.of_below h hb2)
  have HS := Lib.hid (And.intro hbn (And.intro hs1 (And.intro hns (And.intro hx hk))))
  have HL := Lib.hid (And.intro hok1 (And.intro (show s1.l.length ≤ n by omega) (show s1.l.length ≤ 500 by omega)))
  have HW : Hid (∀ W, Calls Tryz.prog 98 #[.string ⟨#[110, 111, 116]⟩] W fun e w' => e = .returned (.agg #[.int .i64 1, .string ⟨#[110, 111, 116]⟩]) ∧ Below W.heap.size W w') := fun W => word_mark _ W
  clear h hb1 hb2 hp3 hbn hs1 hns hx hk hit hok1 hl1 hok hn h5
  go_enter Tryz.func100, Tryz.ntmps100
  go_wp2_with fail
  with_reducible refine (HW.out _).mono ?_
  rintro e w1 ⟨rfl, hb1⟩
  have D1 := Lib.hid (D0.out.then hb1)
  have Q2 := Lib.hid (P2.out.low hb1)
  have Q3 := Lib.hid (P3.out.low hb1)
  have htk := takeW_calls D1.out.rd wNot
  rw [HS.out.1, HS.out.2.1] at htk
  have HT : Hid (Calls Tryz.prog 101 #[.pointer (some ⟨R, 0, none⟩), .agg #[.int .i64 1, .string ⟨#[110, 111, 116]⟩]] w1 fun e w' => e = .returned (.bool bn) ∧ RdTo R T E s1 w1 w') := htk
  clear hb1 htk D0 P2 P3
  go_wp2_with fail
  with_reducible refine HT.out.mono ?_
  rintro e w2 ⟨rfl, hd2⟩
  have q3 := Q3.out.keep hd2.fr (by omega)
  have c0 := tcell_of_blk q3 (k := 0) rfl
  have c1 := tcell_of_blk q3 (k := 1) rfl
  have c2 := tcell_of_blk q3 (k := 2) rfl
  have c3 := tcell_of_blk q3 (k := 3) rfl
  have fc0 := tfrozen_of_blk q3 (k := 0)
  have fc1 := tfrozen_of_blk q3 (k := 1)
  have fc2 := tfrozen_of_blk q3 (k := 2)
  have fc3 := tfrozen_of_blk q3 (k := 3)
  have D2 := Lib.hid ((D1.out.trans hd2).set hR (b := w.heap.size + 1) (by omega) 0 (.bool bn))
  have P2 := Lib.hid ((Q2.out.keep hd2.fr (by omega)).at (b' := w.heap.size + 1) (by omega) 0 (.bool bn))
  have P3 := Lib.hid (q3.set 0 (.bool bn) rfl)
  have hrow := rowS_calls (m := n) (n := n) (one := nameT E) (fun w s h _ _ => nameR_calls h) (fun _ => nameT_le) (fun _ => nameT_deep) wOr D2.out.rd HL.out.1 HL.out.2.1 HL.out.2.1 HL.out.2.2
  rw [HS.out.2.2.1] at hrow
  have HRow := Lib.hid (show Calls Tryz.prog 181 #[.pointer (some ⟨R, 0, none⟩), .string ⟨#[111, 114]⟩, .func (.func 105) #[.pointer (some ⟨R, 0, none⟩)] #[]] (w2.setCell ⟨w.heap.size + 1, 0, none⟩ (.bool bn)) (RowTo nameD R T E (ns, s2) (w2.setCell ⟨w.heap.size + 1, 0, none⟩ (.bool bn))) from hrow)
  have HSZ := Lib.hid (show w.heap.size + 1 < (w2.setCell ⟨w.heap.size + 1, 0, none⟩ (.bool bn)).heap.size from P3.out.lt)
  clear hd2 q3 hrow D1 Q2 Q3 HT HW
  go_wp2_with fail
  with_reducible refine HRow.out.mono ?_
  rintro e w3 ⟨v, rfl, hrw, hd3⟩
  clear c0 c1 c2 c3 fc0 fc1 fc2 fc3
  obtain ⟨va, vc, rfl⟩ := hrw.slice
  obtain ⟨q, hq⟩ : ∃ q, (ns, s2).1.length = q := ⟨_, rfl⟩
  have hq' : ns.length = q := hq
  rw [hq] at hrw ⊢
  dsimp only at hd3 hrw
  have q3 := P3.out.keep hd3.fr (by omega)
  have c0 := tcell_of_blk q3 (k := 0) rfl
  have c1 := tcell_of_blk q3 (k := 1) rfl
  have c2 := tcell_of_blk q3 (k := 2) rfl
  have c3 := tcell_of_blk q3 (k := 3) rfl
  have fc0 := tfrozen_of_blk q3 (k := 0)
  have fc1 := tfrozen_of_blk q3 (k := 1)
  have fc2 := tfrozen_of_blk q3 (k := 2)
  have fc3 := tfrozen_of_blk q3 (k := 3)
  have D3 := Lib.hid ((D2.out.trans hd3).set hR (b := w.heap.size + 1) (by omega) 1 (.slice va q vc))
  have Q2 := Lib.hid ((P2.out.keep hd3.fr (by omega)).at (b' := w.heap.size + 1) (by omega) 1 (.slice va q vc))
  have Q3 := Lib.hid (q3.set 1 (.slice va q vc) rfl)
  have KR := Lib.hid (hrw.set (b := w.heap.size + 1) HSZ.out 1 (.slice va q vc))
  have HN : Hid (Calls Tryz.prog 105 #[.pointer (some ⟨R, 0, none⟩)] (w3.setCell ⟨w.heap.size + 1, 1, none⟩ (.slice va q vc)) fun e w' => e = .returned (.string (strB x)) ∧ RdTo R T E s3 (w3.setCell ⟨w.heap.size + 1, 1, none⟩ (.slice va q vc)) w') := by
    have h := nameR_calls D3.out.rd
    rw [HS.out.2.2.2.1] at h
    exact h
  have HQ := Lib.hid hq'
  clear hq hq' hrw hd3 q3 D2 P2 P3 HRow
  go_wp2_with fail
  with_reducible refine HN.out.mono ?_
  rintro e w4 ⟨rfl, hd4⟩
  clear c0 c1 c2 c3 fc0 fc1 fc2 fc3
  have q3 := Q3.out.keep hd4.fr (by omega)
  have c0 := tcell_of_blk q3 (k := 0) rfl
  have c1 := tcell_of_blk q3 (k := 1) rfl
  have c2 := tcell_of_blk q3 (k := 2) rfl
  have c3 := tcell_of_blk q3 (k := 3) rfl
  have fc0 := tfrozen_of_blk q3 (k := 0)
  have fc1 := tfrozen_of_blk q3 (k := 1)
  have fc2 := tfrozen_of_blk q3 (k := 2)
  have fc3 := tfrozen_of_blk q3 (k := 3)
  have D4 := Lib.hid ((D3.out.trans hd4).set hR (b := w.heap.size + 1) (by omega) 2 (.string (strB x)))
  have P2 := Lib.hid ((Q2.out.keep hd4.fr (by omega)).at (b' := w.heap.size + 1) (by omega) 2 (.string (strB x)))
  have P3 := Lib.hid (q3.set 2 (.string (strB x)) rfl)
  have KS := Lib.hid ((KR.out.keepR hd4.fr (by have := HSZ.out; show R < _; omega)).set (b := w.heap.size + 1) HSZ.out 2 (.string (strB x)))
  have HM := Lib.hid (fun W => modes_calls W)
  clear hd4 q3 D3 Q2 Q3 KR HN
  go_wp2_with fail
  with_reducible refine (HM.out _).mono ?_
  rintro e w5 ⟨rfl, hb5⟩
  clear c0 c1 c2 c3 fc0 fc1 fc2 fc3
  have D5 := Lib.hid (D4.out.then hb5)
  have Q2 := Lib.hid (P2.out.low hb5)
  have Q3 := Lib.hid (P3.out.low hb5)
  have KR := Lib.hid (KS.out.low hb5)
  have ham := amongS_calls D5.out.rd modesL rfl
  rw [HS.out.2.2.2.2] at ham
  have HA := Lib.hid ham
  clear hb5 ham D4 P2 P3 KS HM
  go_wp2_with fail
  with_reducible refine HA.out.mono ?_
  rintro e w6 ⟨rfl, hd6⟩
  have hb7 := (Below.refl w6.heap.size w6).alloc (Nat.le_refl _) (.cells #[.int .i64 k, .int .i64 1] 3)
  have D6 := Lib.hid ((D5.out.trans hd6).then hb7)
  have P2 := Lib.hid ((Q2.out.keep hd6.fr (by omega)).low hb7)
  have P3 := Lib.hid ((Q3.out.keep hd6.fr (by omega)).low hb7)
  have KS := Lib.hid ((KR.out.keepR hd6.fr (by have := HSZ.out; show R < _; omega)).low hb7)
  have HO := Lib.hid (or_calls (k : Int) 1 w6.heap.size 2 (w6.alloc (.cells #[.int .i64 k, .int .i64 1] 3)) (tnew _ _ _ 0 rfl) (tnew _ _ _ 1 rfl))
  have hif : (if (k : Int) ≠ 0 then (k : Int) else 1) = if k = 0 then 1 else (k : Int) := by
    by_cases hk0 : k = 0
    · subst hk0; rfl
    · rw [if_neg hk0, if_pos (by omega)]
  rw [hif] at HO
  rw [HMD.out] at HO
  clear hd6 hb7 hif D5 Q2 Q3 KR HA
  go_wp2_with fail
  with_reducible refine HO.out.mono ?_
  rintro e w7 ⟨rfl, rfl⟩
  have q3 := P3.out
  have c0 := tcell_of_blk q3 (k := 0) rfl
  have c1 := tcell_of_blk q3 (k := 1) rfl
  have c2 := tcell_of_blk q3 (k := 2) rfl
  have c3 := tcell_of_blk q3 (k := 3) rfl
  have fc0 := tfrozen_of_blk q3 (k := 0)
  have fc1 := tfrozen_of_blk q3 (k := 1)
  have fc2 := tfrozen_of_blk q3 (k := 2)
  have fc3 := tfrozen_of_blk q3 (k := 3)
  have D7 := Lib.hid (D6.out.set hR (b := w.heap.size + 1) (by omega) 3 (.int .i64 md))
  have p2 := P2.out.at (b' := w.heap.size + 1) (by omega) 3 (.int .i64 md)
  have p3 := q3.set 3 (.int .i64 md) rfl
  have d0 := tcell_of_blk p3 (k := 0) rfl
  have d1 := tcell_of_blk p3 (k := 1) rfl
  have d2 := tcell_of_blk p3 (k := 2) rfl
  have d3 := tcell_of_blk p3 (k := 3) rfl
  have fd0 := tfrozen_of_blk p3 (k := 0)
  have fd1 := tfrozen_of_blk p3 (k := 1)
  have fd2 := tfrozen_of_blk p3 (k := 2)
  have fd3 := tfrozen_of_blk p3 (k := 3)
  have r0 := tcell_of_blk p2 (k := 0) rfl
  have r1 := tcell_of_blk p2 (k := 1) rfl
  have r2 := tcell_of_blk p2 (k := 2) rfl
  have r3 := tcell_of_blk p2 (k := 3) rfl
  have fr0 := tfrozen_of_blk p2 (k := 0)
  have fr1 := tfrozen_of_blk p2 (k := 1)
  have fr2 := tfrozen_of_blk p2 (k := 2)
  have fr3 := tfrozen_of_blk p2 (k := 3)
  have KT := Lib.hid (KS.out.set (b := w.heap.size + 1) HSZ.out 3 (.int .i64 md))
  clear q3 p2 p3 D6 P2 P3 KS HO HS HL
  go_wp2
  refine bodyPost_ret (v := .agg #[.bool bn, .slice va q vc, .string (strB x), .int .i64 md]) (by simp [results, Tryz.results100, go_sem, r0, r1, r2, r3]) rfl ⟨va, q, vc, ?_, ?_, ?_⟩
  · rfl
  · refine ⟨va, vc, ?_, ?_⟩
    · show _ = [Value.bool bn, .slice va ns.length vc, .string (strB x), .int .i64 md]
      rw [HQ.out]
    · have hz := HSZ.out
      have hk := (((KT.out.set (b := w.heap.size) (by show w.heap.size < _; omega) 0 (.bool bn)).set (b := w.heap.size) (by show w.heap.size < _; omega) 1 (.slice va q vc)).set (b := w.heap.size) (by show w.heap.size < _; omega) 2 (.string (strB x))).set (b := w.heap.size) (by show w.heap.size < _; omega) 3 (.int .i64 md)
      show RowK nameD _ _ (.slice va ns.length vc) ns
      rw [HQ.out]
      exact hk.mono (fun k hk => Nat.lt_trans (Nat.lt_trans hk (Nat.lt_succ_self _)) hz)
  · exact (((D7.out.set hR (Nat.le_refl _) _ _).set hR (Nat.le_refl _) _ _).set hR (Nat.le_refl _) _ _).set hR (Nat.le_refl _) _ _

end Go.Proofs.YtifacoompbngaaaGreatDoor
namespace Go.Proofs.YtifacoompbngaaaGreatDoor
open Go.RowKit Go.Lib Go.Op

set_option maxHeartbeats 1000000 in
set_option maxRecDepth 100000 in
theorem rowI_calls {w : World} {R T E : Nat} {s : RS} {one : RS → PIt × RS} {m n : Nat} (hone : ∀ (w : World) (s : RS), RdR w R T E s → DeepOk s → s.l.length ≤ m → Calls Tryz.prog 100 #[.pointer (some ⟨R, 0, none⟩)] w fun e w' => ∃ a q c, e = .returned (.agg #[.bool (one s).1.no, .slice a q c, .string (strB (one s).1.x), .int .i64 (one s).1.mode]) ∧ itemD.P (· < w.heap.size) w' [.bool (one s).1.no, .slice a q c, .string (strB (one s).1.x), .int .i64 (one s).1.mode] (one s).1 ∧ RdTo R T E (one s).2 w w')
    (hle : ∀ s, (one s).2.l.length ≤ s.l.length) (hdp : ∀ s, (one s).2.deep = s.deep) (b : List UInt8) (h : RdR w R T E s) (hok : DeepOk s) (hm : s.l.length ≤ m) (hn : s.l.length ≤ n) (h5 : s.l.length ≤ 500) :
    Calls Tryz.prog 99 #[.pointer (some ⟨R, 0, none⟩), .string (strB b), .func (.func 100) #[.pointer (some ⟨R, 0, none⟩)] #[]] w (RowTo itemD R T E (row1T E b one n s) w) := by
  have hR := h.lt
  obtain ⟨z, hz⟩ : ∃ z, row1T E b one n s = z := ⟨_, rfl⟩
  rw [hz]
  obtain ⟨⟨y, s1⟩, hys⟩ : ∃ z, one s = z := ⟨_, rfl⟩
  have HO := hone w s h hok hm
  have hl1 := hle s
  have hp1 := hdp s
  rw [hys] at HO hl1 hp1
  dsimp only at HO hl1 hp1
  have HO1 := Lib.hid HO
  have HON := Lib.hid hone
  have hz1 : rowT E b one n [y] s1 = z := by rw [← hz]; unfold row1T; rw [hys]
  have HW := Lib.hid (fun W => word_mark (strB b) W)
  have HX := Lib.hid (And.intro hz1 (And.intro (show s1.l.length ≤ n ∧ s1.l.length ≤ m ∧ [y].length + s1.l.length ≤ 501 from ⟨by omega, by omega, by simp; omega⟩) (hok.le hp1 hl1)))
  clear hone HO hz hz1 hl1 hp1 hys h hok hm hn h5
  go_enter Tryz.func99, Tryz.ntmps99
  go_wp2_with fail
  with_reducible refine HO1.out.mono ?_
  rintro e w1 ⟨a, a1, c, rfl, hp, hd1⟩
  have HI : Hid (RowIn itemD R T E m 62 b one z w (w1.alloc (.cells #[.bool y.no, .slice a a1 c, .string (strB y.x), .int .i64 y.mode] 62)) (.slice (some ⟨w1.heap.size, 0, none⟩) 1 1) n [y] s1) := by
    have hb1 := (Below.refl w1.heap.size w1).alloc (Nat.le_refl _) (.cells #[.bool y.no, .slice a a1 c, .string (strB y.x), .int .i64 y.mode] 62)
    refine ⟨OwnP.first hd1.fr.size (heap_alloc_new w1 _) ?_, hd1.then hb1, HX.out.1, HX.out.2.1, HX.out.2.2⟩
    exact itemD.ne' hb1 (show itemD.P (· < w.heap.size) w1 [.bool y.no, .slice a a1 c, .string (strB y.x), .int .i64 y.mode] y from hp)
  clear hd1 HX HO1 hp
  go_wp2
  go_loopw [7] (fun v wr => ∃ (n : Nat) (l : List PIt) (s : RS), Hid (RowIn itemD R T E m 62 b one z w wr v n l s)) (fun _ wr => leftN R wr)
  case atStart => exact ⟨n, [y], s1, HI⟩
  case round =>
    clear HI
    obtain ⟨n2, l, s2, HE⟩ := hrel
    have hE := HE.out
    obtain ⟨va, vc, rfl⟩ := hE.own.slice
    have HL := Lib.hid (leftN_is hE.rt.rd)
    go_wp2_with fail
    with_reducible refine (HW.out _).mono ?_
    rintro e w2 ⟨rfl, hb2⟩
    have D2 := Lib.hid (hE.rt.then hb2)
    have O2 := Lib.hid (hE.own.keep (TFr.of_below (K := fun _ => False) hb2) (fun _ h => h.elim))
    have HZ := Lib.hid (And.intro hE.is (And.intro hE.len hE.ok))
    have htk := takeW_calls D2.out.rd b
    have HTK := Lib.hid htk
    clear hb2 hE HE htk
    cases hp : isT E s2 1 b with
    | false =>
      have hz := HZ.out.1
      rw [rowT_end hp] at hz
      subst hz
      rw [hp, takeT_no hp] at HTK
      clear hp HZ
      go_wp2_with fail
      with_reducible refine HTK.out.mono ?_
      rintro e w3 ⟨rfl, hd3⟩
      have D3 := Lib.hid (D2.out.trans hd3)
      have O3 := Lib.hid (O2.out.keep hd3.fr (fun k e => by omega))
      clear hd3 D2 O2
      go_wp2
      go_ret
      exact ⟨_, rfl, O3.out.row, D3.out⟩
    | true =>
      obtain ⟨n3, rfl⟩ : ∃ n3, n2 = n3 + 1 := by
        have h1 := takeT_lt hp (by decide)
        have h2 := HZ.out.2.1.1
        exact ⟨n2 - 1, by omega⟩
      have hlt := takeT_lt hp (by decide)
      obtain ⟨s3, hs3⟩ : ∃ s3, (takeT E s2 1 b).2 = s3 := ⟨_, rfl⟩
      have hdp3 := takeT_deep (E := E) (s := s2) 1 b
      rw [hs3] at hlt hdp3
      obtain ⟨⟨y2, s4⟩, hys⟩ : ∃ z, one s3 = z := ⟨_, rfl⟩
      have hok3 : DeepOk s3 := HZ.out.2.2.le hdp3 (Nat.le_of_lt hlt)
      have hle4 := hle s3
      have hdp4 := hdp s3
      have his := HZ.out.1
      rw [rowT_more hp, hs3, hys] at his
      rw [hp, hs3] at HTK
      rw [hys] at hle4 hdp4
      dsimp only at hle4 hdp4 his
      have HN := Lib.hid (And.intro his (And.intro (show s4.l.length ≤ n3 ∧ s4.l.length ≤ m ∧ (l ++ [y2]).length + s4.l.length ≤ 501 by have := HZ.out.2.1; rw [List.length_append]; simp; omega) (hok3.le hdp4 hle4)))
      have HLT := Lib.hid (And.intro (show s4.l.length < s2.l.length by omega) (show l.length ≤ 1000 by have := HZ.out.2.1; omega))
      have HT2 : Hid (∀ W, RdR W R T E s3 → Calls Tryz.prog 100 #[.pointer (some ⟨R, 0, none⟩)] W fun e w' => ∃ a q c, e = .returned (.agg #[.bool y2.no, .slice a q c, .string (strB y2.x), .int .i64 y2.mode]) ∧ itemD.P (· < W.heap.size) w' [.bool y2.no, .slice a q c, .string (strB y2.x), .int .i64 y2.mode] y2 ∧ RdTo R T E s4 W w') := fun W hW => by
        have h := HON.out W s3 hW hok3 (by have := HZ.out.2.1; omega)
        rw [hys] at h
        exact h
      obtain ⟨q, hq⟩ : ∃ q, l.length = q := ⟨_, rfl⟩
      have HQ := Lib.hid hq
      rw [hq] at O2 ⊢
      clear hlt hdp3 hok3 hle4 hdp4 hys his HZ hp hq hs3
      go_wp2_with fail
      with_reducible refine HTK.out.mono ?_
      rintro e w3 ⟨rfl, hd3⟩
      have HT3 := Lib.hid (HT2.out w3 hd3.rd)
      have D3 := Lib.hid (D2.out.trans hd3)
      have O3 := Lib.hid (O2.out.keep hd3.fr (fun k e => by omega))
      clear hd3 D2 O2 HTK HT2
      go_wp2_with fail
      with_reducible refine HT3.out.mono ?_
      rintro e w4 ⟨a, a1, c, rfl, hp, hd4⟩
      have HAP : ∃ a9 l9 c9 w9, (Builtin.append_ #[23, 23] 23 #[.slice va q vc, .slice (some ⟨w4.heap.size, 0, none⟩) 1 1]).run Tryz.prog (w4.alloc (.cells #[.bool y2.no, .slice a a1 c, .string (strB y2.x), .int .i64 y2.mode] 62)) = .ok (.slice a9 l9 c9) w9 ∧ Hid (OwnP itemD w9 w.heap.size 62 (.slice a9 l9 c9) (l ++ [y2])) ∧ Hid (RdTo R T E s4 w w9) := by
        have hb5 := (Below.refl w4.heap.size w4).alloc (Nat.le_refl _) (.cells #[.bool y2.no, .slice a a1 c, .string (strB y2.x), .int .i64 y2.mode] 62)
        have o5 := (O3.out.keep hd4.fr (fun k e => by omega)).keep (TFr.of_below (K := fun _ => False) hb5) (fun _ h => h.elim)
        have hw3 := O3.out.own
        have hB := D3.out.fr.size
        have hpp := itemD.at' (B := w.heap.size) (v := .slice va q vc) hb5 hw3 hB (show itemD.P (· < w3.heap.size) w4 [.bool y2.no, .slice a a1 c, .string (strB y2.x), .int .i64 y2.mode] y2 from hp)
        obtain ⟨v9, w9, hr, ho, hg⟩ := OwnP.append (ts := 23) (ty := 23) (by kernel_rfl) itemI rfl (by decide) (by decide) o5 (by have := hd4.fr.size; have := hb5.size; omega) HLT.out.2 hpp (heap_alloc_new w4 _)
        obtain ⟨a9, c9, rfl⟩ := ho.slice
        exact ⟨a9, _, c9, w9, hr, ho, ((D3.out.trans hd4).then hb5).grown hR hg (fun k hk => (o5.own k hk).1)⟩
      obtain ⟨a9, l9, c9, w9, hr9, O9, D9⟩ := HAP
      clear hd4 O3 D3 HT3 hp
      go_wp2_with (at_builtin; refine Lib.wpList_append_run _ rfl _ _ _ _ rfl _ _ rfl rfl _ _ hr9 ?_; clear hr9)
      refine ⟨⟨n3, l ++ [y2], s4, ?_⟩, ?_⟩
      · exact ⟨O9.out, D9.out, HN.out.1, HN.out.2.1, HN.out.2.2⟩
      · rw [leftN_is D9.out.rd, HL.out]
        exact HLT.out.1

end Go.Proofs.YtifacoompbngaaaGreatDoor
namespace Go.Proofs.YtifacoompbngaaaGreatDoor
open Go.RowKit Go.Lib Go.Op

theorem exprN_calls {R T E : Nat} {n : Nat} {w : World} {s : RS} (h : RdR w R T E s) (hok : DeepOk s) (hn : s.l.length < n) : Calls Tryz.prog 184 #[.pointer (some ⟨R, 0, none⟩)] w (ExTo R T E (exprT E (termT E n) n s) w) :=
  expr_calls (m := n - 1) (fun w s h hok hm => term_calls n w s h hok (by omega)) (termT_le n) (termT_deep n) h hok (by omega) (by omega)

set_option maxHeartbeats 2000000 in
set_option maxRecDepth 100000 in
theorem pred_calls {w : World} {R T E : Nat} {s : RS} {n : Nat} (h : RdR w R T E s) (hok : DeepOk s) (hn : s.l.length < n) : Calls Tryz.prog 103 #[.pointer (some ⟨R, 0, none⟩)] w fun e w' => ∃ xa xq xc ya yq yc, e = .returned (.agg #[.int .i64 (predT E n s).1.cmp, .int .i64 (predT E n s).1.l.k, .int .i64 (predT E n s).1.l.v.k, .int .i64 (predT E n s).1.l.v.n, .string (strB (predT E n s).1.l.v.s), .string (strB (predT E n s).1.l.x), .string (strB (predT E n s).1.l.f), .slice xa xq xc, .int .i64 (predT E n s).1.r.k, .int .i64 (predT E n s).1.r.v.k, .int .i64 (predT E n s).1.r.v.n, .string (strB (predT E n s).1.r.v.s), .string (strB (predT E n s).1.r.x), .string (strB (predT E n s).1.r.f), .slice ya yq yc]) ∧ predD.P (· < w.heap.size) w' (.int .i64 (predT E n s).1.cmp :: (exL (predT E n s).1.l (.slice xa xq xc) ++ exL (predT E n s).1.r (.slice ya yq yc))) (predT E n s).1 ∧ RdTo R T E (predT E n s).2 w w' := by
  have hR := h.lt
  obtain ⟨⟨x, s1⟩, hx⟩ : ∃ z, exprT E (termT E n) n s = z := ⟨_, rfl⟩
  obtain ⟨⟨cm, s2⟩, hc⟩ : ∃ z, chooseT E s1 4 cmpsL = z := ⟨_, rfl⟩
  obtain ⟨⟨y, s3⟩, hy⟩ : ∃ z, exprT E (termT E n) n s2 = z := ⟨_, rfl⟩
  have hit : predT E n s = (⟨x, (cm : Int), y⟩, s3) := by
    unfold predT
    rw [hx]
    dsimp only
    rw [hc]
    dsimp only
    rw [hy]
  rw [hit]
  have hl1 := exprT_le (E := E) (termT_le (E := E) n) n s
  have hp1 := exprT_deep (E := E) (termT_deep (E := E) n) n s
  rw [hx] at hl1 hp1
  have hl2 := chooseT_le (E := E) (s := s1) 4 cmpsL
  have hp2 := chooseT_deep (E := E) (s := s1) 4 cmpsL
  rw [hc] at hl2 hp2
  dsimp only at hl1 hp1 hl2 hp2
  have hok2 : DeepOk s2 := (hok.le hp1 hl1).le hp2 hl2
  have hb1 := (Below.refl w.heap.size w).alloc (Nat.le_refl _) (.cells #[.int .i64 0, .int .i64 0, .int .i64 0, .int .i64 0, .string ⟨#[]⟩, .string ⟨#[]⟩, .string ⟨#[]⟩, .slice none 0 0, .int .i64 0, .int .i64 0, .int .i64 0, .string ⟨#[]⟩, .string ⟨#[]⟩, .string ⟨#[]⟩, .slice none 0 0] 40)
  have hb2 := hb1.alloc hb1.size (.cells #[.int .i64 0, .int .i64 0, .int .i64 0, .int .i64 0, .string ⟨#[]⟩, .string ⟨#[]⟩, .string ⟨#[]⟩, .slice none 0 0, .int .i64 0, .int .i64 0, .int .i64 0, .string ⟨#[]⟩, .string ⟨#[]⟩, .string ⟨#[]⟩, .slice none 0 0] 40)
  have P2 := Lib.hid ((Blk.new w #[.int .i64 0, .int .i64 0, .int .i64 0, .int .i64 0, .string ⟨#[]⟩, .string ⟨#[]⟩, .string ⟨#[]⟩, .slice none 0 0, .int .i64 0, .int .i64 0, .int .i64 0, .string ⟨#[]⟩, .string ⟨#[]⟩, .string ⟨#[]⟩, .slice none 0 0] 40).low ((Below.refl _ _).alloc (Nat.le_refl _) (.cells #[.int .i64 0, .int .i64 0, .int .i64 0, .int .i64 0, .string ⟨#[]⟩, .string ⟨#[]⟩, .string ⟨#[]⟩, .slice none 0 0, .int .i64 0, .int .i64 0, .int .i64 0, .string ⟨#[]⟩, .string ⟨#[]⟩, .string ⟨#[]⟩, .slice none 0 0] 40)))
  have hp3 := Blk.new (w.alloc (.cells #[.int .i64 0, .int .i64 0, .int .i64 0, .int .i64 0, .string ⟨#[]⟩, .string ⟨#[]⟩, .string ⟨#[]⟩, .slice none 0 0, .int .i64 0, .int .i64 0, .int .i64 0, .string ⟨#[]⟩, .string ⟨#[]⟩, .string ⟨#[]⟩, .slice none 0 0] 40)) #[.int .i64 0, .int .i64 0, .int .i64 0, .int .i64 0, .string ⟨#[]⟩, .string ⟨#[]⟩, .string ⟨#[]⟩, .slice none 0 0, .int .i64 0, .int .i64 0, .int .i64 0, .string ⟨#[]⟩, .string ⟨#[]⟩, .string ⟨#[]⟩, .slice none 0 0] 40
  rw [show (w.alloc (.cells #[.int .i64 0, .int .i64 0, .int .i64 0, .int .i64 0, .string ⟨#[]⟩, .string ⟨#[]⟩, .string ⟨#[]⟩, .slice none 0 0, .int .i64 0, .int .i64 0, .int .i64 0, .string ⟨#[]⟩, .string ⟨#[]⟩, .string ⟨#[]⟩, .slice none 0 0] 40)).heap.size = w.heap.size + 1 by simp] at hp3
  have P3 := Lib.hid hp3
  have D0 := Lib.hid (RdTo.of_below h hb2)
  have HX := Lib.hid (ExTo.plain hx (exprN_calls D0.out.rd hok hn))
  have HS := Lib.hid (And.intro hc (And.intro hy (And.intro hok2 (show s2.l.length < n by omega))))
  have HSZ := Lib.hid hp3.lt
  clear h hb1 hb2 hp3 hx hc hy hit hl1 hp1 hl2 hp2 hok hok2 hn
  go_enter Tryz.func103, Tryz.ntmps103
  go_wp2_with fail
  with_reducible refine HX.out.mono ?_
  rintro e w1 ⟨kv, dx, rfl, hkv, hd1⟩
  obtain ⟨xa, xc, rfl⟩ := hkv.slice
  obtain ⟨xq, hxq⟩ : ∃ q, x.ks.length = q := ⟨_, rfl⟩
  rw [hxq] at hkv ⊢
  have q3 := P3.out.keep hd1.fr (by omega)
  have c1 := tcell_of_blk q3 (k := 1) rfl
  have c2 := tcell_of_blk q3 (k := 2) rfl
  have c3 := tcell_of_blk q3 (k := 3) rfl
  have c4 := tcell_of_blk q3 (k := 4) rfl
  have c5 := tcell_of_blk q3 (k := 5) rfl
  have c6 := tcell_of_blk q3 (k := 6) rfl
  have c7 := tcell_of_blk q3 (k := 7) rfl
  have fc1 := tfrozen_of_blk q3 (k := 1)
  have fc2 := tfrozen_of_blk q3 (k := 2)
  have fc3 := tfrozen_of_blk q3 (k := 3)
  have fc4 := tfrozen_of_blk q3 (k := 4)
  have fc5 := tfrozen_of_blk q3 (k := 5)
  have fc6 := tfrozen_of_blk q3 (k := 6)
  have fc7 := tfrozen_of_blk q3 (k := 7)
  have D1 := Lib.hid (((((((((D0.out.trans hd1).set hR (b := w.heap.size + 1) (by omega) 1 (.int .i64 x.k)).set hR (b := w.heap.size + 1) (by omega) 2 (.int .i64 x.v.k)).set hR (b := w.heap.size + 1) (by omega) 3 (.int .i64 x.v.n)).set hR (b := w.heap.size + 1) (by omega) 4 (.string (strB x.v.s))).set hR (b := w.heap.size + 1) (by omega) 5 (.string (strB x.x))).set hR (b := w.heap.size + 1) (by omega) 6 (.string (strB x.f))).set hR (b := w.heap.size + 1) (by omega) 7 (.slice xa xq xc)))
  have Q2 := Lib.hid (((((((((P2.out.keep hd1.fr (by omega)).at (b' := w.heap.size + 1) (by omega) 1 (.int .i64 x.k)).at (b' := w.heap.size + 1) (by omega) 2 (.int .i64 x.v.k)).at (b' := w.heap.size + 1) (by omega) 3 (.int .i64 x.v.n)).at (b' := w.heap.size + 1) (by omega) 4 (.string (strB x.v.s))).at (b' := w.heap.size + 1) (by omega) 5 (.string (strB x.x))).at (b' := w.heap.size + 1) (by omega) 6 (.string (strB x.f))).at (b' := w.heap.size + 1) (by omega) 7 (.slice xa xq xc)))
  have Q3 := Lib.hid ((((((((q3.set 1 (.int .i64 x.k) (cs' := #[.int .i64 0, .int .i64 x.k, .int .i64 0, .int .i64 0, .string ⟨#[]⟩, .string ⟨#[]⟩, .string ⟨#[]⟩, .slice none 0 0, .int .i64 0, .int .i64 0, .int .i64 0, .string ⟨#[]⟩, .string ⟨#[]⟩, .string ⟨#[]⟩, .slice none 0 0]) rfl).set 2 (.int .i64 x.v.k) (cs' := #[.int .i64 0, .int .i64 x.k, .int .i64 x.v.k, .int .i64 0, .string ⟨#[]⟩, .string ⟨#[]⟩, .string ⟨#[]⟩, .slice none 0 0, .int .i64 0, .int .i64 0, .int .i64 0, .string ⟨#[]⟩, .string ⟨#[]⟩, .string ⟨#[]⟩, .slice none 0 0]) rfl).set 3 (.int .i64 x.v.n) (cs' := #[.int .i64 0, .int .i64 x.k, .int .i64 x.v.k, .int .i64 x.v.n, .string ⟨#[]⟩, .string ⟨#[]⟩, .string ⟨#[]⟩, .slice none 0 0, .int .i64 0, .int .i64 0, .int .i64 0, .string ⟨#[]⟩, .string ⟨#[]⟩, .string ⟨#[]⟩, .slice none 0 0]) rfl).set 4 (.string (strB x.v.s)) (cs' := #[.int .i64 0, .int .i64 x.k, .int .i64 x.v.k, .int .i64 x.v.n, .string (strB x.v.s), .string ⟨#[]⟩, .string ⟨#[]⟩, .slice none 0 0, .int .i64 0, .int .i64 0, .int .i64 0, .string ⟨#[]⟩, .string ⟨#[]⟩, .string ⟨#[]⟩, .slice none 0 0]) rfl).set 5 (.string (strB x.x)) (cs' := #[.int .i64 0, .int .i64 x.k, .int .i64 x.v.k, .int .i64 x.v.n, .string (strB x.v.s), .string (strB x.x), .string ⟨#[]⟩, .slice none 0 0, .int .i64 0, .int .i64 0, .int .i64 0, .string ⟨#[]⟩, .string ⟨#[]⟩, .string ⟨#[]⟩, .slice none 0 0]) rfl).set 6 (.string (strB x.f)) (cs' := #[.int .i64 0, .int .i64 x.k, .int .i64 x.v.k, .int .i64 x.v.n, .string (strB x.v.s), .string (strB x.x), .string (strB x.f), .slice none 0 0, .int .i64 0, .int .i64 0, .int .i64 0, .string ⟨#[]⟩, .string ⟨#[]⟩, .string ⟨#[]⟩, .slice none 0 0]) rfl).set 7 (.slice xa xq xc) (cs' := #[.int .i64 0, .int .i64 x.k, .int .i64 x.v.k, .int .i64 x.v.n, .string (strB x.v.s), .string (strB x.x), .string (strB x.f), .slice xa xq xc, .int .i64 0, .int .i64 0, .int .i64 0, .string ⟨#[]⟩, .string ⟨#[]⟩, .string ⟨#[]⟩, .slice none 0 0]) rfl))
  have K1 := Lib.hid ((((((((hkv.set (b := w.heap.size + 1) HSZ.out 1 (.int .i64 x.k)).set (b := w.heap.size + 1) HSZ.out 2 (.int .i64 x.v.k)).set (b := w.heap.size + 1) HSZ.out 3 (.int .i64 x.v.n)).set (b := w.heap.size + 1) HSZ.out 4 (.string (strB x.v.s))).set (b := w.heap.size + 1) HSZ.out 5 (.string (strB x.x))).set (b := w.heap.size + 1) HSZ.out 6 (.string (strB x.f))).set (b := w.heap.size + 1) HSZ.out 7 (.slice xa xq xc)))
  have HC := Lib.hid (fun W => cmps_calls W)
  have HSX := Lib.hid HSZ.out
  clear hkv hxq hd1 q3 D0 P2 P3 HX
  simp only [xexV]
  go_wp2_with fail
  with_reducible refine (HC.out _).mono ?_
  rintro e w2 ⟨rfl, hb2⟩
  clear c1 c2 c3 c4 c5 c6 c7 fc1 fc2 fc3 fc4 fc5 fc6 fc7
  have D2 := Lib.hid (D1.out.then hb2)
  have P2 := Lib.hid (Q2.out.low hb2)
  have P3 := Lib.hid (Q3.out.low hb2)
  have K2 := Lib.hid (K1.out.keep (TFr.of_below hb2))
  have hch := chooseS_calls D2.out.rd cmpsL rfl
  rw [HS.out.1] at hch
  have HH := Lib.hid hch
  clear hb2 hch D1 Q2 Q3 K1 HC
  go_wp2_with fail
  with_reducible refine HH.out.mono ?_
  rintro e w3 ⟨rfl, hd3⟩
  have q3 := P3.out.keep hd3.fr (by omega)
  have c0 := tcell_of_blk q3 (k := 0) rfl
  have fc0 := tfrozen_of_blk q3 (k := 0)
  have D3 := Lib.hid (((D2.out.trans hd3).set hR (b := w.heap.size + 1) (by omega) 0 (.int .i64 cm)))
  have Q2 := Lib.hid (((P2.out.keep hd3.fr (by omega)).at (b' := w.heap.size + 1) (by omega) 0 (.int .i64 cm)))
  have hq3 := (q3.set 0 (.int .i64 cm) (cs' := #[.int .i64 cm, .int .i64 x.k, .int .i64 x.v.k, .int .i64 x.v.n, .string (strB x.v.s), .string (strB x.x), .string (strB x.f), .slice xa xq xc, .int .i64 0, .int .i64 0, .int .i64 0, .string ⟨#[]⟩, .string ⟨#[]⟩, .string ⟨#[]⟩, .slice none 0 0]) rfl)
  have Q3 := Lib.hid hq3
  have K3 := Lib.hid (((K2.out.keepR hd3.fr (Nat.lt_trans (Nat.lt_trans hR (Nat.lt_succ_self _)) HSX.out)).set (b := w.heap.size + 1) HSX.out 0 (.int .i64 cm)))
  have HY := Lib.hid (ExTo.plain HS.out.2.1 (exprN_calls D3.out.rd HS.out.2.2.1 HS.out.2.2.2))
  have HSY := Lib.hid hq3.lt
  clear hd3 q3 hq3 D2 P2 P3 K2 HH
  go_wp2_with fail
  with_reducible refine HY.out.mono ?_
  rintro e w4 ⟨kv, dy, rfl, hkv, hd4⟩
  clear c0 fc0
  obtain ⟨ya, yc, rfl⟩ := hkv.slice
  obtain ⟨yq, hyq⟩ : ∃ q, y.ks.length = q := ⟨_, rfl⟩
  rw [hyq] at hkv ⊢
  have q3 := Q3.out.keep hd4.fr (by omega)
  have c8 := tcell_of_blk q3 (k := 8) rfl
  have c9 := tcell_of_blk q3 (k := 9) rfl
  have c10 := tcell_of_blk q3 (k := 10) rfl
  have c11 := tcell_of_blk q3 (k := 11) rfl
  have c12 := tcell_of_blk q3 (k := 12) rfl
  have c13 := tcell_of_blk q3 (k := 13) rfl
  have c14 := tcell_of_blk q3 (k := 14) rfl
  have fc8 := tfrozen_of_blk q3 (k := 8)
  have fc9 := tfrozen_of_blk q3 (k := 9)
  have fc10 := tfrozen_of_blk q3 (k := 10)
  have fc11 := tfrozen_of_blk q3 (k := 11)
  have fc12 := tfrozen_of_blk q3 (k := 12)
  have fc13 := tfrozen_of_blk q3 (k := 13)
  have fc14 := tfrozen_of_blk q3 (k := 14)
  have D4 := Lib.hid (((((((((D3.out.trans hd4).set hR (b := w.heap.size + 1) (by omega) 8 (.int .i64 y.k)).set hR (b := w.heap.size + 1) (by omega) 9 (.int .i64 y.v.k)).set hR (b := w.heap.size + 1) (by omega) 10 (.int .i64 y.v.n)).set hR (b := w.heap.size + 1) (by omega) 11 (.string (strB y.v.s))).set hR (b := w.heap.size + 1) (by omega) 12 (.string (strB y.x))).set hR (b := w.heap.size + 1) (by omega) 13 (.string (strB y.f))).set hR (b := w.heap.size + 1) (by omega) 14 (.slice ya yq yc)))
  have p2 := ((((((((Q2.out.keep hd4.fr (by omega)).at (b' := w.heap.size + 1) (by omega) 8 (.int .i64 y.k)).at (b' := w.heap.size + 1) (by omega) 9 (.int .i64 y.v.k)).at (b' := w.heap.size + 1) (by omega) 10 (.int .i64 y.v.n)).at (b' := w.heap.size + 1) (by omega) 11 (.string (strB y.v.s))).at (b' := w.heap.size + 1) (by omega) 12 (.string (strB y.x))).at (b' := w.heap.size + 1) (by omega) 13 (.string (strB y.f))).at (b' := w.heap.size + 1) (by omega) 14 (.slice ya yq yc))
  have p3 := (((((((q3.set 8 (.int .i64 y.k) (cs' := #[.int .i64 cm, .int .i64 x.k, .int .i64 x.v.k, .int .i64 x.v.n, .string (strB x.v.s), .string (strB x.x), .string (strB x.f), .slice xa xq xc, .int .i64 y.k, .int .i64 0, .int .i64 0, .string ⟨#[]⟩, .string ⟨#[]⟩, .string ⟨#[]⟩, .slice none 0 0]) rfl).set 9 (.int .i64 y.v.k) (cs' := #[.int .i64 cm, .int .i64 x.k, .int .i64 x.v.k, .int .i64 x.v.n, .string (strB x.v.s), .string (strB x.x), .string (strB x.f), .slice xa xq xc, .int .i64 y.k, .int .i64 y.v.k, .int .i64 0, .string ⟨#[]⟩, .string ⟨#[]⟩, .string ⟨#[]⟩, .slice none 0 0]) rfl).set 10 (.int .i64 y.v.n) (cs' := #[.int .i64 cm, .int .i64 x.k, .int .i64 x.v.k, .int .i64 x.v.n, .string (strB x.v.s), .string (strB x.x), .string (strB x.f), .slice xa xq xc, .int .i64 y.k, .int .i64 y.v.k, .int .i64 y.v.n, .string ⟨#[]⟩, .string ⟨#[]⟩, .string ⟨#[]⟩, .slice none 0 0]) rfl).set 11 (.string (strB y.v.s)) (cs' := #[.int .i64 cm, .int .i64 x.k, .int .i64 x.v.k, .int .i64 x.v.n, .string (strB x.v.s), .string (strB x.x), .string (strB x.f), .slice xa xq xc, .int .i64 y.k, .int .i64 y.v.k, .int .i64 y.v.n, .string (strB y.v.s), .string ⟨#[]⟩, .string ⟨#[]⟩, .slice none 0 0]) rfl).set 12 (.string (strB y.x)) (cs' := #[.int .i64 cm, .int .i64 x.k, .int .i64 x.v.k, .int .i64 x.v.n, .string (strB x.v.s), .string (strB x.x), .string (strB x.f), .slice xa xq xc, .int .i64 y.k, .int .i64 y.v.k, .int .i64 y.v.n, .string (strB y.v.s), .string (strB y.x), .string ⟨#[]⟩, .slice none 0 0]) rfl).set 13 (.string (strB y.f)) (cs' := #[.int .i64 cm, .int .i64 x.k, .int .i64 x.v.k, .int .i64 x.v.n, .string (strB x.v.s), .string (strB x.x), .string (strB x.f), .slice xa xq xc, .int .i64 y.k, .int .i64 y.v.k, .int .i64 y.v.n, .string (strB y.v.s), .string (strB y.x), .string (strB y.f), .slice none 0 0]) rfl).set 14 (.slice ya yq yc) (cs' := #[.int .i64 cm, .int .i64 x.k, .int .i64 x.v.k, .int .i64 x.v.n, .string (strB x.v.s), .string (strB x.x), .string (strB x.f), .slice xa xq xc, .int .i64 y.k, .int .i64 y.v.k, .int .i64 y.v.n, .string (strB y.v.s), .string (strB y.x), .string (strB y.f), .slice ya yq yc]) rfl)
  have hR3 : R < (w3.setCell ⟨w.heap.size + 1, 0, none⟩ (.int .i64 cm)).heap.size := Nat.lt_trans hR (Nat.lt_trans (Nat.lt_succ_self _) HSY.out)
  have K4 := Lib.hid (((((((((K3.out.keepR hd4.fr (Nat.lt_trans (Nat.lt_trans hR (Nat.lt_succ_self _)) HSX.out)).set (b := w.heap.size + 1) HSX.out 8 (.int .i64 y.k)).set (b := w.heap.size + 1) HSX.out 9 (.int .i64 y.v.k)).set (b := w.heap.size + 1) HSX.out 10 (.int .i64 y.v.n)).set (b := w.heap.size + 1) HSX.out 11 (.string (strB y.v.s))).set (b := w.heap.size + 1) HSX.out 12 (.string (strB y.x))).set (b := w.heap.size + 1) HSX.out 13 (.string (strB y.f))).set (b := w.heap.size + 1) HSX.out 14 (.slice ya yq yc)))
  have K5 := Lib.hid ((((((((hkv.set (b := w.heap.size + 1) HSY.out 8 (.int .i64 y.k)).set (b := w.heap.size + 1) HSY.out 9 (.int .i64 y.v.k)).set (b := w.heap.size + 1) HSY.out 10 (.int .i64 y.v.n)).set (b := w.heap.size + 1) HSY.out 11 (.string (strB y.v.s))).set (b := w.heap.size + 1) HSY.out 12 (.string (strB y.x))).set (b := w.heap.size + 1) HSY.out 13 (.string (strB y.f))).set (b := w.heap.size + 1) HSY.out 14 (.slice ya yq yc)))
  have d0 := tcell_of_blk p3 (k := 0) rfl
  have d1 := tcell_of_blk p3 (k := 1) rfl
  have d2 := tcell_of_blk p3 (k := 2) rfl
  have d3 := tcell_of_blk p3 (k := 3) rfl
  have d4 := tcell_of_blk p3 (k := 4) rfl
  have d5 := tcell_of_blk p3 (k := 5) rfl
  have d6 := tcell_of_blk p3 (k := 6) rfl
  have d7 := tcell_of_blk p3 (k := 7) rfl
  have d8 := tcell_of_blk p3 (k := 8) rfl
  have d9 := tcell_of_blk p3 (k := 9) rfl
  have d10 := tcell_of_blk p3 (k := 10) rfl
  have d11 := tcell_of_blk p3 (k := 11) rfl
  have d12 := tcell_of_blk p3 (k := 12) rfl
  have d13 := tcell_of_blk p3 (k := 13) rfl
  have d14 := tcell_of_blk p3 (k := 14) rfl
  have fd0 := tfrozen_of_blk p3 (k := 0)
  have fd1 := tfrozen_of_blk p3 (k := 1)
  have fd2 := tfrozen_of_blk p3 (k := 2)
  have fd3 := tfrozen_of_blk p3 (k := 3)
  have fd4 := tfrozen_of_blk p3 (k := 4)
  have fd5 := tfrozen_of_blk p3 (k := 5)
  have fd6 := tfrozen_of_blk p3 (k := 6)
  have fd7 := tfrozen_of_blk p3 (k := 7)
  have fd8 := tfrozen_of_blk p3 (k := 8)
  have fd9 := tfrozen_of_blk p3 (k := 9)
  have fd10 := tfrozen_of_blk p3 (k := 10)
  have fd11 := tfrozen_of_blk p3 (k := 11)
  have fd12 := tfrozen_of_blk p3 (k := 12)
  have fd13 := tfrozen_of_blk p3 (k := 13)
  have fd14 := tfrozen_of_blk p3 (k := 14)
  have r0 := tcell_of_blk p2 (k := 0) rfl
  have r1 := tcell_of_blk p2 (k := 1) rfl
  have r2 := tcell_of_blk p2 (k := 2) rfl
  have r3 := tcell_of_blk p2 (k := 3) rfl
  have r4 := tcell_of_blk p2 (k := 4) rfl
  have r5 := tcell_of_blk p2 (k := 5) rfl
  have r6 := tcell_of_blk p2 (k := 6) rfl
  have r7 := tcell_of_blk p2 (k := 7) rfl
  have r8 := tcell_of_blk p2 (k := 8) rfl
  have r9 := tcell_of_blk p2 (k := 9) rfl
  have r10 := tcell_of_blk p2 (k := 10) rfl
  have r11 := tcell_of_blk p2 (k := 11) rfl
  have r12 := tcell_of_blk p2 (k := 12) rfl
  have r13 := tcell_of_blk p2 (k := 13) rfl
  have r14 := tcell_of_blk p2 (k := 14) rfl
  have fr0 := tfrozen_of_blk p2 (k := 0)
  have fr1 := tfrozen_of_blk p2 (k := 1)
  have fr2 := tfrozen_of_blk p2 (k := 2)
  have fr3 := tfrozen_of_blk p2 (k := 3)
  have fr4 := tfrozen_of_blk p2 (k := 4)
  have fr5 := tfrozen_of_blk p2 (k := 5)
  have fr6 := tfrozen_of_blk p2 (k := 6)
  have fr7 := tfrozen_of_blk p2 (k := 7)
  have fr8 := tfrozen_of_blk p2 (k := 8)
  have fr9 := tfrozen_of_blk p2 (k := 9)
  have fr10 := tfrozen_of_blk p2 (k := 10)
  have fr11 := tfrozen_of_blk p2 (k := 11)
  have fr12 := tfrozen_of_blk p2 (k := 12)
  have fr13 := tfrozen_of_blk p2 (k := 13)
  have fr14 := tfrozen_of_blk p2 (k := 14)
  clear hkv hyq hd4 q3 p2 p3 D3 Q2 Q3 K3 HY HS
  simp only [xexV]
  go_wp2
  refine bodyPost_ret (v := .agg #[.int .i64 cm, .int .i64 x.k, .int .i64 x.v.k, .int .i64 x.v.n, .string (strB x.v.s), .string (strB x.x), .string (strB x.f), .slice xa xq xc, .int .i64 y.k, .int .i64 y.v.k, .int .i64 y.v.n, .string (strB y.v.s), .string (strB y.x), .string (strB y.f), .slice ya yq yc]) (by simp [results, Tryz.results103, go_sem, r0, r1, r2, r3, r4, r5, r6, r7, r8, r9, r10, r11, r12, r13, r14]) rfl ⟨xa, xq, xc, ya, yq, yc, rfl, ?_, ?_⟩
  · have e1 : (w.heap.size : Nat) < w.heap.size + 1 := Nat.lt_succ_self _
    refine ⟨xa, xq, xc, ya, yq, yc, max dx dy, rfl, ?_, ?_⟩
    · have hk := (((((((((((((((K4.out.set (b := w.heap.size) (Nat.lt_trans e1 HSX.out) 0 (.int .i64 cm)).set (b := w.heap.size) (Nat.lt_trans e1 HSX.out) 1 (.int .i64 x.k)).set (b := w.heap.size) (Nat.lt_trans e1 HSX.out) 2 (.int .i64 x.v.k)).set (b := w.heap.size) (Nat.lt_trans e1 HSX.out) 3 (.int .i64 x.v.n)).set (b := w.heap.size) (Nat.lt_trans e1 HSX.out) 4 (.string (strB x.v.s))).set (b := w.heap.size) (Nat.lt_trans e1 HSX.out) 5 (.string (strB x.x))).set (b := w.heap.size) (Nat.lt_trans e1 HSX.out) 6 (.string (strB x.f))).set (b := w.heap.size) (Nat.lt_trans e1 HSX.out) 7 (.slice xa xq xc)).set (b := w.heap.size) (Nat.lt_trans e1 HSX.out) 8 (.int .i64 y.k)).set (b := w.heap.size) (Nat.lt_trans e1 HSX.out) 9 (.int .i64 y.v.k)).set (b := w.heap.size) (Nat.lt_trans e1 HSX.out) 10 (.int .i64 y.v.n)).set (b := w.heap.size) (Nat.lt_trans e1 HSX.out) 11 (.string (strB y.v.s))).set (b := w.heap.size) (Nat.lt_trans e1 HSX.out) 12 (.string (strB y.x))).set (b := w.heap.size) (Nat.lt_trans e1 HSX.out) 13 (.string (strB y.f))).set (b := w.heap.size) (Nat.lt_trans e1 HSX.out) 14 (.slice ya yq yc))
      exact (hk.le (Nat.le_max_left dx dy)).mono (fun k hk => Nat.lt_trans (Nat.lt_trans hk e1) HSX.out)
    · have hk := (((((((((((((((K5.out.set (b := w.heap.size) (Nat.lt_trans e1 HSY.out) 0 (.int .i64 cm)).set (b := w.heap.size) (Nat.lt_trans e1 HSY.out) 1 (.int .i64 x.k)).set (b := w.heap.size) (Nat.lt_trans e1 HSY.out) 2 (.int .i64 x.v.k)).set (b := w.heap.size) (Nat.lt_trans e1 HSY.out) 3 (.int .i64 x.v.n)).set (b := w.heap.size) (Nat.lt_trans e1 HSY.out) 4 (.string (strB x.v.s))).set (b := w.heap.size) (Nat.lt_trans e1 HSY.out) 5 (.string (strB x.x))).set (b := w.heap.size) (Nat.lt_trans e1 HSY.out) 6 (.string (strB x.f))).set (b := w.heap.size) (Nat.lt_trans e1 HSY.out) 7 (.slice xa xq xc)).set (b := w.heap.size) (Nat.lt_trans e1 HSY.out) 8 (.int .i64 y.k)).set (b := w.heap.size) (Nat.lt_trans e1 HSY.out) 9 (.int .i64 y.v.k)).set (b := w.heap.size) (Nat.lt_trans e1 HSY.out) 10 (.int .i64 y.v.n)).set (b := w.heap.size) (Nat.lt_trans e1 HSY.out) 11 (.string (strB y.v.s))).set (b := w.heap.size) (Nat.lt_trans e1 HSY.out) 12 (.string (strB y.x))).set (b := w.heap.size) (Nat.lt_trans e1 HSY.out) 13 (.string (strB y.f))).set (b := w.heap.size) (Nat.lt_trans e1 HSY.out) 14 (.slice ya yq yc))
      exact (hk.le (Nat.le_max_right dx dy)).mono (fun k hk => Nat.lt_trans (Nat.lt_trans hk e1) HSY.out)
  · exact (((((((((((((((D4.out.set hR (b := w.heap.size) (Nat.le_refl _) 0 (.int .i64 cm)).set hR (b := w.heap.size) (Nat.le_refl _) 1 (.int .i64 x.k)).set hR (b := w.heap.size) (Nat.le_refl _) 2 (.int .i64 x.v.k)).set hR (b := w.heap.size) (Nat.le_refl _) 3 (.int .i64 x.v.n)).set hR (b := w.heap.size) (Nat.le_refl _) 4 (.string (strB x.v.s))).set hR (b := w.heap.size) (Nat.le_refl _) 5 (.string (strB x.x))).set hR (b := w.heap.size) (Nat.le_refl _) 6 (.string (strB x.f))).set hR (b := w.heap.size) (Nat.le_refl _) 7 (.slice xa xq xc)).set hR (b := w.heap.size) (Nat.le_refl _) 8 (.int .i64 y.k)).set hR (b := w.heap.size) (Nat.le_refl _) 9 (.int .i64 y.v.k)).set hR (b := w.heap.size) (Nat.le_refl _) 10 (.int .i64 y.v.n)).set hR (b := w.heap.size) (Nat.le_refl _) 11 (.string (strB y.v.s))).set hR (b := w.heap.size) (Nat.le_refl _) 12 (.string (strB y.x))).set hR (b := w.heap.size) (Nat.le_refl _) 13 (.string (strB y.f))).set hR (b := w.heap.size) (Nat.le_refl _) 14 (.slice ya yq yc))

end Go.Proofs.YtifacoompbngaaaGreatDoor

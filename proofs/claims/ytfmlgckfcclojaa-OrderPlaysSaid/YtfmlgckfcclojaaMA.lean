/- Order: rows of events that nobody writes; Advance, Waiting, Time, New: what they leave. | Order: Advance, Waiting, Time, New. | Order: the buffer, seen by what events say. | Order: rows of events compared. | Order: the live question of the layer's statements. | The statement OrderDue: its walk. | Events that came in, in a row. -/
import Derived.Test.YtfmlgckfcclojaaM9
namespace Go.Proofs.Ytfmlgckfcclojaa
open Go.RowKit Go.Lib Go.Op

theorem eowns_base {w : World} {B C : Nat} {e : TypeId} {size : Nat} {v : Value} {n : Nat} {xs : List Value} (h : w.ownsRow B e size v n xs) (hB : C ≤ B) : w.ownsRow C e size v n xs := by
  refine ⟨h.1, ?_⟩
  rcases h.2 with h2 | ⟨g, cap, cur, rfl, hg, r⟩
  · exact Or.inl h2
  · exact Or.inr ⟨g, cap, cur, rfl, Nat.le_trans hB hg, r⟩

/-- Events in a row that nobody writes (0), nor their values. -/
structure EFix (w : World) (own : Nat → Nat) (v : Value) (es : List EIn) : Prop where
  row : w.ownsRow 0 25 5 v es.length (flat es)
  nob : ∀ g, v.ownBlock = some g → own g = 0
  vals : ∀ x ∈ es, VRow w x.a x.vs ∧ ∀ A, x.a = some A → A.block < w.heap.size ∧ own A.block = 0

theorem EFix.step {K : Nat → Prop} {w w' : World} {own own' : Nat → Nat} {v : Value} {es : List EIn} (h : EFix w own v es) (hs : OStep K own own' w w') (h0 : ¬ K 0) : EFix w' own' v es where
  row := eowns_of_block h.row (fun g hg => hs.fr.block g (h.row.lt g hg).2 (by rw [h.nob g hg]; exact h0))
  nob g hg := (hs.own g (h.row.lt g hg).2).trans (h.nob g hg)
  vals x hx := ⟨(h.vals x hx).1.ofr hs.fr (fun A hA => by rw [((h.vals x hx).2 A hA).2]; exact h0), fun A hA => ⟨Nat.lt_of_lt_of_le ((h.vals x hx).2 A hA).1 hs.fr.size, (hs.own _ ((h.vals x hx).2 A hA).1).trans ((h.vals x hx).2 A hA).2⟩⟩

theorem EFix.nil (w : World) (own : Nat → Nat) : EFix w own (.slice none 0 0) [] := ⟨World.ownsRow_nil _ _ _ _, (fun g hg => by cases hg), (fun x hx => by cases hx)⟩
theorem EFix.slice {w : World} {own : Nat → Nat} {v : Value} {es : List EIn} (h : EFix w own v es) : ∃ a c, v = .slice a es.length c ∧ ECells w a es := by
  obtain ⟨a, c, rfl⟩ := vowns_slice h.row
  exact ⟨a, c, rfl, ECells.of_owns h.row rfl⟩
theorem EFix.of_eown {w : World} {B : Nat} {own : Nat → Nat} {v : Value} {es : List EIn} (h : EOwn w B v es) (hz : ∀ b, B ≤ b → own b = 0) : EFix w own v es :=
  ⟨eowns_base h.own (Nat.zero_le _), fun g hg => hz g (h.own.lt g hg).1, fun x hx => ⟨(h.vals x hx).1, fun A hA => ⟨((h.vals x hx).2 A hA).2.1, hz _ ((h.vals x hx).2 A hA).1⟩⟩⟩

def advC (T time : Int) : Int := if time < 0 ∨ 1099511627776 < time then 1 else if time < T then 61 else 0
def dueL (L : List EIn) (time : Int) : List EIn := L.takeWhile fun x => decide (x.ts ≤ time)
def advE (T : Int) (L : List EIn) (time : Int) : List EIn := if advC T time = 0 then dueL L time else []
def advW (T : Int) (L : List EIn) (time : Int) : List EIn := if advC T time = 0 then L.drop (dueL L time).length else L
def advT (T time : Int) : Int := if advC T time = 0 then time else T

def AdvPost (w : World) (own : Nat → Nat) (k bb : Nat) (T : Int) (L : List EIn) (time : Int) (e : Ending) (w' : World) : Prop :=
  ∃ v es, e = .returned (.tuple #[v, .int .i64 (advC T time)]) ∧ OStep (fun j => j = k) own own w w' ∧ Buf w' own k bb (advT T time) (advW T L time) ∧ EFix w' own v es ∧ es.map EIn.core = (advE T L time).map EIn.core

theorem AdvPost.refused {w w' : World} {own : Nat → Nat} {k bb : Nat} {T : Int} {L : List EIn} {time : Int} (h : Buf w own k bb T L) (hb : Below w.heap.size w w') {c : Int} (hc : advC T time = c) (h0 : c ≠ 0) : AdvPost w own k bb T L time (.returned (.tuple #[.slice none 0 0, .int .i64 c])) w' :=
  ⟨_, [], by rw [hc], OStep.of_below hb, by
    rw [advT, advW, if_neg (by rw [hc]; exact h0), if_neg (by rw [hc]; exact h0)]
    exact h.step (K := fun _ => False) (OStep.of_below hb) (fun h => h) (fun h => h), EFix.nil _ _, by rw [advE, if_neg (by rw [hc]; exact h0)]⟩

theorem due_le (L : List EIn) (time : Int) : (dueL L time).length ≤ L.length := (List.takeWhile_prefix _).length_le

theorem adv_end {w : World} {own : Nat → Nat} {k bb : Nat} {T : Int} {L : List EIn} (h : Buf w own k bb T L) (hk : k ≠ 0) (hz : OZ w own) {va : Option Addr} {vc : Nat} (hc : w.cell? ⟨bb, 1, none⟩ = some (.slice va L.length vc)) {time : Int} (hadv : advC T time = 0)
    {w1 w2 : World} (hb1 : Below w.heap.size w w1) {v : Value} {es : List EIn} (hE : EOwn w2 (w1.heap.size + 1) v es) (hes : es.map EIn.core = (dueL L time).map EIn.core) (hb2 : Below w1.heap.size w1 w2) (tc : w2.cell? ⟨w.heap.size, 0, none⟩ = some (.int .i64 time)) :
    Calls Try.prog 70 #[.slice va L.length vc, .int .i64 0, .int .i64 es.length] w2 fun e w3 => ∃ a8 l8 c8, e = .returned (.slice a8 l8 c8) ∧ w3.cell? ⟨bb, 1, none⟩ = some (.slice va L.length vc) ∧ w3.frozen? ⟨bb, 1, none⟩ = false ∧
      (w3.setCell ⟨bb, 1, none⟩ (.slice a8 l8 c8)).cell? ⟨w.heap.size, 0, none⟩ = some (.int .i64 time) ∧ (w3.setCell ⟨bb, 1, none⟩ (.slice a8 l8 c8)).cell? ⟨bb, 0, none⟩ = some (.int .i64 T) ∧ (w3.setCell ⟨bb, 1, none⟩ (.slice a8 l8 c8)).frozen? ⟨bb, 0, none⟩ = false ∧
      Hid (AdvPost w own k bb T L time (.returned (.tuple #[v, .int .i64 0])) ((w3.setCell ⟨bb, 1, none⟩ (.slice a8 l8 c8)).setCell ⟨bb, 0, none⟩ (.int .i64 time))) := by
  obtain ⟨hb, ho, hg, hgne⟩ := h.row hc
  have hbb : bb < w.heap.size := (Array.getElem?_eq_some_iff.1 hb).1
  have hbw : Below w.heap.size w w2 := hb1.trans (hb2.mono hb1.size)
  have hs1 := hb1.size
  have hs2 := hb2.size
  have ho2 : w2.ownsRow 0 25 5 (.slice va L.length vc) L.length (flat L) := eowns_of_block ho (fun g hgv => hbw.block g (ho.lt g hgv).2)
  have hlen : es.length = (dueL L time).length := by simpa using congrArg List.length hes
  have hml : es.length ≤ L.length := by rw [hlen]; exact due_le _ _
  refine (delete_calls 0 (.slice va L.length vc) L.length es.length (flat L) w2 ho2 hml (by have := h.len; omega) (flat_one L)).mono ?_
  rintro e w3 ⟨v', rfl, hown', hfr, hob⟩
  have hys : (flat L).drop (es.length * 5) = flat (L.drop es.length) := (flat_take hml).2.symm
  rw [hys] at hown'
  obtain ⟨a8, c8, rfl⟩ := vowns_slice hown'
  obtain ⟨v8, hv8⟩ : ∃ v8, v8 = Value.slice a8 (L.length - es.length) c8 := ⟨_, rfl⟩
  have hnbb : Value.ownBlock (.slice va L.length vc) ≠ some bb := fun e => (hgne _ e).1 rfl
  have hb3 : w3.heap[bb]? = some (.cells #[.int .i64 T, .slice va L.length vc] 101 (0, 0)) := by
    rw [hfr.block bb (by omega) hnbb, hbw.block bb hbb]; exact hb
  refine ⟨a8, _, c8, rfl, fcell_of_blk hb3 rfl, frozen_of_row w3 bb 1 _ 101 hb3, ?_⟩
  rw [← hv8] at hown' hob ⊢
  have hb4 : (w3.setCell ⟨bb, 1, none⟩ v8).heap[bb]? = some (.cells #[.int .i64 T, v8] 101 (0, 0)) := heap_setCell_same w3 bb 1 _ 101 v8 hb3
  have hb5 : ((w3.setCell ⟨bb, 1, none⟩ v8).setCell ⟨bb, 0, none⟩ (.int .i64 time)).heap[bb]? = some (.cells #[.int .i64 time, v8] 101 (0, 0)) := heap_setCell_same _ bb 0 _ 101 (.int .i64 time) hb4
  have ho4 : ∀ b, b ≠ bb → (w3.setCell ⟨bb, 1, none⟩ v8).heap[b]? = w3.heap[b]? := fun b hbn => heap_setCell_other _ _ _ _ hbn
  have ho5 : ∀ b, b ≠ bb → ((w3.setCell ⟨bb, 1, none⟩ v8).setCell ⟨bb, 0, none⟩ (.int .i64 time)).heap[b]? = w3.heap[b]? := fun b hbn => (heap_setCell_other _ _ _ _ hbn).trans (ho4 b hbn)
  have tlt : w.heap.size < w2.heap.size := World.block_lt_of_cell? _ _ tc
  have tblk : w3.heap[w.heap.size]? = w2.heap[w.heap.size]? := hfr.block _ tlt (fun e => by have := (hgne _ e).2; omega)
  refine ⟨(World.cell?_of_block ((ho4 _ (by dsimp only; omega)).trans tblk)).trans tc, fcell_of_blk hb4 rfl, frozen_of_row _ bb 0 _ 101 hb4, ?_⟩
  have hfr3 : OFr (fun b => own b = k) w w3 := (OFr.of_below hbw).trans (hfr.mono (fun b _ hbk => hg b hbk))
  have hfr5 : OFr (fun b => own b = k) w ((w3.setCell ⟨bb, 1, none⟩ v8).setCell ⟨bb, 0, none⟩ (.int .i64 time)) := (hfr3.setCell (fun _ => h.obb) v8).setCell (fun _ => h.obb) _
  have hs5 : ((w3.setCell ⟨bb, 1, none⟩ v8).setCell ⟨bb, 0, none⟩ (.int .i64 time)).heap.size = w3.heap.size := by simp
  have hs3 := hfr.size
  generalize (w3.setCell ⟨bb, 1, none⟩ v8).setCell ⟨bb, 0, none⟩ (.int .i64 time) = W5 at hb5 ho5 hfr5 hs5 ⊢
  have hfrE : ∀ b, w1.heap.size ≤ b → b < w2.heap.size → W5.heap[b]? = w2.heap[b]? := fun b h1 h2 => (ho5 b (by omega)).trans (hfr.block b h2 (fun e => by have := (hgne _ e).2; omega))
  refine ⟨v, es, by rw [hadv], ⟨hfr5, fun _ _ => rfl⟩, ⟨⟨v8, ?_, ?_, ?_⟩, h.obb, ?_, ?_, ?_⟩, ⟨?_, ?_, ?_⟩, ?_⟩
  · rw [advT, if_pos hadv]; exact hb5
  · rw [advW, if_pos hadv, ← hlen, List.length_drop]
    exact eowns_of_block hown' (fun g hgv => ho5 g (fun e => hnbb (by rw [← hob, hgv, e])))
  · intro g hgv
    exact hg g (by rw [← hob]; exact hgv)
  · intro x hx
    rw [advW, if_pos hadv] at hx
    obtain ⟨h1, h2, h3⟩ := h.vals x (List.mem_of_mem_drop hx)
    exact ⟨h1.ofr hfr5 (fun A hA => by rw [(h2 A hA).2]; exact fun e => hk e.symm), fun A hA => ⟨Nat.lt_of_lt_of_le (h2 A hA).1 hfr5.size, (h2 A hA).2⟩, h3⟩
  · rw [advW, if_pos hadv]
    exact h.sort.sublist (List.drop_sublist _ _)
  · rw [advW, if_pos hadv, List.length_drop]
    have := h.len; omega
  · exact eowns_of_block (eowns_base hE.own (Nat.zero_le _)) (fun g hgv => hfrE g (by have := (hE.own.lt g hgv).1; omega) (hE.own.lt g hgv).2)
  · intro g hgv
    exact hz g (by have := (hE.own.lt g hgv).1; omega)
  · intro x hx
    obtain ⟨h1, h2⟩ := hE.vals x hx
    refine ⟨fun j y hj => ?_, fun A hA => ?_⟩
    · obtain ⟨A, e, c0, c1, c2, c3⟩ := h1 j y hj
      obtain ⟨e1, e2, _⟩ := h2 A e
      have hkp : ∀ {p : Addr} {u : Value}, p.block = A.block → w2.cell? p = some u → W5.cell? p = some u := fun {p u} hp hcc => (World.cell?_of_block (by rw [hp]; exact hfrE _ (by omega) e2)).trans hcc
      exact ⟨A, e, hkp (oadd_block _ _) c0, hkp (oadd_block A _) c1, hkp (oadd_block A _) c2, c3⟩
    · obtain ⟨e1, e2, _⟩ := h2 A hA
      exact ⟨by omega, hz _ (by omega)⟩
  · rw [advE, if_pos hadv]; exact hes

/-- What New leaves. -/
def NewPost (w : World) (own : Nat → Nat) (k : Nat) (e : Ending) (w' : World) : Prop :=
  ∃ own', e = .returned (.pointer (some ⟨w.heap.size, 0, none⟩)) ∧ OStep (fun _ => False) own own' w w' ∧ Buf w' own' k w.heap.size (-1) [] ∧ (OZ w own → OZ w' own') ∧ Below w.heap.size w w'

theorem Buf.new (w : World) (own : Nat → Nat) (k : Nat) : NewPost w own k (.returned (.pointer (some ⟨w.heap.size, 0, none⟩))) (w.alloc (.cells #[.int .i64 (-1), .slice none 0 0] 101)) := by
  have hb : Below w.heap.size w (w.alloc (.cells #[.int .i64 (-1), .slice none 0 0] 101)) := (Below.refl _ _).alloc (Nat.le_refl _) _
  refine ⟨fun b => if b = w.heap.size then k else own b, rfl, ⟨OFr.of_below hb, fun b hbl => if_neg (by omega)⟩, ⟨⟨_, heap_alloc_new _ _, World.ownsRow_nil _ _ _ _, (fun g hg => by cases hg)⟩, if_pos rfl, fun x hx => (by cases hx), List.Pairwise.nil, by simp⟩, fun hz b hbl => ?_, hb⟩
  have : w.heap.size + 1 ≤ b := by simpa using hbl
  show (if b = w.heap.size then k else own b) = 0
  rw [if_neg (by omega)]
  exact hz b (by omega)

/-- What Waiting leaves. -/
def WaitPost (w : World) (own : Nat → Nat) (L : List EIn) (e : Ending) (w' : World) : Prop :=
  ∃ v es, e = .returned v ∧ Below w.heap.size w w' ∧ EFix w' own v es ∧ es.map EIn.core = L.map EIn.core

end Go.Proofs.Ytfmlgckfcclojaa
namespace Go.Proofs.Ytfmlgckfcclojaa
open Go.RowKit Go.Lib Go.Op

theorem Buf.tells {w : World} {own : Nat → Nat} {k bb : Nat} {T : Int} {L : List EIn} (h : Buf w own k bb T L) : ∀ x ∈ L, VRow w x.a x.vs ∧ x.nm.size ≤ 281474976710656 ∧ x.vs.length ≤ 900 ∧ ∀ z ∈ x.vs, z.2.2.size ≤ 281474976710656 := fun x hx => by
  obtain ⟨h1, _, h3⟩ := h.vals x hx
  obtain ⟨t, d, s, n, a, c, vs⟩ := x
  obtain ⟨e1, e2, e3⟩ := right_sizes h3
  exact ⟨h1, by dsimp only; omega, by dsimp only; omega, fun z hz => by have := e3 z hz; omega⟩

def ToldQ (w : World) (l : List EIn) (e : Ending) (w' : World) : Prop := ∃ v es, e = .returned v ∧ EOwn w' (w.heap.size + 1) v es ∧ es.map EIn.core = l.map EIn.core ∧ Below w.heap.size w w'

set_option maxHeartbeats 2000000 in
set_option maxRecDepth 100000 in
theorem oadvance_calls {w : World} {own : Nat → Nat} {k bb : Nat} {T : Int} {L : List EIn} (h : Buf w own k bb T L) (hk : k ≠ 0) (hz : OZ w own) (time : Int) :
    Calls Try.prog 40 #[.pointer (some ⟨bb, 0, none⟩), .int .i64 time] w (AdvPost w own k bb T L time) := by
  have H := Lib.hid h
  have HZ := Lib.hid hz
  obtain ⟨v, hb, ho, hg⟩ := h.blk
  obtain ⟨va, vc, rfl⟩ := vowns_slice ho
  have b0 : w.cell? ⟨bb, 0, none⟩ = some (.int .i64 T) := fcell_of_blk hb rfl
  have b1 : w.cell? ⟨bb, 1, none⟩ = some (.slice va L.length vc) := fcell_of_blk hb rfl
  have B1 := Lib.hid b1
  obtain ⟨W0, hW0⟩ : ∃ W0, W0 = w.alloc (.cells #[.int .i64 time] 2) := ⟨_, rfl⟩
  have hB0 : Below w.heap.size w W0 := by rw [hW0]; exact (Below.refl _ _).alloc (Nat.le_refl _) _
  have c0 : W0.cell? ⟨w.heap.size, 0, none⟩ = some (.int .i64 time) := by rw [hW0]; exact new_cell _ _ _ rfl rfl
  have hEC := ECells.of_owns ho rfl
  have HT : Hid (∀ W, Below W0.heap.size W0 W → Calls Try.prog 68 #[.pointer (some ⟨bb, 0, none⟩), .func (.func 69) #[] #[.pointer (some ⟨w.heap.size, 0, none⟩)]] W (ToldQ W (dueL L time))) := fun W hW => by
    have hwW : Below w.heap.size w W := hB0.trans (hW.mono hB0.size)
    exact told_callsc (w := W) (fun x => decide (x.ts ≤ time)) (ekeep hwW b1) (ECells.kept (T := fun _ _ => False) (OKp.of_below hwW) hEC (fun _ _ _ _ h => h)) (by have := h.len; omega) (fun A hA => Nat.lt_of_lt_of_le (ho.lt A.block (by rw [hA]; rfl)).2 hwW.size)
      (fun x hx => by obtain ⟨h1, h2⟩ := h.tells x hx; exact ⟨h1.below hwW, h2⟩) (enters_of Try.func69 (by kernel_rfl) rfl)
      (fun W' hk x _ => oadvance1_calls x w.heap.size time W' (hk.cell (ekeep hW c0) (fun o _ hT => by have := World.block_lt_of_cell? _ _ (ekeep hW c0); dsimp only at this hT; omega)))
  have b0 := ekeep hB0 b0
  have b1 := ekeep hB0 b1
  have HB0 := Lib.hid hB0
  have HW0 := Lib.hid hW0
  clear h hb ho hg hW0 hB0 hEC hz
  go_enter Try.func40, Try.ntmps40
  go_upto_region 1 with fail
  rw [← HW0.out]
  clear HW0
  by_cases h1 : time < 0
  · go_wp2
    go_ret2
    exact AdvPost.refused H.out HB0.out (by unfold advC; rw [if_pos (.inl h1)]) (by decide)
  by_cases h2 : 1099511627776 < time
  · go_wp2
    go_ret2
    exact AdvPost.refused H.out HB0.out (by unfold advC; rw [if_pos (.inr h2)]) (by decide)
  by_cases h3 : time < T
  · have hd : decide (time < T) = true := by simpa using h3
    go_upto_region 3 with fail
    go_quiet (fail)
    go_wp2
    go_ret2
    exact AdvPost.refused H.out (vbelow_drewN HB0.out _) (by unfold advC; rw [if_neg (by omega), if_pos h3]) (by decide)
  have hd : decide (time < T) = false := by simpa using h3
  have hadv : advC T time = 0 := by unfold advC; rw [if_neg (by omega), if_neg h3]
  have Hadv := Lib.hid hadv
  clear hadv
  go_upto_region 3 with fail
  go_quiet (fail)
  go_upto_region 5 with fail
  obtain ⟨W1, hW1⟩ : ∃ W1, W1 = W0.drewN nq := ⟨_, rfl⟩
  have HB1 : Hid (Below W0.heap.size W0 W1) := by show Below _ _ _; rw [hW1]; exact vbelow_drewN (Below.refl _ _) _
  have HBw := Lib.hid (HB0.out.trans (HB1.out.mono HB0.out.size))
  have c1 := ekeep HB1.out c0
  have d0 := ekeep HB1.out b0
  have d1 := ekeep HB1.out b1
  rw [← hW1]
  clear hW1 c0 b0 b1
  go_upto_region 6 with (go_at_call 68; (with_reducible refine (HT.out _ HB1.out).mono ?_); rintro e w2 ⟨v, es, rfl, hE, hes, hb2⟩; have c2 := ekeep hb2 c1; have HD := Lib.hid (adv_end H.out hk HZ.out B1.out Hadv.out HBw.out hE hes hb2 c2); have d0 := ekeep hb2 d0; have d1 := ekeep hb2 d1; obtain ⟨a9, c9, rfl⟩ := vowns_slice hE.own; clear hE hes hb2)
  obtain ⟨m, hm⟩ : ∃ m, es.length = m := ⟨_, rfl⟩
  obtain ⟨n, hn⟩ : ∃ n, L.length = n := ⟨_, rfl⟩
  rw [hn] at d1
  rw [hm, hn] at HD
  rw [hm]
  clear hm hn B1
  go_upto_region 7 with (go_at_call 70; (with_reducible refine HD.out.mono ?_); rintro e w3 ⟨a8, l8, c8, rfl, f1, f2, f3, f4, f5, HF⟩)
  go_wp2
  go_ret2
  exact HF.out

set_option maxHeartbeats 2000000 in
set_option maxRecDepth 100000 in
theorem owaiting_calls {w : World} {own : Nat → Nat} {k bb : Nat} {T : Int} {L : List EIn} (h : Buf w own k bb T L) (hz : OZ w own) :
    Calls Try.prog 47 #[.pointer (some ⟨bb, 0, none⟩)] w (WaitPost w own L) := by
  obtain ⟨v, hb, ho, hg⟩ := h.blk
  obtain ⟨va, vc, rfl⟩ := vowns_slice ho
  have b1 : w.cell? ⟨bb, 1, none⟩ = some (.slice va L.length vc) := fcell_of_blk hb rfl
  have ht := told_callsn (w := w) (fun _ => true) b1 (ECells.of_owns ho rfl) (by have := h.len; omega) (fun A hA => (ho.lt A.block (by rw [hA]; rfl)).2) h.tells (enters_of Try.func76 (by kernel_rfl) rfl) (fun W' _ x _ => owaiting1_calls x W')
  rw [takeWhile_all (fun _ _ => rfl)] at ht
  have HT : Hid (Calls Try.prog 68 #[.pointer (some ⟨bb, 0, none⟩), .func (.func 76) #[] #[]] w (ToldQ w L)) := ht
  have HZ := Lib.hid hz
  clear h hb ho hg b1 ht hz
  go_enter Try.func47, Try.ntmps47
  go_wp2_with (go_at_call 68; (with_reducible refine HT.out.mono ?_); rintro e w2 ⟨v, es, rfl, hE, hes, hb2⟩; have HF : Hid (WaitPost w own L (.returned v) w2) := ⟨v, es, rfl, hb2, EFix.of_eown hE (fun b hb => HZ.out b (by omega)), hes⟩; obtain ⟨a9, c9, rfl⟩ := vowns_slice hE.own; clear hE hes hb2)
  go_ret
  exact HF.out

set_option maxRecDepth 100000 in
theorem otime_calls {w : World} {own : Nat → Nat} {k bb : Nat} {T : Int} {L : List EIn} (h : Buf w own k bb T L) :
    Calls Try.prog 45 #[.pointer (some ⟨bb, 0, none⟩)] w fun e w' => e = .returned (.int .i64 T) ∧ w = w' := by
  obtain ⟨v, hb, _⟩ := h.blk
  have b0 : w.cell? ⟨bb, 0, none⟩ = some (.int .i64 T) := fcell_of_blk hb rfl
  clear h hb
  go_enter Try.func45, Try.ntmps45
  go_wp2
  go_ret
  exact ⟨rfl, rfl⟩

set_option maxRecDepth 100000 in
theorem onew_calls (w : World) (own : Nat → Nat) (k : Nat) : Calls Try.prog 37 #[] w (NewPost w own k) := by
  have HN := Lib.hid (Buf.new w own k)
  go_enter Try.func37, Try.ntmps37
  go_wp2
  go_ret
  exact HN.out

end Go.Proofs.Ytfmlgckfcclojaa
namespace Go.Proofs.Ytfmlgckfcclojaa
open Go.RowKit Go.Lib Go.Op

abbrev Core := Int × Int × Int × ByteArray × List VIn
def lessC (a b : Core) : Bool := lessE a.1 a.2.1 a.2.2.1 b.1 b.2.1 b.2.2.1
def rightC (c : Core) : Bool := rightE (pe c.1 c.2.1 c.2.2.1 c.2.2.2.1 c.2.2.2.2)
def putCC (T : Int) (M : List Core) (c : Core) : Int :=
  if rightC c then (if c.1 ≤ T then 61 else (match M[posL lessC M c]? with
    | some z => if lessC c z then (if M.length < 256 then 0 else 2) else 151
    | none => if M.length < 256 then 0 else 2)) else 1
def putWC (T : Int) (M : List Core) (c : Core) : List Core := if putCC T M c = 0 then insL lessC M c else M
def dueC (M : List Core) (time : Int) : List Core := M.takeWhile fun c => decide (c.1 ≤ time)
def advEC (T : Int) (M : List Core) (time : Int) : List Core := if advC T time = 0 then dueC M time else []
def advWC (T : Int) (M : List Core) (time : Int) : List Core := if advC T time = 0 then M.drop (dueC M time).length else M

theorem posL_core (y : EIn) : ∀ L : List EIn, posL lessX L y = posL lessC (L.map EIn.core) y.core
  | [] => rfl
  | x :: L => by
    rw [List.map_cons, posL_cons, posL_cons, posL_core y L]
    rfl
theorem putC_core (T : Int) (L : List EIn) (y : EIn) : putC T L y = putCC T (L.map EIn.core) y.core := by
  unfold putC putCC
  rw [posL_core, List.length_map, List.getElem?_map]
  show (if rightE y.p = true then _ else _) = (if rightE y.p = true then _ else _)
  cases L[posL lessC (L.map EIn.core) y.core]? <;> rfl
theorem putW_core (T : Int) (L : List EIn) (y : EIn) : (putW T L y).map EIn.core = putWC T (L.map EIn.core) y.core := by
  unfold putW putWC
  rw [putC_core]
  split
  · unfold insL
    rw [List.map_append, List.map_cons, List.map_take, List.map_drop, posL_core]
  · rfl
theorem due_core (L : List EIn) (time : Int) : (dueL L time).map EIn.core = dueC (L.map EIn.core) time := by
  unfold dueL dueC
  rw [List.takeWhile_map]
  rfl
theorem due_core_len (L : List EIn) (time : Int) : (dueL L time).length = (dueC (L.map EIn.core) time).length := by rw [← due_core, List.length_map]
theorem advE_core (T : Int) (L : List EIn) (time : Int) : (advE T L time).map EIn.core = advEC T (L.map EIn.core) time := by
  unfold advE advEC
  split
  · exact due_core _ _
  · rfl
theorem advW_core (T : Int) (L : List EIn) (time : Int) : (advW T L time).map EIn.core = advWC T (L.map EIn.core) time := by
  unfold advW advWC
  split
  · rw [List.map_drop, due_core_len]
  · rfl

/-- A row of events that nobody writes. -/
def ERow (w : World) (own : Nat → Nat) (v : Value) (N : List Core) : Prop := ∃ es, EFix w own v es ∧ es.map EIn.core = N
theorem ERow.step {K : Nat → Prop} {w w' : World} {own own' : Nat → Nat} {v : Value} {N : List Core} (h : ERow w own v N) (hs : OStep K own own' w w') (h0 : ¬ K 0) : ERow w' own' v N := by
  obtain ⟨es, h1, h2⟩ := h
  exact ⟨es, h1.step hs h0, h2⟩
theorem ERow.below {w w' : World} {own : Nat → Nat} {v : Value} {N : List Core} (h : ERow w own v N) (hb : Below w.heap.size w w') : ERow w' own v N := h.step (K := fun _ => False) (OStep.of_below hb) (fun h => h)
theorem ERow.slice {w : World} {own : Nat → Nat} {v : Value} {N : List Core} (h : ERow w own v N) : ∃ a c, v = .slice a N.length c := by
  obtain ⟨es, h1, h2⟩ := h
  obtain ⟨a, c, e, _⟩ := h1.slice
  exact ⟨a, c, by rw [e, ← h2, List.length_map]⟩

/-- A buffer in a law's walk: what was there ahead of it is as it was. -/
structure OB (w0 w : World) (own : Nat → Nat) (bb : Nat) (T : Int) (M : List Core) : Prop where
  ex : ∃ L, Buf w own 1 bb T L ∧ L.map EIn.core = M
  oz : OZ w own
  hb : Below w0.heap.size w0 w
  lo : w0.heap.size ≤ bb
  zo : ∀ b, b < w0.heap.size → own b = 0

theorem OB.len {w0 w : World} {own : Nat → Nat} {bb : Nat} {T : Int} {M : List Core} (h : OB w0 w own bb T M) : M.length ≤ 256 := by
  obtain ⟨L, h1, h2⟩ := h.ex
  rw [← h2, List.length_map]
  exact h1.len
theorem OB.sort {w0 w : World} {own : Nat → Nat} {bb : Nat} {T : Int} {M : List Core} (h : OB w0 w own bb T M) : M.Pairwise (fun a b => lessC a b = true) := by
  obtain ⟨L, h1, rfl⟩ := h.ex
  rw [List.pairwise_map]
  exact h1.sort
theorem OB.right {w0 w : World} {own : Nat → Nat} {bb : Nat} {T : Int} {M : List Core} (h : OB w0 w own bb T M) : ∀ c ∈ M, rightC c = true := by
  obtain ⟨L, h1, rfl⟩ := h.ex
  intro c hc
  obtain ⟨x, hx, rfl⟩ := List.mem_map.1 hc
  exact (h1.vals x hx).2.2
theorem OB.step {w0 w w' : World} {K : Nat → Prop} {own own' : Nat → Nat} {bb : Nat} {T : Int} {M : List Core} (h : OB w0 w own bb T M) (hs : OStep K own own' w w') (h1 : ¬ K 1) (h0 : ¬ K 0) (hz : OZ w' own') : OB w0 w' own' bb T M := by
  obtain ⟨L, hL, hm⟩ := h.ex
  refine ⟨⟨L, hL.step hs h1 h0, hm⟩, hz, ?_, h.lo, fun b hb => (hs.own b (Nat.lt_of_lt_of_le hb h.hb.size)).trans (h.zo b hb)⟩
  exact h.hb.trans ⟨hs.fr.os, hs.fr.tape, hs.fr.output, Nat.le_trans h.hb.size hs.fr.size |> fun _ => hs.fr.size, fun b hb => hs.fr.block b (Nat.lt_of_lt_of_le hb h.hb.size) (by rw [h.zo b hb]; exact h0)⟩
theorem OB.below {w0 w w' : World} {own : Nat → Nat} {bb : Nat} {T : Int} {M : List Core} (h : OB w0 w own bb T M) (hb : Below w.heap.size w w') : OB w0 w' own bb T M :=
  h.step (K := fun _ => False) (OStep.of_below hb) (fun h => h) (fun h => h) (h.oz.step hb.size)

theorem OB.base {w0 w w' : World} {own own' : Nat → Nat} {bb : Nat} {T : Int} {M : List Core} (h : OB w0 w own bb T M) (hs : OStep (fun j => j = 1) own own' w w') : Below w0.heap.size w0 w' ∧ ∀ b, b < w0.heap.size → own' b = 0 :=
  ⟨h.hb.trans ⟨hs.fr.os, hs.fr.tape, hs.fr.output, hs.fr.size, fun b hb => hs.fr.block b (Nat.lt_of_lt_of_le hb h.hb.size) (by rw [h.zo b hb]; decide)⟩, fun b hb => (hs.own b (Nat.lt_of_lt_of_le hb h.hb.size)).trans (h.zo b hb)⟩

/-- What Put leaves. -/
def PutQ (w0 w : World) (own : Nat → Nat) (bb : Nat) (T : Int) (M : List Core) (c : Core) (e : Ending) (w' : World) : Prop :=
  ∃ own', e = .returned (.int .i64 (putCC T M c)) ∧ OB w0 w' own' bb T (putWC T M c) ∧ OStep (fun j => j = 1) own own' w w'
theorem OB.put {w0 w : World} {own : Nat → Nat} {bb : Nat} {T : Int} {M : List Core} (h : OB w0 w own bb T M) (y : EIn) (hy : VRow w y.a y.vs) (hn : y.nm.size ≤ maxLen) (hl : y.vs.length ≤ maxLen) :
    Calls Try.prog 43 #[.pointer (some ⟨bb, 0, none⟩), y.v] w (PutQ w0 w own bb T M y.core) := by
  obtain ⟨L, hL, rfl⟩ := h.ex
  refine (oput_calls hL (by decide) y hy hn hl).mono ?_
  rintro e w' ⟨own', L', rfl, h1, h2, h3, h4⟩
  exact ⟨own', by rw [putC_core], ⟨⟨L', h2, by rw [h3, putW_core]⟩, h4 h.oz, (h.base h1).1, h.lo, (h.base h1).2⟩, h1⟩

/-- What Advance leaves. -/
def AdvQ (w0 w : World) (own : Nat → Nat) (bb : Nat) (T : Int) (M : List Core) (time : Int) (e : Ending) (w' : World) : Prop :=
  ∃ v, e = .returned (.tuple #[v, .int .i64 (advC T time)]) ∧ OB w0 w' own bb (advT T time) (advWC T M time) ∧ ERow w' own v (advEC T M time) ∧ OStep (fun j => j = 1) own own w w'
theorem OB.adv {w0 w : World} {own : Nat → Nat} {bb : Nat} {T : Int} {M : List Core} (h : OB w0 w own bb T M) (time : Int) :
    Calls Try.prog 40 #[.pointer (some ⟨bb, 0, none⟩), .int .i64 time] w (AdvQ w0 w own bb T M time) := by
  obtain ⟨L, hL, rfl⟩ := h.ex
  refine (oadvance_calls hL (by decide) h.oz time).mono ?_
  rintro e w' ⟨v, es, rfl, h1, h2, h3, h4⟩
  exact ⟨v, rfl, ⟨⟨_, h2, advW_core _ _ _⟩, h.oz.step h1.fr.size, (h.base h1).1, h.lo, (h.base h1).2⟩, ⟨es, h3, by rw [h4, advE_core]⟩, h1⟩

/-- What Waiting leaves. -/
def WaitQ (w : World) (own : Nat → Nat) (M : List Core) (e : Ending) (w' : World) : Prop :=
  ∃ v, e = .returned v ∧ Below w.heap.size w w' ∧ ERow w' own v M
theorem OB.wait {w0 w : World} {own : Nat → Nat} {bb : Nat} {T : Int} {M : List Core} (h : OB w0 w own bb T M) :
    Calls Try.prog 47 #[.pointer (some ⟨bb, 0, none⟩)] w (WaitQ w own M) := by
  obtain ⟨L, hL, rfl⟩ := h.ex
  refine (owaiting_calls hL h.oz).mono ?_
  rintro e w' ⟨v, es, rfl, h1, h2, h3⟩
  exact ⟨v, rfl, h1, ⟨es, h2, h3⟩⟩
theorem OB.time {w0 w : World} {own : Nat → Nat} {bb : Nat} {T : Int} {M : List Core} (h : OB w0 w own bb T M) :
    Calls Try.prog 45 #[.pointer (some ⟨bb, 0, none⟩)] w fun e w' => e = .returned (.int .i64 T) ∧ w = w' := by
  obtain ⟨L, hL, rfl⟩ := h.ex
  exact otime_calls hL

/-- What New leaves. -/
def NewQ (w0 w : World) (own : Nat → Nat) (k : Nat) (e : Ending) (w' : World) : Prop :=
  ∃ own', e = .returned (.pointer (some ⟨w.heap.size, 0, none⟩)) ∧ OStep (fun _ => False) own own' w w' ∧ Buf w' own' k w.heap.size (-1) [] ∧ OZ w' own' ∧ Below w.heap.size w w' ∧ Below w0.heap.size w0 w' ∧ ∀ b, b < w0.heap.size → own' b = 0
theorem new_q {w0 w : World} {own : Nat → Nat} (hb : Below w0.heap.size w0 w) (hz : OZ w own) (ho : ∀ b, b < w0.heap.size → own b = 0) (k : Nat) : Calls Try.prog 37 #[] w (NewQ w0 w own k) := by
  refine (onew_calls w own k).mono ?_
  rintro e w' ⟨own', rfl, h1, h2, h3, h4⟩
  exact ⟨own', rfl, h1, h2, h3 hz, h4, hb.trans (h4.mono hb.size), fun b hb' => (h1.own b (Nat.lt_of_lt_of_le hb' hb.size)).trans (ho b hb')⟩
theorem NewQ.ob {w0 w w' : World} (hb : Below w0.heap.size w0 w) {own' : Nat → Nat} (h2 : Buf w' own' 1 w.heap.size (-1) []) (h3 : OZ w' own') (h5 : Below w0.heap.size w0 w') (h6 : ∀ b, b < w0.heap.size → own' b = 0) : OB w0 w' own' w.heap.size (-1) [] :=
  ⟨⟨[], h2, rfl⟩, h3, h5, hb.size, h6⟩

end Go.Proofs.Ytfmlgckfcclojaa
namespace Go.Proofs.Ytfmlgckfcclojaa
open Go.RowKit Go.Lib Go.Op

set_option maxHeartbeats 2000000 in
set_option maxRecDepth 100000 in
theorem rsame_calls {w : World} {own own2 : Nat → Nat} {v u : Value} {N : List Core} (hv : ERow w own v N) (hu : ERow w own2 u N) (hN : N.length ≤ 1000) (hs : ∀ c ∈ N, c.2.2.2.2.length ≤ 1000) :
    Calls Try.prog 42 #[v, u] w fun e w' => e = .returned (.bool true) ∧ Below w.heap.size w w' := by
  obtain ⟨es, hE, hes⟩ := hv
  obtain ⟨fs, hF, hfs⟩ := hu
  obtain ⟨a, c, rfl, hEC⟩ := hE.slice
  obtain ⟨b, d, rfl, hFC⟩ := hF.slice
  have hl : es.length = N.length := by simpa using congrArg List.length hes
  have hm : fs.length = N.length := by simpa using congrArg List.length hfs
  have HEC := Lib.hid hEC
  have HFC := Lib.hid hFC
  have HAT : Hid (∀ k, k < N.length → ∃ t d s n a1 c1 a2 c2 vs, es[k]? = some ⟨t, d, s, n, a1, c1, vs⟩ ∧ fs[k]? = some ⟨t, d, s, n, a2, c2, vs⟩ ∧ VRow w a1 vs ∧ VRow w a2 vs ∧ vs.length ≤ 1000) := fun k hk => by
    obtain ⟨x, hx⟩ : ∃ x, es[k]? = some x := ⟨_, List.getElem?_eq_getElem (by rw [hl]; exact hk)⟩
    obtain ⟨y, hy⟩ : ∃ y, fs[k]? = some y := ⟨_, List.getElem?_eq_getElem (by rw [hm]; exact hk)⟩
    have h1 : N[k]? = some x.core := by rw [← hes, List.getElem?_map, hx]; rfl
    have h2 : N[k]? = some y.core := by rw [← hfs, List.getElem?_map, hy]; rfl
    rw [h1] at h2
    injection h2 with h2
    have hvx := (hE.vals x (List.mem_of_getElem? hx)).1
    have hvy := (hF.vals y (List.mem_of_getElem? hy)).1
    have hlx := hs _ (List.mem_of_getElem? h1)
    obtain ⟨t, d, s, n, a1, c1, vs⟩ := x
    obtain ⟨t', d', s', n', a2, c2, vs'⟩ := y
    simp only [EIn.core, Prod.mk.injEq] at h2
    obtain ⟨rfl, rfl, rfl, rfl, rfl⟩ := h2
    exact ⟨t, d, s, n, a1, c1, a2, c2, vs, hx, hy, hvx, hvy, hlx⟩
  obtain ⟨l, hll⟩ : ∃ l, N.length = l := ⟨_, rfl⟩
  rw [hll] at hl hm hN HAT
  rw [hl, hm]
  have ht : ((l : Int) != (l : Int)) = false := by simp
  clear hE hF hEC hFC hl hm hes hfs hll hs
  go_enter Try.func42, Try.ntmps42
  go_wp2
  go_loopw [5] (fun i wr => ∃ k : Nat, i = .int .i64 k ∧ k ≤ l ∧ Hid (Below w.heap.size w wr)) (fun i _ => l - (intOf i).toNat)
  case atStart => exact ⟨0, rfl, Nat.zero_le _, Below.refl _ _⟩
  case round =>
    obtain ⟨k, rfl, hk, HB⟩ := hrel
    by_cases hlt : k < l
    · obtain ⟨t, d, s, n, a1, c1, a2, c2, vs, hx, hy, h1, h2, h3⟩ := HAT.out k hlt
      obtain ⟨A, rfl, x0, x1, x2, x3, x4⟩ := (ECells.kept (T := fun _ _ => False) (OKp.of_below HB.out) HEC.out (fun _ _ _ _ h => h)) k _ hx
      obtain ⟨B, rfl, y0, y1, y2, y3, y4⟩ := (ECells.kept (T := fun _ _ => False) (OKp.of_below HB.out) HFC.out (fun _ _ _ _ h => h)) k _ hy
      unfold efld at x1 x2 x3 x4 y1 y2 y3 y4
      dsimp only at x0 x1 x2 x3 x4 y0 y1 y2 y3 y4
      have HS : Hid (∀ W, Below wr.heap.size wr W → Calls Try.prog 32 #[evV t d s n (.slice a1 vs.length c1), evV t d s n (.slice a2 vs.length c2)] W fun e w' => e = .returned (.bool true) ∧ Below W.heap.size W w') := fun W hW =>
        sameOne_calls t d s n a1 c1 a2 c2 vs W ((h1.below HB.out).below hW) ((h2.below HB.out).below hW) (by unfold maxLen; omega)
      have hk0 : (0 : Int) ≤ (k : Int) := by omega
      have hk1 : (k : Int) < (l : Int) := by omega
      obtain ⟨q, hq⟩ : ∃ q, vs.length = q := ⟨_, rfl⟩
      rw [hq] at x4 y4 HS
      clear hx hy h1 h2 h3 hq HAT
      go_upto_region 6 with fail
      go_region_with (go_at_call 32; (with_reducible refine (HS.out _ (vbelow_drew (Below.refl _ _))).mono ?_); rintro e w2 ⟨rfl, hb2⟩; have HB2 : Hid (Below wr.heap.size wr w2) := below_as hb2 rfl rfl rfl rfl; clear hb2)
      all_goals
        (go_wp2
         go_roundw
         case rel => exact ⟨k + 1, by go_num, by omega, HB.out.trans (HB2.out.mono HB.out.size)⟩
         case measure => simp [intOf]; omega)
    · go_wp2
      go_ret
      exact ⟨rfl, HB.out⟩

end Go.Proofs.Ytfmlgckfcclojaa
namespace Go.Proofs.Ytfmlgckfcclojaa
open Go.RowKit Go.Lib Go.Op

def PutR (w0 w : World) (own : Nat → Nat) (bb : Nat) (T : Int) (x : Int) (M : List Core) (e : Ending) (w' : World) : Prop :=
  ∃ own', e = .returned (.int .i64 x) ∧ OB w0 w' own' bb T M ∧ OStep (fun j => j = 1) own own' w w'
theorem OB.putR {w0 w : World} {own : Nat → Nat} {bb : Nat} {T : Int} {M M' : List Core} (h : OB w0 w own bb T M) (y : EIn) (hy : VRow w y.a y.vs) (hn : y.nm.size ≤ maxLen) (hl : y.vs.length ≤ maxLen) {x : Int} (hx : putCC T M y.core = x) (hM : putWC T M y.core = M') :
    Calls Try.prog 43 #[.pointer (some ⟨bb, 0, none⟩), y.v] w (PutR w0 w own bb T x M') := by
  refine (h.put y hy hn hl).mono ?_
  rintro e w' ⟨own', rfl, h1, h2⟩
  exact ⟨own', by rw [hx], hM ▸ h1, h2⟩
def AdvR (w0 w : World) (own : Nat → Nat) (bb : Nat) (T : Int) (x : Int) (N M : List Core) (e : Ending) (w' : World) : Prop :=
  ∃ v, e = .returned (.tuple #[v, .int .i64 x]) ∧ OB w0 w' own bb T M ∧ ERow w' own v N ∧ OStep (fun j => j = 1) own own w w'
theorem OB.advR {w0 w : World} {own : Nat → Nat} {bb : Nat} {T T' : Int} {M N M' : List Core} (h : OB w0 w own bb T M) (time : Int) {x : Int} (hx : advC T time = x) (hT : advT T time = T') (hN : advEC T M time = N) (hM : advWC T M time = M') :
    Calls Try.prog 40 #[.pointer (some ⟨bb, 0, none⟩), .int .i64 time] w (AdvR w0 w own bb T' x N M') := by
  refine (h.adv time).mono ?_
  rintro e w' ⟨v, rfl, h1, h2, h3⟩
  subst hx hT hN hM
  exact ⟨v, rfl, h1, h2, h3⟩

def hk1 : Core := (3, 0, 0, ⟨#[97]⟩, [])
def hk2 : Core := (1, 0, 0, ⟨#[97]⟩, [])
def hk3 : Core := (1, 0, 0, ⟨#[98]⟩, [])
def hk4 : Core := (2, 0, 0, ⟨#[97]⟩, [])
theorem vrow_nil (w : World) (a : Option Addr) : VRow w a [] := fun j x hj => by simp at hj
theorem nB_size : (⟨#[98]⟩ : ByteArray).size ≤ maxLen := size_small (by decide)

theorem erow_one {w : World} {own : Nat → Nat} {v : Value} {t d s : Int} {n : ByteArray} {vs : List VIn} (h : ERow w own v [(t, d, s, n, vs)]) : ∃ A c, v = .slice (some A) 1 c ∧ w.cell? A = some (.int .i64 t) := by
  obtain ⟨es, h1, h2⟩ := h
  obtain ⟨a, c, rfl, h3⟩ := h1.slice
  obtain ⟨x, rfl⟩ : ∃ x, es = [x] := by
    match es, h2 with
    | [x], _ => exact ⟨x, rfl⟩
    | [], h => cases h
    | _ :: _ :: _, h => simp at h
  obtain ⟨A, rfl, h4, _⟩ := h3 0 x rfl
  simp only [List.map_cons, List.map_nil, List.cons.injEq, and_true, EIn.core, Prod.mk.injEq] at h2
  rw [Nat.zero_mul, Addr.add_zero'] at h4
  exact ⟨A, c, rfl, by rw [h4, h2.1]⟩

set_option maxHeartbeats 4000000 in
set_option maxRecDepth 100000 in
theorem ohead_calls (w : World) : Calls Try.prog 36 #[] w fun e w' => e = .returned (.bool true) ∧ Below w.heap.size w w' := by
  have HN := Lib.hid (new_q (w0 := w) (w := w) (own := fun _ => 0) (Below.refl _ _) (fun _ _ => rfl) (fun _ _ => rfl) 1)
  go_enter Try.func36, Try.ntmps36
  go_wp2_with fail
  refine HN.out.mono ?_
  rintro e w1 ⟨own1, rfl, _, hB, hz, _, h5, h6⟩
  have H1 := Lib.hid (NewQ.ob (Below.refl _ _) hB hz h5 h6)
  clear hB hz h5 h6
  have HP : Hid (Calls Try.prog 43 #[.pointer (some ⟨w.heap.size, 0, none⟩), .agg #[.int .i64 3, .int .i64 0, .int .i64 0, .string ⟨#[97]⟩, .slice none 0 0]] w1 (PutR w w1 own1 w.heap.size (-1) 0 [hk1])) := H1.out.putR ⟨3, 0, 0, ⟨#[97]⟩, none, 0, []⟩ (vrow_nil _ _) nA_size (Nat.zero_le _) (by decide +kernel) (by kernel_rfl)
  go_upto_region 5 with (go_at_call 43; (with_reducible refine HP.out.mono ?_); rintro e w2 ⟨own2, rfl, h2, _⟩; have H2 := Lib.hid h2; clear h2)
  clear HP
  have HP : Hid (Calls Try.prog 43 #[.pointer (some ⟨w.heap.size, 0, none⟩), .agg #[.int .i64 1, .int .i64 0, .int .i64 0, .string ⟨#[97]⟩, .slice none 0 0]] w2 (PutR w w2 own2 w.heap.size (-1) 0 [hk2, hk1])) := H2.out.putR ⟨1, 0, 0, ⟨#[97]⟩, none, 0, []⟩ (vrow_nil _ _) nA_size (Nat.zero_le _) (by decide +kernel) (by kernel_rfl)
  go_upto_region 6 with (go_at_call 43; (with_reducible refine HP.out.mono ?_); rintro e w3 ⟨own3, rfl, h3, _⟩; have H3 := Lib.hid h3; clear h3)
  clear HP
  have HP : Hid (Calls Try.prog 43 #[.pointer (some ⟨w.heap.size, 0, none⟩), .agg #[.int .i64 1, .int .i64 0, .int .i64 0, .string ⟨#[98]⟩, .slice none 0 0]] w3 (PutR w w3 own3 w.heap.size (-1) 151 [hk2, hk1])) := H3.out.putR ⟨1, 0, 0, ⟨#[98]⟩, none, 0, []⟩ (vrow_nil _ _) nB_size (Nat.zero_le _) (by decide +kernel) (by kernel_rfl)
  go_upto_region 7 with (go_at_call 43; (with_reducible refine HP.out.mono ?_); rintro e w4 ⟨own4, rfl, h4, _⟩; have H4 := Lib.hid h4; clear h4)
  clear HP
  have HA : Hid (Calls Try.prog 40 #[.pointer (some ⟨w.heap.size, 0, none⟩), .int .i64 2] w4 (AdvR w w4 own4 w.heap.size 2 0 [hk2] [hk1])) := H4.out.advR 2 (by decide +kernel) (by decide +kernel) (by kernel_rfl) (by kernel_rfl)
  go_upto_region 8 with (go_at_call 40; (with_reducible refine HA.out.mono ?_); rintro e w5 ⟨v5, rfl, h5, hr5, _⟩; have H5 := Lib.hid h5; have HR5 := Lib.hid hr5; obtain ⟨a5, c5, rfl⟩ := hr5.slice; clear h5 hr5)
  clear HA
  have HP : Hid (Calls Try.prog 43 #[.pointer (some ⟨w.heap.size, 0, none⟩), .agg #[.int .i64 2, .int .i64 0, .int .i64 0, .string ⟨#[97]⟩, .slice none 0 0]] w5 (PutR w w5 own4 w.heap.size 2 61 [hk1])) := H5.out.putR ⟨2, 0, 0, ⟨#[97]⟩, none, 0, []⟩ (vrow_nil _ _) nA_size (Nat.zero_le _) (by decide +kernel) (by kernel_rfl)
  go_upto_region 9 with (go_at_call 43; (with_reducible refine HP.out.mono ?_); rintro e w6 ⟨own6, rfl, h6, hs6⟩; have H6 := Lib.hid h6; have HR6 := Lib.hid (HR5.out.step hs6 (by decide)); clear h6 hs6)
  clear HP
  have HA : Hid (Calls Try.prog 40 #[.pointer (some ⟨w.heap.size, 0, none⟩), .int .i64 1] w6 (AdvR w w6 own6 w.heap.size 2 61 [] [hk1])) := H6.out.advR 1 (by decide +kernel) (by decide +kernel) (by kernel_rfl) (by kernel_rfl)
  go_upto_region 10 with (go_at_call 40; (with_reducible refine HA.out.mono ?_); rintro e w7 ⟨v7, rfl, h7, hr7, hs7⟩; have H7 := Lib.hid h7; have HR7 := Lib.hid (HR6.out.step hs7 (by decide)); obtain ⟨a7, c7, rfl⟩ := hr7.slice; clear h7 hr7 hs7)
  clear HA
  obtain ⟨A, c, he, hc⟩ := erow_one HR7.out
  injection he with he1 _ he2
  subst he1 he2
  have HT := Lib.hid H7.out.time
  have HW := Lib.hid H7.out.wait
  go_wp2_with (first
    | (go_at_call 45; (with_reducible refine HT.out.mono ?_); rintro e w8 ⟨rfl, rfl⟩)
    | (go_at_call 47; (with_reducible refine HW.out.mono ?_); rintro e w8 ⟨v8, rfl, hb8, hr8⟩; have HB8 := Lib.hid hb8; obtain ⟨a8, c8, rfl⟩ := hr8.slice; clear hb8 hr8))
  go_ret
  exact ⟨rfl, H7.out.hb.trans (HB8.out.mono H7.out.hb.size)⟩

end Go.Proofs.Ytfmlgckfcclojaa
namespace Go.Proofs.Ytfmlgckfcclojaa
open Go.RowKit Go.Lib Go.Op

/-- Events in a row, as they were handed in. -/
def EvRow (w : World) (a : Option Addr) (l : List EIn) : Prop := ECells w a l ∧ ∀ x ∈ l, VRow w x.a x.vs ∧ x.vs.length ≤ maxLen ∧ x.nm.size ≤ maxLen
theorem EvRow.below {w w' : World} {a : Option Addr} {l : List EIn} (h : EvRow w a l) (hb : Below w.heap.size w w') : EvRow w' a l :=
  ⟨ECells.kept (T := fun _ _ => False) (OKp.of_below hb) h.1 (fun _ _ _ _ h => h), fun x hx => ⟨(h.2 x hx).1.below hb, (h.2 x hx).2⟩⟩

theorem dueC_filter {M : List Core} (time : Int) (h : M.Pairwise (fun a b => lessC a b = true)) : dueC M time = M.filter (fun c => decide (c.1 ≤ time)) ∧ M.drop (dueC M time).length = M.filter (fun c => !decide (c.1 ≤ time)) := by
  refine takeWhile_filter (h.imp ?_)
  intro a b h1 h2
  simp only [lessC, lessE, decide_eq_true_eq] at h1 h2 ⊢
  omega

theorem putWC_count {T : Int} {M : List Core} {c : Core} (p : Core → Bool) : ((putWC T M c).filter p).length = (M.filter p).length + (if putCC T M c = 0 ∧ p c = true then 1 else 0) := by
  unfold putWC
  by_cases h : putCC T M c = 0
  · rw [if_pos h, (insL_perm M c).filter p |>.length_eq, List.filter_cons]
    by_cases hp : p c = true
    · rw [if_pos hp, if_pos ⟨h, hp⟩, List.length_cons]
    · rw [if_neg hp, if_neg (fun e => hp e.2)]
      rfl
  · rw [if_neg h, if_neg (fun e => h e.1)]
    rfl
theorem filter_split {α : Type} (p : α → Bool) : ∀ l : List α, (l.filter p).length + (l.filter fun x => !p x).length = l.length
  | [] => rfl
  | x :: l => by
    have ih := filter_split p l
    simp only [List.filter_cons, List.length_cons]
    cases p x <;> simp <;> omega

theorem ERow.cells {w : World} {own : Nat → Nat} {v : Value} {N : List Core} (h : ERow w own v N) : ∃ a c, v = .slice a N.length c ∧ ∀ k t, N[k]? = some t → ∃ A, a = some A ∧ w.cell? (A.add (k * 5)) = some (.int .i64 t.1) := by
  obtain ⟨es, h1, h2⟩ := h
  obtain ⟨a, c, rfl, h3⟩ := h1.slice
  refine ⟨a, c, by rw [← h2, List.length_map], fun k t ht => ?_⟩
  rw [← h2, List.getElem?_map] at ht
  obtain ⟨x, hx, rfl⟩ := Option.map_eq_some_iff.1 ht
  obtain ⟨A, e, h4, _⟩ := h3 k x hx
  exact ⟨A, e, h4⟩

set_option maxHeartbeats 2000000 in
set_option maxRecDepth 100000 in
theorem due_walk (w : World) (a : Option Addr) (c : Nat) (l : List EIn) (hl : EvRow w a l) (hn : l.length ≤ maxLen) (time : Int) : Calls Try.prog 13 #[.slice a l.length c, .int .i64 time] w fun e w' => e = .returned (.bool true) ∧ Below w.heap.size w w' := by
  have HH := Lib.hid (ohead_calls w)
  have HL := Lib.hid hl
  obtain ⟨n, hnn⟩ : ∃ n, l.length = n := ⟨_, rfl⟩
  have Hn := Lib.hid hnn
  rw [hnn] at hn ⊢
  unfold maxLen at hn
  clear hl hnn
  go_enter Try.func13, Try.ntmps13
  go_wp2_with fail
  with_reducible refine HH.out.mono ?_
  rintro e w1 ⟨rfl, hb1⟩
  have HB1 := Lib.hid hb1
  have HN := Lib.hid (new_q (w0 := w) (w := w1) (own := fun _ => 0) hb1 (fun _ _ => rfl) (fun _ _ => rfl) 1)
  clear HH hb1
  go_wp2_with fail
  refine HN.out.mono ?_
  rintro e w2 ⟨own2, rfl, _, hB, hz, _, h5, h6⟩
  have H2 := Lib.hid (NewQ.ob HB1.out hB hz h5 h6)
  clear hB hz h5 h6 HN
  obtain ⟨bb, hbb⟩ : ∃ bb, w1.heap.size = bb := ⟨_, rfl⟩
  rw [hbb] at H2 ⊢
  clear hbb
  by_cases h200 : 200 < n
  · have hd : decide (200 < (n : Int)) = true := by simp; omega
    go_wp2
    go_ret
    exact ⟨rfl, H2.out.hb⟩
  have hd : decide (200 < (n : Int)) = false := by simp; omega
  go_wp2_with fail
  go_loopw [7, 8] (fun x i wr => ∃ (k q : Nat) (own : Nat → Nat) (M : List Core), i = .int .i64 k ∧ x = .int .i64 q ∧ k ≤ n ∧ Hid (OB w wr own bb (-1) M) ∧ Hid ((M.filter fun c => decide (c.1 ≤ time)).length = q) ∧ q ≤ k) (fun _ i _ => n - (intOf i).toNat)
  case atStart => exact ⟨0, 0, own2, [], rfl, rfl, Nat.zero_le _, H2, rfl, Nat.le_refl _⟩
  case round =>
    obtain ⟨k, q, own, M, rfl, rfl, hk, HO, HQ, hqk⟩ := hrel
    by_cases hlt : k < n
    · obtain ⟨x, hx⟩ : ∃ x, l[k]? = some x := ⟨_, List.getElem?_eq_getElem (by rw [Hn.out]; exact hlt)⟩
      have hxv := HL.out.2 x (List.mem_of_getElem? hx)
      have hce : ∀ W, Below w.heap.size w W → ∃ A, a = some A ∧ W.cell? (A.add (k * 5)) = some (.int .i64 x.ts) ∧ W.cell? (efld A 5 k 1) = some (.int .i64 x.dep) ∧ W.cell? (efld A 5 k 2) = some (.int .i64 x.seq) ∧ W.cell? (efld A 5 k 3) = some (.string x.nm) ∧ W.cell? (efld A 5 k 4) = some (.slice x.a x.vs.length x.c) := fun W hW => (HL.out.below hW).1 k x hx
      have HCE := Lib.hid hce
      obtain ⟨A, rfl, c0, c1, c2, c3, c4⟩ := hce wr HO.out.hb
      unfold efld at c1 c2 c3 c4
      have HGE : Hid (Calls Try.prog 16 #[evV x.ts x.dep x.seq x.nm (.slice x.a x.vs.length x.c)] wr (GreatP wr)) := greatE_calls x.ts x.dep x.seq x.nm x.a x.c x.vs wr hxv.2.2 (hxv.1.below HO.out.hb) hxv.2.1
      have HPU : Hid (∀ W, Below wr.heap.size wr W → Calls Try.prog 43 #[.pointer (some ⟨bb, 0, none⟩), evV x.ts x.dep x.seq x.nm (.slice x.a x.vs.length x.c)] W (PutQ w W own bb (-1) M x.core)) := fun W hW => (HO.out.below hW).put x (hxv.1.below (HO.out.below hW).hb) hxv.2.2 hxv.2.1
      obtain ⟨z, hz⟩ : ∃ z, putCC (-1) M x.core = z := ⟨_, rfl⟩
      have Hz := Lib.hid hz
      have hcnt := putWC_count (T := -1) (M := M) (c := x.core) (fun c => decide (c.1 ≤ time))
      rw [HQ.out, hz] at hcnt
      have HCN := Lib.hid hcnt
      obtain ⟨vl, hvl⟩ : ∃ vl, x.vs.length = vl := ⟨_, rfl⟩
      rw [hvl] at c4 HGE HPU HCE
      have hk0 : (0 : Int) ≤ (k : Int) := by omega
      have hk1 : (k : Int) < (n : Int) := by omega
      clear hx hxv hce hz hcnt hvl
      go_wp2_with fail
      with_reducible refine HGE.out.mono ?_
      rintro e w3 ⟨g, rfl, hb3⟩
      have HB3 := Lib.hid hb3
      clear HGE hb3
      cases g with
      | true =>
        go_wp2
        go_ret
        exact ⟨rfl, (HO.out.below HB3.out).hb⟩
      | false =>
      have c0 := ekeep HB3.out c0
      have c1 := ekeep HB3.out c1
      have c2 := ekeep HB3.out c2
      have c3 := ekeep HB3.out c3
      have c4 := ekeep HB3.out c4
      by_cases hz0 : z = 0
      · by_cases hle : x.ts ≤ time
        · have hcn : ((putWC (-1) M x.core).filter fun c => decide (c.1 ≤ time)).length = q + 1 := by rw [HCN.out, if_pos ⟨hz0, decide_eq_true hle⟩]
          have HC2 := Lib.hid hcn
          have hd1 : decide (x.ts ≤ time) = true := by simpa using hle
          clear hcn HCN HQ
          go_wp2_with (go_at_call 43; (with_reducible refine (HPU.out _ HB3.out).mono ?_); rintro e w4 ⟨own4, rfl, h4, _⟩; rw [Hz.out, hz0]; have H4 := Lib.hid h4; clear h4; obtain ⟨A', e1, c0, _⟩ := HCE.out w4 H4.out.hb; injection e1 with e1; subst e1)
          go_roundw
          case rel => exact ⟨k + 1, q + 1, own4, _, by go_num, by go_num, by omega, H4, HC2, by omega⟩
          case measure => simp [intOf]; omega
        · have hcn : ((putWC (-1) M x.core).filter fun c => decide (c.1 ≤ time)).length = q := by rw [HCN.out, if_neg (fun e => hle (of_decide_eq_true e.2))]; rfl
          have HC2 := Lib.hid hcn
          have hd1 : decide (x.ts ≤ time) = false := by simpa using hle
          clear hcn HCN HQ
          go_wp2_with (go_at_call 43; (with_reducible refine (HPU.out _ HB3.out).mono ?_); rintro e w4 ⟨own4, rfl, h4, _⟩; rw [Hz.out, hz0]; have H4 := Lib.hid h4; clear h4; obtain ⟨A', e1, c0, _⟩ := HCE.out w4 H4.out.hb; injection e1 with e1; subst e1)
          go_roundw
          case rel => exact ⟨k + 1, q, own4, _, by go_num, rfl, by omega, H4, HC2, by omega⟩
          case measure => simp [intOf]; omega
      · have hcn : ((putWC (-1) M x.core).filter fun c => decide (c.1 ≤ time)).length = q := by rw [HCN.out, if_neg (fun e => hz0 e.1)]; rfl
        have HC2 := Lib.hid hcn
        have hd1 : (z == 0) = false := by rw [beq_eq_false_iff_ne]; exact hz0
        clear hcn HCN HQ
        go_wp2_with (go_at_call 43; (with_reducible refine (HPU.out _ HB3.out).mono ?_); rintro e w4 ⟨own4, rfl, h4, _⟩; rw [Hz.out]; have H4 := Lib.hid h4; clear h4)
        go_roundw
        case rel => exact ⟨k + 1, q, own4, _, by go_num, rfl, by omega, H4, HC2, by omega⟩
        case measure => simp [intOf]; omega
    · obtain ⟨hdf, hdd⟩ := dueC_filter time HO.out.sort
      have hsp := filter_split (fun c : Core => decide (c.1 ≤ time)) M
      rw [HQ.out] at hsp
      have hM := HO.out.len
      have HDF := Lib.hid hdf
      have HDD := Lib.hid hdd
      have HW1 := Lib.hid HO.out.wait
      obtain ⟨mm, hmm⟩ : ∃ mm, M.length = mm := ⟨_, rfl⟩
      rw [hmm] at hsp hM
      have Hmm := Lib.hid hmm
      have Hsp := Lib.hid hsp
      have HQl : Hid ((dueC M time).length = q) := by show _ = _; rw [hdf]; exact HQ.out
      have HLl : Hid ((M.drop (dueC M time).length).length = mm - q) := by show _ = _; rw [List.length_drop, HQl.out, hmm]
      have HXs : Hid (∀ (k : Nat) (t : Core), (dueC M time)[k]? = some t → t.1 ≤ time) := fun k t ht => by
        rw [HDF.out] at ht
        have := (List.mem_filter.1 (List.mem_of_getElem? ht)).2
        simpa using this
      have HYs : Hid (∀ (k : Nat) (t : Core), (M.drop (dueC M time).length)[k]? = some t → time < t.1) := fun k t ht => by
        rw [HDD.out] at ht
        have := (List.mem_filter.1 (List.mem_of_getElem? ht)).2
        simpa using this
      clear hdf hdd hmm hsp HDF HDD HQ
      go_wp2_with fail
      refine HW1.out.mono ?_
      rintro e w3 ⟨v3, rfl, hb3, hr3⟩
      obtain ⟨a3, c3, rfl⟩ := hr3.slice
      have H3 := Lib.hid (HO.out.below hb3)
      clear HW1 hb3 hr3
      rw [Hmm.out]
      have HAD := Lib.hid (H3.out.adv time)
      go_wp2_with fail
      refine HAD.out.mono ?_
      rintro e w4 ⟨v4, rfl, h4, hr4, hs4⟩
      have H4 := Lib.hid h4
      have HR4 := Lib.hid hr4
      clear HAD h4 hr4 hs4
      have HW2 := Lib.hid H4.out.wait
      obtain ⟨z, hz⟩ : ∃ z, advC (-1) time = z := ⟨_, rfl⟩
      have Hz := Lib.hid hz
      by_cases hz0 : z = 0
      · subst hz0
        have hE : advEC (-1) M time = dueC M time := by unfold advEC; rw [if_pos hz]
        have hW : advWC (-1) M time = M.drop (dueC M time).length := by unfold advWC; rw [if_pos hz]
        rw [hE] at HR4
        rw [hW] at HW2
        rw [hz]
        obtain ⟨a4, c4, rfl, hc4⟩ := HR4.out.cells
        have hq4 := HQl.out
        rw [hq4]
        clear hE hW hz
        go_wp2_with fail
        refine HW2.out.mono ?_
        rintro e w5 ⟨v5, rfl, hb5, hr5⟩
        obtain ⟨a5, c5, rfl, hc5⟩ := hr5.cells
        have hl5 := HLl.out
        rw [hl5]
        have HC4 : Hid (∀ (k : Nat) (t : Core), (dueC M time)[k]? = some t → ∃ A, a4 = some A ∧ w5.cell? (A.add (k * 5)) = some (.int .i64 t.1)) := fun k t ht => by
          obtain ⟨A, e1, e2⟩ := hc4 k t ht
          exact ⟨A, e1, ekeep hb5 e2⟩
        have HC5 := Lib.hid hc5
        have HB5 := Lib.hid (H4.out.below hb5).hb
        clear HW2 hb5 hr5 hc4 hc5 hq4 hl5
        go_wp2_with fail
        go_loop [13] (fun i => ∃ j : Nat, i = .int .i64 j ∧ j ≤ q) (fun i => q - (intOf i).toNat)
        case atStart => exact ⟨0, rfl, Nat.zero_le _⟩
        case round =>
          obtain ⟨j, rfl, hj⟩ := hrel
          by_cases hjl : j < q
          · obtain ⟨t, ht⟩ : ∃ t, (dueC M time)[j]? = some t := ⟨_, List.getElem?_eq_getElem (by rw [HQl.out]; exact hjl)⟩
            obtain ⟨A, rfl, c0⟩ := HC4.out j t ht
            have hle := HXs.out j t ht
            have hd1 : decide (time < t.1) = false := by simp; omega
            have hj0 : (0 : Int) ≤ (j : Int) := by omega
            have hj1 : (j : Int) < (q : Int) := by omega
            clear ht
            go_wp2
            go_round
            case rel => exact ⟨j + 1, by go_num, by omega⟩
            case measure => simp [intOf]; omega
          · go_wp2_with fail
            go_loop [14] (fun i => ∃ j : Nat, i = .int .i64 j ∧ j ≤ mm - q) (fun i => mm - q - (intOf i).toNat)
            case atStart => exact ⟨0, rfl, Nat.zero_le _⟩
            case round =>
              obtain ⟨j2, rfl, hj2⟩ := hrel
              by_cases hjl2 : j2 < mm - q
              · obtain ⟨t, ht⟩ : ∃ t, (M.drop (dueC M time).length)[j2]? = some t := ⟨_, List.getElem?_eq_getElem (by rw [HLl.out]; exact hjl2)⟩
                obtain ⟨A, rfl, c0⟩ := HC5.out j2 t ht
                have hgt := HYs.out j2 t ht
                have hd1 : decide (t.1 ≤ time) = false := by simp; omega
                have hj0 : (0 : Int) ≤ (j2 : Int) := by omega
                have hj1 : (j2 : Int) < ((mm - q : Nat) : Int) := by omega
                clear ht
                go_wp2
                go_round
                case rel => exact ⟨j2 + 1, by go_num, by omega⟩
                case measure => simp [intOf]; omega
              · have hsp := Hsp.out
                have hcast : ((mm - q : Nat) : Int) = (mm : Int) - (q : Int) := by omega
                have t1 : (((mm - q : Nat) : Int) == (mm : Int) - (q : Int)) = true := by rw [beq_iff_eq]; exact hcast
                have t2 : ((q : Int) == (q : Int)) = true := by simp
                clear hcast
                go_wp2
                go_ret
                exact ⟨rfl, HB5.out⟩
      · have hE : advEC (-1) M time = [] := by unfold advEC; rw [if_neg (by rw [hz]; exact hz0)]
        have hW : advWC (-1) M time = M := by unfold advWC; rw [if_neg (by rw [hz]; exact hz0)]
        rw [hE] at HR4
        rw [hW] at HW2
        rw [hz]
        obtain ⟨a4, c4, rfl⟩ := HR4.out.slice
        have hd1 : (z != 0) = true := by rw [bne_iff_ne]; exact hz0
        clear hE hW hz
        go_wp2_with fail
        refine HW2.out.mono ?_
        rintro e w5 ⟨v5, rfl, hb5, hr5⟩
        obtain ⟨a5, c5, rfl⟩ := hr5.slice
        rw [Hmm.out]
        have HB5 := Lib.hid (H4.out.below hb5).hb
        clear HW2 hb5 hr5
        go_wp2
        go_ret
        exact ⟨rfl, HB5.out⟩

end Go.Proofs.Ytfmlgckfcclojaa
namespace Go.Proofs.Ytfmlgckfcclojaa
open Go.ChangeShapes Go.WideShapes Go.ChangeAt Go.RowKit Go.Lib Go.Deep
open Go.ChangeMaps (open_string shut_string)

instance : Inhabited EIn := ⟨⟨0, 0, 0, .empty, none, 0, []⟩⟩

section
variable {H : Type} {enc : TypeId × Value → H} {w : World} {base : Nat} {spare : Nat → Bool} {held : Bool}

set_option maxRecDepth 100000 in
theorem open_events {fuel : Nat} {a : Option Addr} {len cap : Nat} {x : DataW H × List MemPlace} (h : DataW.trod enc Try.prog w base spare held fuel 66 [.slice a len cap] = some x) :
    ∃ es : List EIn, len = es.length ∧ es.length ≤ maxLen ∧ EvRow w a es := by
  rcases open_slice Try.underlying66 h with ⟨hcs, _⟩ | ⟨A, l, c, m, n, D, Pl, hcs, _, hl, hm, hmm, _, hx⟩
  · simp at hcs
    obtain ⟨rfl, rfl, rfl⟩ := hcs
    exact ⟨[], rfl, Nat.zero_le _, (fun j s hj => by simp at hj), fun x hx => by cases hx⟩
  · simp at hcs
    obtain ⟨rfl, rfl, rfl⟩ := hcs
    have hlm : len ≤ m := by rw [hmm]; split <;> omega
    have c5 : Try.prog.cellsOf 25 = 5 := by kernel_rfl
    have hall : ∀ i, i < len → ∃ q : EIn, (w.cell? (A.add (i * 5)) = some (.int .i64 q.ts) ∧ w.cell? (efld A 5 i 1) = some (.int .i64 q.dep) ∧ w.cell? (efld A 5 i 2) = some (.int .i64 q.seq) ∧ w.cell? (efld A 5 i 3) = some (.string q.nm) ∧ w.cell? (efld A 5 i 4) = some (.slice q.a q.vs.length q.c)) ∧ VRow w q.a q.vs ∧ q.vs.length ≤ maxLen ∧ q.nm.size ≤ maxLen := fun i hi => by
      obtain ⟨cs', h1, h2⟩ := hx i (by omega)
      rw [c5] at h1
      obtain ⟨_, hlen, hcell⟩ := World.cells?_some h1
      obtain ⟨xs, k, hk, hxy, _, hxl, hf⟩ := DataW.trod_struct Try.underlying25 h2
      match xs, hxl, cs', hlen with
      | [y0, y1, y2, y3, y4], _, [v0, v1, v2, v3, v4], _ =>
        have k0 : Try.prog.cellsOf 2 = 1 := by kernel_rfl
        have k1 : Try.prog.cellsOf 3 = 1 := by kernel_rfl
        have k3 : Try.prog.cellsOf 9 = 1 := by kernel_rfl
        have k4 : Try.prog.cellsOf 23 = 1 := by kernel_rfl
        have g0 := hf 0 _ rfl
        have g1 := hf 1 _ rfl
        have g2 := hf 2 _ rfl
        have g3 := hf 3 _ rfl
        have g4 := hf 4 _ rfl
        simp [k0] at g0
        simp [k1] at g1
        simp [k0] at g2
        simp [k3] at g3
        simp [k4] at g4
        have e0 : w.cell? (A.add (i * 5)) = some v0 := hcell 0 (by omega)
        have e1 : w.cell? (efld A 5 i 1) = some v1 := hcell 1 (by omega)
        have e2 : w.cell? (efld A 5 i 2) = some v2 := hcell 2 (by omega)
        have e3 : w.cell? (efld A 5 i 3) = some v3 := hcell 3 (by omega)
        have e4 : w.cell? (efld A 5 i 4) = some v4 := hcell 4 (by omega)
        obtain ⟨n0, hv0, _, _⟩ := DataW.trod_int Try.underlying2 g0
        obtain ⟨n1, hv1, _, _⟩ := DataW.trod_int Try.underlying3 g1
        obtain ⟨n2, hv2, _, _⟩ := DataW.trod_int Try.underlying2 g2
        obtain ⟨s3, hv3, _, hs3⟩ := DataW.trod_string Try.underlying9 g3
        simp at hv0 hv1 hv2 hv3
        subst hv0 hv1 hv2 hv3
        obtain ⟨a4, l4, c4, rfl⟩ : ∃ a l c, v4 = .slice a l c := by
          rcases DataW.trod_slice Try.underlying23 g4 with ⟨h, _⟩ | ⟨a, l, c, _, _, _, _, h, _⟩
          · simp at h; exact ⟨_, _, _, h⟩
          · simp at h; exact ⟨_, _, _, h⟩
        obtain ⟨vs, rfl, hl4, hr4⟩ := open_vals g4
        exact ⟨⟨n0, n1, n2, s3, a4, c4, vs⟩, ⟨e0, e1, e2, e3, e4⟩, hr4, hl4, hs3⟩
    obtain ⟨q, hq⟩ := choose_lt hall
    refine ⟨(List.range len).map q, by simp, by simp; omega, (fun j o hj => ⟨A, rfl, ?_⟩), fun x hx => ?_⟩
    · obtain ⟨hjl, rfl⟩ := List.getElem?_eq_some_iff.1 hj
      simp at hjl ⊢
      exact (hq j hjl).1
    · obtain ⟨i, hi, rfl⟩ := List.mem_map.1 hx
      exact (hq i (List.mem_range.1 hi)).2
end

end Go.Proofs.Ytfmlgckfcclojaa

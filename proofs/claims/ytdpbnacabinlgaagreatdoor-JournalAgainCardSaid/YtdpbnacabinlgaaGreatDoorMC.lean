/- A journal: the last picture. | A journal: the logs behind a picture. | A journal: bounds of what Open finds. | A journal: Open, on a device that is down. | A journal: leave and Sync, one behind the other. | A journal's device in plain words: the file of a name, and what each act does to it. -/
import Derived.Test.YtdpbnacabinlgaaGreatDoorMB
import Derived.Maps.AppendAt
import Derived.RangeFuncWrites
import Derived.Sort.QuietIn
import Derived.Sort.OwnSortedInts
namespace Go.Proofs.YtdpbnacabinlgaaGreatDoor
open Go.RowKit Go.Lib Go.Maps Go.ChangeMaps Go.Sort Go.Shelf
open Go.Proofs (encStr)

attribute [local go_sem] Oper.semAt_some

theorem numbers_stops {w : World} {own : Owner} {db fb gb nn : Nat} {r : RDm} (h : LDev w own db fb gb nn r) (hv : Vars w own) (hnn : nn ≤ 1000000) (n : Nat) (hn : 1 ≤ n) (T : Nat → Obj → Prop) {x0 x1 : Nat} {s : ByteArray} (hs : s.size ≤ 1000)
    (y0 : w.cell? ⟨x0, 0, none⟩ = some (.pointer (some ⟨db, 0, none⟩))) (y1 : w.cell? ⟨x1, 0, none⟩ = some (.string s)) (hT1 : ∀ o, w.heap[x1]? = some o → ¬ T x1 o) (hTv : ∀ b o, b ≤ 2 → ¬ T b o) (hTn : ∀ b cs fr, w.heap.size ≤ b → ¬ T b (.cells cs 9 fr)) :
    SeqStopsK Fence.wide n Tryz.prog 97 #[.pointer (some ⟨x0, 0, none⟩), .pointer (some ⟨x1, 0, none⟩)] (fun x : I63 => #[Value.int .i64 (x.1 : Nat)]) (KpT T) (fun ys => ys = numsL r s.data.toList) (fun pre => pre <+: numsL r s.data.toList) (numsL r s.data.toList).length w := fun l J Jx _ hW hJ _ hY h0 =>
  numbers1_in (h.below hW) (hv.below hW) hnn n hn l T hs ((hW.cell (World.block_lt_of_cell? _ _ y0)).trans y0) ((hW.cell (World.block_lt_of_cell? _ _ y1)).trans y1) (fun o ho => hT1 o ((hW.block x1 (World.block_lt_of_cell? _ _ y1)).symm.trans ho)) hTv (fun b cs fr hb => hTn b cs fr (Nat.le_trans hW.size hb)) J Jx hJ hY h0

/-- The picture that is found, file by file. -/
def stepPic (r : RDm) (p : Nat × List UInt8) (x : I63) : Nat × List UInt8 :=
  if x.1 < p.1 then p
  else match cutB (bytesR r (numName snapM x.1)) with
    | [rec] => if cutN (bytesR r (numName snapM x.1)) = (bytesR r (numName snapM x.1)).length then (x.1, rec) else p
    | _ => p
def picL (r : RDm) (xs : List I63) : Nat × List UInt8 := xs.foldl (stepPic r) (0, [])
theorem picL_snoc (r : RDm) (xs : List I63) (x : I63) : picL r (xs ++ [x]) = stepPic r (picL r xs) x := by simp [picL]
def lastP (r : RDm) : Nat × List UInt8 := picL r (numsL r snapM)

theorem KpT.setCell {T : Nat → Obj → Prop} {W W' : World} (h : KpT T W W') {p : Addr} (hp : ∀ o, T p.block o) (u : Value) : KpT T W (W'.setCell p u) :=
  ⟨by simp [World.setCell]; exact h.1, fun b o hb ho hT => (Below.heap_setCell _ _ _ _ (fun e => by subst e; exact hT (hp o))).trans (h.2 b o hb ho hT)⟩
theorem KpT.drew {T : Nat → Obj → Prop} {W W' : World} (h : KpT T W W') : KpT T W W'.drew := ⟨h.1, h.2⟩

/-- Behind two stores into boxes. -/
theorem two_stores {W : World} {a b g : Nat} {u v : Value} (hc1 : (W.cell? ⟨a, 0, none⟩).isSome = true) (hc2 : (W.cell? ⟨b, 0, none⟩).isSome = true) (f1 : W.frozen? ⟨a, 0, none⟩ = false) (f2 : W.frozen? ⟨b, 0, none⟩ = false) (hab : a ≠ b) (hga : g ≠ a) (hgb : g ≠ b) {y : Value} (hg : W.cell? ⟨g, 0, none⟩ = some y) :
    (((W.setCell ⟨a, 0, none⟩ u).setCell ⟨b, 0, none⟩ v).drew).cell? ⟨a, 0, none⟩ = some u ∧ (((W.setCell ⟨a, 0, none⟩ u).setCell ⟨b, 0, none⟩ v).drew).frozen? ⟨a, 0, none⟩ = false ∧ (((W.setCell ⟨a, 0, none⟩ u).setCell ⟨b, 0, none⟩ v).drew).cell? ⟨b, 0, none⟩ = some v ∧ (((W.setCell ⟨a, 0, none⟩ u).setCell ⟨b, 0, none⟩ v).drew).frozen? ⟨b, 0, none⟩ = false ∧ (((W.setCell ⟨a, 0, none⟩ u).setCell ⟨b, 0, none⟩ v).drew).cell? ⟨g, 0, none⟩ = some y := by
  have hd : ∀ (X : World) (p : Addr), X.drew.cell? p = X.cell? p := fun _ _ => rfl
  have hdf : ∀ (X : World) (p : Addr), X.drew.frozen? p = X.frozen? p := fun _ _ => rfl
  simp only [hd, hdf, World.frozen?_setCell]
  refine ⟨?_, f1, ?_, f2, ?_⟩
  · rw [World.cell?_setCell_far _ _ _ _ (show (⟨b, 0, none⟩ : Addr).block ≠ (⟨a, 0, none⟩ : Addr).block from fun e => hab e.symm)]
    exact World.cell?_setCell_same' _ _ _ hc1
  · refine World.cell?_setCell_same' _ _ _ ?_
    rw [World.cell?_setCell_far _ _ _ _ (show (⟨a, 0, none⟩ : Addr).block ≠ (⟨b, 0, none⟩ : Addr).block from hab)]
    exact hc2
  · rw [World.cell?_setCell_far _ _ _ _ (show (⟨b, 0, none⟩ : Addr).block ≠ (⟨g, 0, none⟩ : Addr).block from fun e => hgb e.symm), World.cell?_setCell_far _ _ _ _ (show (⟨a, 0, none⟩ : Addr).block ≠ (⟨g, 0, none⟩ : Addr).block from fun e => hga e.symm)]
    exact hg

set_option maxRecDepth 100000 in
set_option maxHeartbeats 4000000 in
theorem lastPicture_calls {w : World} {own : Owner} {db fb gb nn : Nat} {r : RDm} (h : LDev w own db fb gb nn r) (hv : Vars w own) (hnn : nn ≤ 1000000) :
    Calls Tryz.prog 44 #[.pointer (some ⟨db, 0, none⟩)] w fun e w' => e = .returned (.tuple #[.int .i64 (lastP r).1, .string (strB (lastP r).2), .bool (decide (0 < (lastP r).1))]) ∧ Below w.heap.size w w' := by
  have H := Lib.hid h
  have HV := Lib.hid hv
  clear h hv
  refine (callsIn_wide (n := 3)).1 ?_
  refine callsIn_of_wp_marks Tryz.func44 rfl trivial ?_ rfl
  simp only [Tryz.ntmps44, List.size_toArray, List.length_cons, List.length_nil, Nat.reduceAdd, Nat.reduceSub, Array.replicate_succ, Array.replicate_zero, List.push_toArray, List.append_toArray, List.nil_append, List.cons_append]
  gi_wp2
  refine ⟨trivial, (callsIn_wide.2 (jnumbers_calls _)).mono ?_⟩
  rintro e w1 ⟨rfl, rfl⟩
  gi_wp2
  simp only [Nat.add_assoc, Nat.reduceAdd]
  obtain ⟨W0, hW0⟩ : ∃ W0, W0 = allocs w [.cells #[.pointer (some ⟨db, 0, none⟩)] 27, .cells #[.int .i64 0] 2, .cells #[.string ⟨#[]⟩] 9, .cells #[.pointer (some ⟨db, 0, none⟩)] 27, .cells #[.string ⟨#[115, 110, 97, 112, 45]⟩] 9] := ⟨_, rfl⟩
  change Code.wpIn _ _ _ _ _ _ (allocs w [.cells #[.pointer (some ⟨db, 0, none⟩)] 27, .cells #[.int .i64 0] 2, .cells #[.string ⟨#[]⟩] 9, .cells #[.pointer (some ⟨db, 0, none⟩)] 27, .cells #[.string ⟨#[115, 110, 97, 112, 45]⟩] 9])
  rw [← hW0]
  have hb0 : Below w.heap.size w W0 := by rw [hW0]; exact allocs_below _ w
  have hsz : W0.heap.size = w.heap.size + 5 := by rw [hW0]; exact allocs_size _ w
  have k0 : W0.heap[w.heap.size]? = some (.cells #[.pointer (some ⟨db, 0, none⟩)] 27 (0, 0)) := by rw [hW0]; exact allocs_at _ w 0 _ rfl
  have k1 : W0.heap[w.heap.size + 1]? = some (.cells #[.int .i64 0] 2 (0, 0)) := by rw [hW0]; exact allocs_at _ w 1 _ rfl
  have k2 : W0.heap[w.heap.size + 2]? = some (.cells #[.string ⟨#[]⟩] 9 (0, 0)) := by rw [hW0]; exact allocs_at _ w 2 _ rfl
  have k3 : W0.heap[w.heap.size + 3]? = some (.cells #[.pointer (some ⟨db, 0, none⟩)] 27 (0, 0)) := by rw [hW0]; exact allocs_at _ w 3 _ rfl
  have k4 : W0.heap[w.heap.size + 4]? = some (.cells #[.string ⟨#[115, 110, 97, 112, 45]⟩] 9 (0, 0)) := by rw [hW0]; exact allocs_at _ w 4 _ rfl
  have hlt2 := HV.out.lt
  refine wpIn_rangeFunc_ownG rfl (by omega) (gf := 97) (lb := #[.pointer (some ⟨w.heap.size + 3, 0, none⟩), .pointer (some ⟨w.heap.size + 4, 0, none⟩)]) rfl trivial (enters_of Tryz.func97 (by kernel_rfl) rfl)
    (numbers_stops (H.out.below hb0) (HV.out.below hb0) hnn (3 - 1) (by omega) (fun b _ => b = w.heap.size + 1 ∨ b = w.heap.size + 2) (s := ⟨#[115, 110, 97, 112, 45]⟩) (by decide) (cell_of_blk k3 rfl) (cell_of_blk k4 rfl) (fun _ _ => by omega) (fun b _ hb => by omega) (fun b _ _ hb => by omega))
    KpT.trans ?hKb (Below.refl _ _) (fun _ => rfl)
    (fun pre W => (W.cell? ⟨w.heap.size + 1, 0, none⟩ = some (.int .i64 (picL r pre).1) ∧ W.frozen? ⟨w.heap.size + 1, 0, none⟩ = false ∧ W.cell? ⟨w.heap.size + 2, 0, none⟩ = some (.string (strB (picL r pre).2)) ∧ W.frozen? ⟨w.heap.size + 2, 0, none⟩ = false ∧ W.cell? ⟨w.heap.size, 0, none⟩ = some (.pointer (some ⟨db, 0, none⟩))) ∧ Below w.heap.size w W)
    (fun _ _ _ => False)
    (OwnFrom.and (Own.from (fun s A B row hs hg hr => ⟨cell_kept hs.1 hg hr, (frozen_kept hs.1 hg hr).trans hs.2.1, cell_kept hs.2.2.1 hg hr, (frozen_kept hs.2.2.1 hg hr).trans hs.2.2.2.1, cell_kept hs.2.2.2.2 hg hr⟩) _) (ownFrom_below (Nat.le_refl _) (by omega)))
    (fun _ _ _ _ _ hs _ _ => hs)
    ⟨⟨cell_of_blk k1 rfl, frozen_of_blk k1, cell_of_blk k2 rfl, frozen_of_blk k2, cell_of_blk k0 rfl⟩, hb0⟩
    (fun x => { tmps := #[.pointer (some ⟨db, 0, none⟩), .pointer (some ⟨w.heap.size, 0, none⟩), .int .i64 0, .string ⟨#[]⟩, .bool false, .pointer (some ⟨w.heap.size + 1, 0, none⟩), .pointer (some ⟨w.heap.size + 2, 0, none⟩), .int .i64 (x.1 : Nat), undef, undef, undef, .pointer (some ⟨db, 0, none⟩), .func (.func 97) #[] #[.pointer (some ⟨w.heap.size + 3, 0, none⟩), .pointer (some ⟨w.heap.size + 4, 0, none⟩)], .int .i64 (x.1 : Nat), undef, undef, undef, undef, undef, undef, undef, undef, undef, undef, undef, undef, undef, undef, undef, undef, undef, undef, undef, undef, undef, undef, undef, undef, undef, undef, undef, undef], defers := [] })
    ?assign ?body ?done ?stop
  case hKb =>
    intro W l o o' hl ho hc _
    refine ⟨by simp, fun b o2 hb hoc hT => ?_⟩
    rw [World.putObj_heap_other (fun e => by subst e; rw [ho] at hb; injection hb with hb; subst hb; rw [hc] at hoc; cases hoc)]
    exact hb
  case assign =>
    intro l x W K hK
    gi_wp2
    exact hK
  case stop =>
    rintro D c pre W _ _ h _
    exact h.elim
  case body =>
    rintro l pre x W ⟨⟨e1, f1, e2, f2, e0⟩, hB⟩ _
    have HB := Lib.hid hB
    have hsn := picL_snoc r pre x
    obtain ⟨p, hp⟩ : ∃ p, picL r pre = p := ⟨_, rfl⟩
    rw [hp] at e1 e2 hsn
    have hs2 : Hid (picL r (pre ++ [x]) = stepPic r p x) := hsn
    have HE : Hid ((W.cell? ⟨w.heap.size + 1, 0, none⟩ = some (.int .i64 p.1) ∧ W.frozen? ⟨w.heap.size + 1, 0, none⟩ = false ∧ W.cell? ⟨w.heap.size + 2, 0, none⟩ = some (.string (strB p.2)) ∧ W.frozen? ⟨w.heap.size + 2, 0, none⟩ = false ∧ W.cell? ⟨w.heap.size, 0, none⟩ = some (.pointer (some ⟨db, 0, none⟩)))) := ⟨e1, f1, e2, f2, e0⟩
    clear hsn hp hB
    by_cases hlt : x.1 < p.1
    · have hz : decide (((x.1 : Nat) : Int) < ((p.1 : Nat) : Int)) = true := by simp; omega
      have hz2 : decide (x.1 < p.1) = true := by simp; omega
      gi_wp2
      exact ⟨KeepsFrom.refl _ _, KpT.refl _ _, by rw [hs2.out, stepPic, if_pos hlt]; exact HE.out, HB.out⟩
    · have hz : decide (((x.1 : Nat) : Int) < ((p.1 : Nat) : Int)) = false := by simp; omega
      have hz2 : decide (x.1 < p.1) = false := by simp; omega
      have hby := (H.out.below HB.out).bytesOf (HV.out.below HB.out) ⟨#[115, 110, 97, 112, 45]⟩ x.1 (by decide) x.2.2
      have HBY := Lib.hid hby
      clear hby
      gi_wp2
      refine ⟨trivial, (CallsIn.inRound l (callsIn_wide.2 HBY.out)).mono ?_⟩
      rintro e W1 ⟨ba, bc, rfl, hrow, hb1⟩
      obtain ⟨bs, hbs⟩ : ∃ bs, bytesR r (numName snapM x.1) = bs := ⟨_, rfl⟩
      have hbl := bytesR_le H.out (numName snapM x.1)
      simp only [show numName (ByteArray.mk #[115, 110, 97, 112, 45]).data.toList x.1 = numName snapM x.1 from rfl] at hrow ⊢
      rw [hbs] at hrow hbl ⊢
      have HBS : Hid (bytesR r (numName snapM x.1) = bs) := hbs
      have HB1 : Hid (Below W.heap.size W W1) := hb1
      have hcc := Lib.hid (cut_calls W1 _ bs (BRow.of_owns hrow) (by omega))
      clear hbs hb1 hrow
      gi_wp2
      refine ⟨trivial, (CallsIn.inRound l (callsIn_wide.2 hcc.out)).mono ?_⟩
      rintro e W2 ⟨v, rfl, hrow2, hb2⟩
      obtain ⟨va, vc, rfl⟩ := row_slice hrow2
      have HR2 := Lib.hid hrow2
      have HB2 : Hid (Below W.heap.size W W2) := HB1.out.trans (hb2.mono HB1.out.size)
      clear hb2 hrow2 hcc
      have HC0 : Hid (W2.cell? ⟨w.heap.size + 1, 0, none⟩ = some (.int .i64 p.1) ∧ W2.frozen? ⟨w.heap.size + 1, 0, none⟩ = false ∧ W2.cell? ⟨w.heap.size + 2, 0, none⟩ = some (.string (strB p.2)) ∧ W2.frozen? ⟨w.heap.size + 2, 0, none⟩ = false ∧ W2.cell? ⟨w.heap.size, 0, none⟩ = some (.pointer (some ⟨db, 0, none⟩))) :=
        have hg := grown_of_below HB2.out
        have hr : ∀ (r : Nat), (none : Option Nat) = some r → ∃ o : Obj, W.heap[r]? = some o ∧ o.isCells = false := fun r e => by cases e
        ⟨cell_kept HE.out.1 hg hr, (frozen_kept HE.out.1 hg hr).trans HE.out.2.1, cell_kept HE.out.2.2.1 hg hr, (frozen_kept HE.out.2.2.1 hg hr).trans HE.out.2.2.2.1, cell_kept HE.out.2.2.2.2 hg hr⟩
      have hstay : Hid (stepPic r p x = p → (KeepsFrom W0.heap.size W W2 ∧ KpT (fun b _ => b = w.heap.size + 1 ∨ b = w.heap.size + 2) W W2 ∧ (W2.cell? ⟨w.heap.size + 1, 0, none⟩ = some (.int .i64 (picL r (pre ++ [x])).1) ∧ W2.frozen? ⟨w.heap.size + 1, 0, none⟩ = false ∧ W2.cell? ⟨w.heap.size + 2, 0, none⟩ = some (.string (strB (picL r (pre ++ [x])).2)) ∧ W2.frozen? ⟨w.heap.size + 2, 0, none⟩ = false ∧ W2.cell? ⟨w.heap.size, 0, none⟩ = some (.pointer (some ⟨db, 0, none⟩))) ∧ Below w.heap.size w W2)) := fun he =>
        ⟨KeepsFrom.of_grownBy (grown_of_below HB2.out) (fun j e => by cases e), KpT.of_below HB2.out, by rw [hs2.out, he]; exact HC0.out, HB.out.trans (HB2.out.mono HB.out.size)⟩
      have hstep : stepPic r p x = match cutB bs with
          | [rec] => if cutN bs = bs.length then (x.1, rec) else p
          | _ => p := by rw [stepPic, if_neg hlt, HBS.out]
      cases hcb : cutB bs with
      | nil =>
        rw [hcb] at hstep
        have HST := Lib.hid (hstay.out hstep)
        clear hstep hcb
        gi_wp2
        exact HST.out
      | cons rec t =>
        cases t with
        | cons b2 t =>
          rw [hcb] at hstep
          have HST := Lib.hid (hstay.out hstep)
          have hl2 : decide ((((rec :: b2 :: t).length : Nat) : Int) = 1) = false := by simp; omega
          clear hstep hcb
          gi_wp2
          exact HST.out
        | nil =>
          rw [hcb] at hstep
          dsimp only at hstep
          by_cases hcn : cutN bs = bs.length
          · rw [if_pos hcn] at hstep
            have hr2 := HR2.out
            rw [hcb] at hr2
            obtain ⟨g, ga, hge, hgc⟩ : ∃ g, W1.heap.size ≤ g ∧ va = some ⟨g, 0, none⟩ ∧ W2.cell? ⟨g, 0, none⟩ = some (.string (strB rec)) := by
              rcases hr2.2 with ⟨_, h0⟩ | ⟨g, cap, cur, he, hgB, _⟩
              · simp at h0
              · injection he with he
                exact ⟨g, hgB, he, hr2.cells (g := g) (by rw [he]; rfl) 0 _ rfl⟩
            subst hge
            obtain ⟨c1, c2, c3, c4, c5⟩ := HC0.out
            have hsz1 : w.heap.size + 3 ≤ g := by
              have := HB1.out.size
              have hx : w.heap.size + 2 < W.heap.size := World.block_lt_of_cell? _ _ HE.out.2.2.1
              omega
            have hn1 : ¬ g = w.heap.size + 1 := by omega
            have hn2 : ¬ g = w.heap.size + 2 := by omega
            have hn3 : ¬ w.heap.size + 1 = g := by omega
            have hn4 : ¬ w.heap.size + 2 = g := by omega
            have hl3 : decide (((cutN bs : Nat) : Int) = ((bs.length : Nat) : Int)) = true := by simp; omega
            have hl4 : decide (cutN bs = bs.length) = true := by simp; omega
            have HSTP := Lib.hid hstep
            have HSZ := Lib.hid hsz1
            have HEND : Hid (KeepsFrom W0.heap.size W ((W2.setCell ⟨w.heap.size + 1, 0, none⟩ (.int .i64 x.1)).setCell ⟨w.heap.size + 2, 0, none⟩ (.string (strB rec))).drew ∧ KpT (fun b _ => b = w.heap.size + 1 ∨ b = w.heap.size + 2) W ((W2.setCell ⟨w.heap.size + 1, 0, none⟩ (.int .i64 x.1)).setCell ⟨w.heap.size + 2, 0, none⟩ (.string (strB rec))).drew ∧ ((((W2.setCell ⟨w.heap.size + 1, 0, none⟩ (.int .i64 x.1)).setCell ⟨w.heap.size + 2, 0, none⟩ (.string (strB rec))).drew).cell? ⟨w.heap.size + 1, 0, none⟩ = some (.int .i64 (picL r (pre ++ [x])).1) ∧ (((W2.setCell ⟨w.heap.size + 1, 0, none⟩ (.int .i64 x.1)).setCell ⟨w.heap.size + 2, 0, none⟩ (.string (strB rec))).drew).frozen? ⟨w.heap.size + 1, 0, none⟩ = false ∧ (((W2.setCell ⟨w.heap.size + 1, 0, none⟩ (.int .i64 x.1)).setCell ⟨w.heap.size + 2, 0, none⟩ (.string (strB rec))).drew).cell? ⟨w.heap.size + 2, 0, none⟩ = some (.string (strB (picL r (pre ++ [x])).2)) ∧ (((W2.setCell ⟨w.heap.size + 1, 0, none⟩ (.int .i64 x.1)).setCell ⟨w.heap.size + 2, 0, none⟩ (.string (strB rec))).drew).frozen? ⟨w.heap.size + 2, 0, none⟩ = false ∧ (((W2.setCell ⟨w.heap.size + 1, 0, none⟩ (.int .i64 x.1)).setCell ⟨w.heap.size + 2, 0, none⟩ (.string (strB rec))).drew).cell? ⟨w.heap.size, 0, none⟩ = some (.pointer (some ⟨db, 0, none⟩))) ∧ Below w.heap.size w ((W2.setCell ⟨w.heap.size + 1, 0, none⟩ (.int .i64 x.1)).setCell ⟨w.heap.size + 2, 0, none⟩ (.string (strB rec))).drew) := by
              refine ⟨(KeepsFrom.of_grownBy (grown_of_below HB2.out) (fun j e => by cases e)).trans (((KeepsOthers.setCell _ _ _).trans ((KeepsOthers.setCell _ _ _).trans (KeepsOthers.drew _))).from _), (((KpT.of_below HB2.out).setCell (fun _ => Or.inl rfl) _).setCell (fun _ => Or.inr rfl) _).drew, ?_, (((HB.out.trans (HB2.out.mono HB.out.size)).setCell (by show w.heap.size ≤ w.heap.size + 1; omega) _).setCell (by show w.heap.size ≤ w.heap.size + 2; omega) _).drew⟩
              rw [hs2.out, hstep]
              exact two_stores (by rw [c1]; rfl) (by rw [c3]; rfl) c2 c4 (by omega) (by omega) (by omega) c5
            clear hstep hcb hr2 hsz1 ga
            gi_wp2
            gi_region
            all_goals exact HEND.out
          · rw [if_neg hcn] at hstep
            have HST := Lib.hid (hstay.out hstep)
            have hl2 : decide (((cutN bs : Nat) : Int) = ((bs.length : Nat) : Int)) = false := by simp; omega
            have hl3 : decide (cutN bs = bs.length) = false := by simp; omega
            clear hstep hcb
            gi_wp2
            exact HST.out
  case done =>
    rintro D ys W hD rfl ⟨⟨e1, f1, e2, f2, e0⟩, hB⟩ hK
    gi_wp2
    gi_quiet (fail)
    gi_wp2
    refine ⟨by simp, .inl ⟨_, _, rfl, run_takeDeferred hK, ?_⟩⟩
    refine ⟨.tuple #[.int .i64 (lastP r).1, .string (strB (lastP r).2), .bool (decide (0 < (lastP r).1))], ?_, rfl, ?_⟩
    · simp [results, go_sem, lastP, snapM]
      exact decide_eq_decide.2 Iff.rfl
    · have hdr : Below w.heap.size w (W.drewN nq) := hB.trans ⟨rfl, rfl, rfl, Nat.le_refl _, fun _ _ => rfl⟩
      exact hdr.trans (belowK_b (w := w) (Nat.le_refl _) (W.drewN nq) D _ _ (by omega) hK rfl rfl)

end Go.Proofs.YtdpbnacabinlgaaGreatDoor
namespace Go.Proofs.YtdpbnacabinlgaaGreatDoor
open Go.RowKit Go.Lib Go.Maps Go.ChangeMaps Go.Sort Go.Shelf
open Go.Proofs (encStr)

attribute [local go_sem] Oper.semAt_some

theorem infoI64 : (Tryz.prog.info? 2).map (fun i => (i.zero, i.size, i.bytes)) = some (some (.int .i64 0), 1, 8) := by kernel_rfl

/-- The numbers behind one, as they came. -/
def behF (at_ : Nat) (xs : List I63) : List Nat := (xs.map fun x => x.1).filter fun n => decide (at_ < n)
theorem behF_hit (at_ : Nat) (xs : List I63) {x : I63} (h : at_ < x.1) : behF at_ (xs ++ [x]) = behF at_ xs ++ [x.1] := by simp [behF, h]
theorem behF_miss (at_ : Nat) (xs : List I63) {x : I63} (h : ¬ at_ < x.1) : behF at_ (xs ++ [x]) = behF at_ xs := by simp [behF, h]
theorem behF_le (at_ : Nat) (xs : List I63) : (behF at_ xs).length ≤ xs.length := Nat.le_trans (List.length_filter_le _ _) (by rw [List.length_map]; exact Nat.le_refl _)
def intsV (ns : List Nat) : List Value := (ns.map fun n : Nat => (n : Int)).map (Value.int .i64)
def behindL (r : RDm) (at_ : Nat) : List Nat := (behF at_ (numsL r logM)).mergeSort fun a b => decide (a ≤ b)

/-- What a round that collects may turn. -/
def TLog (B b : Nat) (o : Obj) : Prop := b = B ∨ (B ≤ b ∧ ∃ cs fr, o = .cells cs 2 fr)
theorem KpT.appended {W w1 : World} {B : Nat} {v v' : Value} {k : Nat} {xs : List Value} {tmp : Obj} (hrow : W.ownsRow B 2 1 v k xs) (hgrow : (W.alloc tmp).grownBy w1 v.ownBlock) :
    KpT (TLog B) W (w1.setCell ⟨B, 0, none⟩ v') := by
  refine ⟨?_, fun b o hb ho hT => ?_⟩
  · have := hgrow.size
    have h2 : (w1.setCell ⟨B, 0, none⟩ v').heap.size = w1.heap.size := by simp [World.setCell]
    rw [h2]
    rw [World.size_alloc] at this
    omega
  · have hbl : b < W.heap.size := (Array.getElem?_eq_some_iff.1 hb).1
    refine (Below.heap_setCell _ _ _ _ (fun e => hT (.inl e))).trans ?_
    refine (hgrow.block b (by rw [World.size_alloc]; omega) (fun e => ?_)).trans ((Below.heap_alloc W tmp b hbl).trans hb)
    rcases hrow.2 with ⟨rfl, _⟩ | ⟨g, cap, cur, rfl, hg, hgb, _⟩
    · simp [Value.ownBlock] at e
    · obtain rfl : b = g := by simpa [Value.ownBlock] using e
      rw [hb] at hgb
      injection hgb with hgb
      exact hT (.inr ⟨hg, _, _, hgb⟩)

theorem sorted_ints (ns : List Nat) : (ns.map fun n : Nat => (n : Int)).mergeSort (fun x y => decide (x ≤ y)) = (ns.mergeSort fun a b => decide (a ≤ b)).map fun n : Nat => (n : Int) := by
  rw [List.map_mergeSort]
  intro a _ b _
  simp

theorem sort_ints {W : World} {B : Nat} {v : Value} {ns : List Nat} (hrow : W.ownsRow B 2 1 v ns.length (intsV ns)) (hl : ns.length ≤ 1000000) :
    Calls Tryz.prog 75 #[v] W fun e W' => e = .returned (.tuple #[]) ∧ W'.ownsRow B 2 1 v ns.length (intsV (ns.mergeSort fun a b => decide (a ≤ b))) ∧ W.grownBy W' v.ownBlock := by
  have hzl : (ns.map fun n : Nat => (n : Int)).length = ns.length := List.length_map _
  rcases hrow.2 with ⟨rfl, h0⟩ | ⟨g, cap, cur, rfl, hg, hgb, h1, h2, h3, h4⟩
  · have hn : ns = [] := List.eq_nil_of_length_eq_zero (by omega)
    subst hn
    refine (Tryz.slices_Sort_int_none none 0 W).mono ?_
    rintro e W' ⟨rfl, rfl⟩
    exact ⟨rfl, by rw [List.mergeSort_nil]; exact hrow, ⟨rfl, rfl, rfl, Nat.le_refl _, fun _ _ _ => rfl⟩⟩
  · rw [← hzl] at h1 h4 ⊢
    rw [Nat.mul_one] at h4
    have hH := holds_of_blockI (ss := ns.map fun n : Nat => (n : Int)) hgb h4
    refine (Tryz.slices_Sort_int g 0 cap _ W hH (Array.getElem?_eq_some_iff.1 hgb).1 (by rw [hzl]; omega)).mono ?_
    rintro e W' ⟨rfl, n, os, rfl⟩
    refine ⟨rfl, ?_, grownBy_sortedI _⟩
    have := ownsRow_sortedI (n := n) (os := os) (ss := ns.map fun n : Nat => (n : Int)) (ts := (ns.map fun n : Nat => (n : Int)).mergeSort fun x y => decide (x ≤ y)) (List.length_mergeSort _) hg hgb h1 h2 h3
    rw [show intsV (ns.mergeSort fun a b => decide (a ≤ b)) = ((ns.map fun n : Nat => (n : Int)).mergeSort fun x y => decide (x ≤ y)).map (Value.int .i64) by rw [sorted_ints]; rfl]
    exact this

theorem IRow.of_owns {W : World} {B k : Nat} {a : Option Addr} {c : Nat} {ns : List Nat} (hrow : W.ownsRow B 2 1 (.slice a k c) ns.length (intsV ns)) : IRow W a ns := by
  intro j n hj
  have hjl := (List.getElem?_eq_some_iff.1 hj).1
  rcases hrow.2 with ⟨_, h0⟩ | ⟨g, cap, cur, he, _⟩
  · omega
  · injection he with he
    exact ⟨⟨g, 0, none⟩, he, hrow.cells (g := g) (by rw [he]; rfl) j _ (by simp [intsV, hj])⟩

set_option maxRecDepth 100000 in
set_option maxHeartbeats 4000000 in
theorem logsBehind_calls {w : World} {own : Owner} {db fb gb nn : Nat} {r : RDm} (h : LDev w own db fb gb nn r) (hv : Vars w own) (hnn : nn ≤ 1000000) (at_ : Nat) :
    Calls Tryz.prog 45 #[.pointer (some ⟨db, 0, none⟩), .int .i64 at_] w fun e w' => ∃ a c, e = .returned (.slice a (behindL r at_).length c) ∧ IRow w' a (behindL r at_) ∧ (∀ A, a = some A → w.heap.size ≤ A.block) ∧ Below w.heap.size w w' := by
  have H := Lib.hid h
  have HV := Lib.hid hv
  have HNL := Lib.hid h.len_le
  clear h hv
  obtain ⟨i0, hi, hi0, hi1, hi2⟩ := info_parts infoI64
  refine (callsIn_wide (n := 3)).1 ?_
  refine callsIn_of_wp_marks Tryz.func45 rfl trivial ?_ rfl
  simp only [Tryz.ntmps45, List.size_toArray, List.length_cons, List.length_nil, Nat.reduceAdd, Nat.reduceSub, Array.replicate_succ, Array.replicate_zero, List.push_toArray, List.append_toArray, List.nil_append, List.cons_append]
  gi_wp2
  refine ⟨trivial, (callsIn_wide.2 (jnumbers_calls _)).mono ?_⟩
  rintro e w1 ⟨rfl, rfl⟩
  gi_wp2
  simp only [Nat.add_assoc, Nat.reduceAdd]
  obtain ⟨W0, hW0⟩ : ∃ W0, W0 = allocs w [.cells #[.int .i64 at_] 2, .cells #[.slice none 0 0] 90, .cells #[.pointer (some ⟨db, 0, none⟩)] 27, .cells #[.string ⟨#[108, 111, 103, 45]⟩] 9] := ⟨_, rfl⟩
  change Code.wpIn _ _ _ _ _ _ (allocs w [.cells #[.int .i64 at_] 2, .cells #[.slice none 0 0] 90, .cells #[.pointer (some ⟨db, 0, none⟩)] 27, .cells #[.string ⟨#[108, 111, 103, 45]⟩] 9])
  rw [← hW0]
  have hb0 : Below w.heap.size w W0 := by rw [hW0]; exact allocs_below _ w
  have hsz : W0.heap.size = w.heap.size + 4 := by rw [hW0]; exact allocs_size _ w
  have k0 : W0.heap[w.heap.size]? = some (.cells #[.int .i64 at_] 2 (0, 0)) := by rw [hW0]; exact allocs_at _ w 0 _ rfl
  have k1 : W0.heap[w.heap.size + 1]? = some (.cells #[.slice none 0 0] 90 (0, 0)) := by rw [hW0]; exact allocs_at _ w 1 _ rfl
  have k2 : W0.heap[w.heap.size + 2]? = some (.cells #[.pointer (some ⟨db, 0, none⟩)] 27 (0, 0)) := by rw [hW0]; exact allocs_at _ w 2 _ rfl
  have k3 : W0.heap[w.heap.size + 3]? = some (.cells #[.string ⟨#[108, 111, 103, 45]⟩] 9 (0, 0)) := by rw [hW0]; exact allocs_at _ w 3 _ rfl
  have hlt2 := HV.out.lt
  refine wpIn_rangeFunc_ownG rfl (by omega) (gf := 97) (lb := #[.pointer (some ⟨w.heap.size + 2, 0, none⟩), .pointer (some ⟨w.heap.size + 3, 0, none⟩)]) rfl trivial (enters_of Tryz.func97 (by kernel_rfl) rfl)
    (numbers_stops (H.out.below hb0) (HV.out.below hb0) hnn (3 - 1) (by omega) (TLog (w.heap.size + 1)) (s := ⟨#[108, 111, 103, 45]⟩) (by decide) (cell_of_blk k2 rfl) (cell_of_blk k3 rfl)
      (fun o ho e => by
        rw [k3] at ho
        injection ho with ho
        subst ho
        rcases e with e | ⟨_, cs, fr, e⟩
        · omega
        · cases e)
      (fun b o hb e => by rcases e with e | ⟨e, _⟩ <;> omega)
      (fun b cs fr hb e => by
        rcases e with e | ⟨_, cs, fr, e⟩
        · omega
        · cases e))
    KpT.trans ?hKb (Below.refl _ _) (fun _ => rfl)
    (fun pre W => (W.cell? ⟨w.heap.size, 0, none⟩ = some (.int .i64 at_) ∧ (∃ v, Go.Boxed W (w.heap.size + 1) 90 v ∧ W.ownsRow (w.heap.size + 1) 2 1 v (behF at_ pre).length (intsV (behF at_ pre)) ∧ True)) ∧ Below w.heap.size w W)
    (fun _ _ _ => False)
    (OwnFrom.and (OwnFrom.and (Own.from (fun s A B row hs hg hr => cell_kept hs hg hr) _) (Own.from (holdsRow_own (w.heap.size + 1) (w.heap.size + 1) 90 2 1 (fun pre => (behF at_ pre).length) (fun pre => intsV (behF at_ pre)) (fun _ _ => True)) _)) (ownFrom_below (Nat.le_refl _) (by omega)))
    (fun _ _ _ _ _ hs _ _ => hs)
    ⟨⟨cell_of_blk k0 rfl, _, k1, World.ownsRow_nil _ _ _ _, trivial⟩, hb0⟩
    (fun x => { tmps := #[.pointer (some ⟨db, 0, none⟩), .int .i64 at_, undef, .pointer (some ⟨w.heap.size, 0, none⟩), .slice none 0 0, .pointer (some ⟨w.heap.size + 1, 0, none⟩), .int .i64 (x.1 : Nat), .pointer (some ⟨db, 0, none⟩), .func (.func 97) #[] #[.pointer (some ⟨w.heap.size + 2, 0, none⟩), .pointer (some ⟨w.heap.size + 3, 0, none⟩)], .int .i64 (x.1 : Nat), undef, undef, undef, undef, undef, undef, undef, undef, undef, undef], defers := [] })
    ?assign ?body ?done ?stop
  case hKb =>
    intro W l o o' hl ho hc _
    refine ⟨by simp, fun b o2 hb hoc hT => ?_⟩
    rw [World.putObj_heap_other (fun e => by subst e; rw [ho] at hb; injection hb with hb; subst hb; rw [hc] at hoc; cases hoc)]
    exact hb
  case assign =>
    intro l x W K hK
    gi_wp2
    exact hK
  case stop =>
    rintro D c pre W _ _ h _
    exact h.elim
  case body =>
    rintro l pre x W ⟨⟨e0, v, hv, hrow, _⟩, hB⟩ hlt
    have hc := hv.cell
    have hlt : pre.length < (numsL r [108, 111, 103, 45]).length := hlt
    have hpl : (behF at_ pre).length ≤ 1000000 := by
      have h1 := behF_le at_ pre
      have h2 : (numsL r [108, 111, 103, 45]).length ≤ r.L.length := by
        unfold numsL
        refine Nat.le_trans (List.length_filterMap_le _ _) ?_
        rw [List.length_map]
        exact Nat.le_refl _
      have h3 := HNL.out
      omega
    by_cases hlx : at_ < x.1
    · have hz : decide (((at_ : Nat) : Int) < ((x.1 : Nat) : Int)) = true := by simp; omega
      have hz2 : decide (at_ < x.1) = true := by simp; omega
      have HPL := Lib.hid hpl
      have HBW := Lib.hid hv
      have HO1 := Lib.hid (hrow.alloc (.cells #[.int .i64 (x.1 : Nat)] 2))
      have HROW := Lib.hid hrow
      have hlt1 : Hid (w.heap.size + 1 < W.heap.size) := hv.lt
      clear hv hrow hpl hlt
      gi_wp2_with (gi_at_builtin; refine wpListIn_append_own _ rfl _ _ 90 rfl (w.heap.size + 1) 2 i0 (.int .i64 0) 1 8 Tryz.underlying90 hi hi0 hi1 hi2 rfl (by decide) _ _ _ rfl HO1.out ⟨W.heap.size, 0, none⟩ 1 1 [.int .i64 (x.1 : Nat)] rfl rfl (cell_one_new _ _ _) (by simp [Value.oneCell']) (by have := HPL.out; unfold maxLen; omega) (by have := HPL.out; omega) (by have := hlt1.out; simp; omega) ?_; intro v' w1 hown' hgrow _; obtain ⟨g', cap', rfl⟩ := ownsRow_succ hown'; obtain ⟨hv1, hv2, hr2, hk2, hb2⟩ := HBW.out.appended (by decide) HROW.out (by have := hlt1.out; omega) (Nat.le_refl _) hown' hgrow; have hc1 := hv1.cell; have hf1 := hv1.frozen)
      refine ⟨hk2.from _, KpT.appended HROW.out hgrow, ⟨(hb2.cell (p := ⟨w.heap.size, 0, none⟩) (by show w.heap.size < w.heap.size + 1; omega)).trans e0, _, hv2, ?_⟩, hB.trans (hb2.mono (by omega))⟩
      rw [behF_hit at_ pre hlx]
      simpa [intsV] using hr2
    · have hz : decide (((at_ : Nat) : Int) < ((x.1 : Nat) : Int)) = false := by simp; omega
      have hz2 : decide (at_ < x.1) = false := by simp; omega
      gi_wp2
      exact ⟨KeepsFrom.refl _ _, KpT.refl _ _, ⟨e0, v, hv, by rw [behF_miss at_ pre hlx]; exact hrow⟩, hB⟩
  case done =>
    rintro D ys W hD rfl ⟨⟨e0, v, hv, hrow, _⟩, hB⟩ hK
    obtain ⟨ns, hns⟩ : ∃ ns, behF at_ (numsL r logM) = ns := ⟨_, rfl⟩
    have hnl : ns.length ≤ 1000000 := by
      have h1 := behF_le at_ (numsL r logM)
      have h2 : (numsL r logM).length ≤ r.L.length := by
        unfold numsL
        refine Nat.le_trans (List.length_filterMap_le _ _) ?_
        rw [List.length_map]
        exact Nat.le_refl _
      have h3 := HNL.out
      rw [hns] at h1
      omega
    have hbe : behindL r at_ = ns.mergeSort fun a b => decide (a ≤ b) := by unfold behindL; rw [hns]
    change W.ownsRow _ _ _ _ (behF at_ (numsL r logM)).length (intsV (behF at_ (numsL r logM))) at hrow
    rw [hns] at hrow
    have HS := Lib.hid (sort_ints hrow hnl)
    have HBE := Lib.hid hbe
    have hc := hv.cell
    have HBX := Lib.hid hv
    have HROW := Lib.hid hrow
    have HK := Lib.hid hK
    obtain ⟨va, vc, hva⟩ := row_slice hrow
    subst hva
    clear hns hbe hv hrow hK
    gi_wp2
    refine ⟨trivial, (callsIn_wide.2 HS.out).mono ?_⟩
    rintro e W1 ⟨rfl, hrow1, hg1⟩
    have hv1 := HBX.out.kept hg1 (HBX.out.not_row (by decide) HROW.out)
    have hK1 : W1.heap[D]? = some (.deferred (some [])) := (hg1.block D (Array.getElem?_eq_some_iff.1 HK.out).1 (fun e => by
      rcases HROW.out.2 with ⟨h0, _⟩ | ⟨g, cap, cur, h0, _, hgb, _⟩
      · rw [h0] at e; simp [Value.ownBlock] at e
      · rw [h0] at e
        obtain rfl : D = g := by simpa [Value.ownBlock] using e
        rw [HK.out] at hgb
        cases hgb)).trans HK.out
    have hb1 : Below w.heap.size w W1 := hB.grown hg1 hB.size (fun k hk => by
      rcases HROW.out.2 with ⟨h0, _⟩ | ⟨g, cap, cur, h0, hgB, _⟩
      · rw [h0] at hk; simp [Value.ownBlock] at hk
      · rw [h0] at hk
        obtain rfl : g = k := by simpa [Value.ownBlock] using hk
        omega)
    have hc1 := hv1.cell
    have HR1 := Lib.hid hrow1
    have HB1 := Lib.hid hb1
    have HK1 := Lib.hid hK1
    clear hrow1 hb1 hK1 hv1 hg1
    gi_wp2
    refine ⟨by simp, .inl ⟨_, _, rfl, run_takeDeferred HK1.out, ?_⟩⟩
    have hr3 := ownsRow_putObj HR1.out (.deferred none) HK1.out rfl
    refine ⟨_, results_tmp rfl _ _ _, va, vc, ?_, ?_, ?_, ?_⟩
    · rw [HBE.out, List.length_mergeSort]
      rfl
    · rw [HBE.out]
      refine IRow.of_owns (k := ns.length) (c := vc) (B := w.heap.size + 1) ?_
      rw [List.length_mergeSort]
      exact hr3
    · intro A e
      rcases hr3.2 with ⟨h0, _⟩ | ⟨g, cap, cur, h0, hgB, _⟩
      · injection h0 with h0
        rw [e] at h0
        cases h0
      · injection h0 with h0
        rw [e] at h0
        injection h0 with h0
        rw [h0]
        show _ ≤ g
        omega
    · exact HB1.out.trans (belowK_b (w := w) (Nat.le_refl _) W1 D _ _ (by omega) HK1.out rfl rfl)

end Go.Proofs.YtdpbnacabinlgaaGreatDoor
namespace Go.Proofs.YtdpbnacabinlgaaGreatDoor
open Go.RowKit Go.Lib Go.Maps Go.ChangeMaps Go.Sort Go.Shelf

theorem behindL_mem {r : RDm} {at_ n : Nat} : n ∈ behindL r at_ ↔ at_ < n ∧ ∃ x ∈ numsL r logM, x.1 = n := by
  unfold behindL behF
  rw [List.mem_mergeSort, List.mem_filter, List.mem_map]
  simp [and_comm]

theorem behindL_le {r : RDm} {at_ n : Nat} (h : n ∈ behindL r at_) : 1 ≤ n ∧ n ≤ 9223372036854775807 := by
  obtain ⟨_, x, _, rfl⟩ := behindL_mem.1 h
  exact x.2

theorem numsL_len (r : RDm) (mark : List UInt8) : (numsL r mark).length ≤ r.L.length := by
  unfold numsL
  refine Nat.le_trans (List.length_filterMap_le _ _) ?_
  rw [List.length_map]
  exact Nat.le_refl _

theorem behindL_len (r : RDm) (at_ : Nat) : (behindL r at_).length ≤ r.L.length := by
  unfold behindL
  rw [List.length_mergeSort]
  exact Nat.le_trans (behF_le _ _) (numsL_len _ _)

theorem behindL_sorted (r : RDm) (at_ : Nat) : (behindL r at_).Pairwise (· ≤ ·) := by
  have := List.pairwise_mergeSort (le := fun a b : Nat => decide (a ≤ b)) (fun a b c h1 h2 => by simp at *; omega) (fun a b => by simp; omega) (behF at_ (numsL r logM))
  exact this.imp (by simp)

theorem stepPic_le (r : RDm) (p : Nat × List UInt8) (x : I63) (h : p.1 ≤ 9223372036854775807) : (stepPic r p x).1 ≤ 9223372036854775807 := by
  unfold stepPic
  split
  · exact h
  · split
    · split
      · exact x.2.2
      · exact h
    · exact h

theorem picL_le (r : RDm) (xs : List I63) : (picL r xs).1 ≤ 9223372036854775807 := by
  have : ∀ (xs : List I63) (p : Nat × List UInt8), p.1 ≤ 9223372036854775807 → (xs.foldl (stepPic r) p).1 ≤ 9223372036854775807 := by
    intro xs
    induction xs with
    | nil => intro p h; exact h
    | cons x xs ih => intro p h; exact ih _ (stepPic_le r p x h)
  exact this xs _ (Nat.zero_le _)

theorem lastP_le (r : RDm) : (lastP r).1 ≤ 9223372036854775807 := picL_le r _

end Go.Proofs.YtdpbnacabinlgaaGreatDoor
namespace Go.Proofs.YtdpbnacabinlgaaGreatDoor
open Go.RowKit Go.Lib Go.Maps Go.ChangeMaps Go.Sort Go.Shelf

set_option maxRecDepth 100000 in
set_option maxHeartbeats 1000000 in
theorem open_down {w : World} {own : Owner} {db fb gb nn : Nat} {r : RDm} (h : LDev w own db fb gb nn r) (hoff : r.off = true) :
    Calls Tryz.prog 15 #[.pointer (some ⟨db, 0, none⟩)] w fun e w' => e = .returned (.tuple #[.pointer none, .string ⟨#[]⟩, .bool false, .slice none 0 0, .int .i64 13]) ∧ w' = w := by
  have hd := h.down
  rw [hoff] at hd
  have HD := Lib.hid hd
  clear hd
  clear h
  go_enter Tryz.func15, Tryz.ntmps15
  go_wp2_with (go_at_call 43; refine HD.out.mono ?_; rintro e w1 ⟨rfl, rfl⟩)
  refine bodyPost_ret (v := .tuple #[.pointer none, .string ⟨#[]⟩, .bool false, .slice none 0 0, .int .i64 13]) (by simp [results, go_sem]) rfl ?_
  exact ⟨rfl, rfl⟩

end Go.Proofs.YtdpbnacabinlgaaGreatDoor
namespace Go.Proofs.YtdpbnacabinlgaaGreatDoor
open Go.RowKit Go.Lib Go.Maps Go.ChangeMaps Go.Sort Go.Shelf

def LQ (db fb gb n : Nat) (r r1 : RDm) (k : Nat) (w : World) (own : Owner) (y : RDm) : Prop := LDev w own db fb gb n y ∧ (k = 0 → y = r) ∧ (k = 1 → y = r1)

theorem leave_sync {w : World} {own : Owner} {db fb gb n : Nat} {r : RDm} {st : List (List UInt8)} (h : LDev w own db fb gb n r) (hn : n ≤ 1000000) (ha : r.acts ≤ 900000000000) (ha2 : (leaveR r st).1.acts ≤ 1000000000000) (hq : r.L.length ≤ 100000)
    {x0 x1 sc g : Nat} {sa : Option Addr} (y0 : w.cell? ⟨x0, 0, none⟩ = some (.pointer (some ⟨db, 0, none⟩))) (y1 : w.cell? ⟨x1, 0, none⟩ = some (.slice sa st.length sc)) (o0 : own x0 = none) (o1 : own x1 = none) (og : own g = none)
    (hst : NameRow w own sa st) (hsl : st.length ≤ 1000000)
    (c0 : w.cell? ⟨g, 0, none⟩ = some (.func (.func 76) #[] #[.pointer (some ⟨x0, 0, none⟩), .pointer (some ⟨x1, 0, none⟩)])) (c1 : w.cell? ⟨g, 1, none⟩ = some (.func (.func 49) #[.pointer (some ⟨db, 0, none⟩)] #[])) :
    Calls Tryz.prog 46 #[.slice (some ⟨g, 0, none⟩) 2 2] w (LPost w own db fb gb n (seqS [fun r => leaveR r st, syncR] r)) := by
  have hx0 := World.block_lt_of_cell? _ _ y0
  refine (inRow_seq (LQ db fb gb n r (leaveR r st).1) Step Step.refl Step.trans w own r ⟨g, 0, none⟩ 2 2 [⟨76, #[], #[.pointer (some ⟨x0, 0, none⟩), .pointer (some ⟨x1, 0, none⟩)]⟩, ⟨49, #[.pointer (some ⟨db, 0, none⟩)], #[]⟩] [fun r => leaveR r st, syncR] rfl rfl (by decide) ⟨h, (fun _ => rfl), (fun e => by cases e)⟩
    (fun W o hQ j p hp => ?_) (fun p hp => ?_) (fun k W o y hk hp => ⟨hp.1, (fun e => by cases e), (fun e => by cases e)⟩) ?_).mono ?_
  · match j, hp with
    | 0, hp => injection hp with hp; subst hp; exact hQ.fr.cell (p := ⟨g, 0, none⟩) c0 (by show ¬ own g ≠ none; rw [og]; simp)
    | 1, hp => injection hp with hp; subst hp; exact hQ.fr.cell (p := ⟨g, 1, none⟩) c1 (by show ¬ own g ≠ none; rw [og]; simp)
    | j + 2, hp => simp at hp
  · simp only [List.mem_cons, List.not_mem_nil, or_false] at hp
    rcases hp with rfl | rfl
    · exact enters_of Tryz.func76 (by kernel_rfl) rfl
    · exact enters_of Tryz.func49 (by kernel_rfl) rfl
  · intro k p f W o y hp hf hQ hP
    match k, hp, hf, hP with
    | 0, hp, hf, hP =>
      injection hp with hp
      injection hf with hf
      subst hp
      subst hf
      obtain ⟨hd, e0, _⟩ := hP
      have e1 := e0 rfl
      subst e1
      refine (hd.leave1 hn ha hq (hQ.fr.cell y0 (by simp [o0])) (hQ.fr.cell y1 (by simp [o1])) (hQ.own x0 hx0 o0) (hst.step hQ) hsl).mono ?_
      rintro e w' ⟨rfl, o', h1, h2⟩
      exact ⟨rfl, o', ⟨h1, (fun e => by cases e), fun _ => rfl⟩, h2⟩
    | 1, hp, hf, hP =>
      injection hp with hp
      injection hf with hf
      subst hp
      subst hf
      obtain ⟨hd, _, e0⟩ := hP
      have e1 := e0 rfl
      subst e1
      refine (hd.sync ha2).mono ?_
      rintro e w' ⟨rfl, o', h1, h2⟩
      exact ⟨rfl, o', ⟨h1, (fun e => by cases e), fun e => by cases e⟩, h2⟩
    | k + 2, hp, _, _ => simp at hp
  · rintro e w' ⟨rfl, o', ⟨h1, _⟩, h2⟩
    exact ⟨rfl, o', h1, h2⟩

end Go.Proofs.YtdpbnacabinlgaaGreatDoor
namespace Go.Proofs.YtdpbnacabinlgaaGreatDoor
open Go.RowKit Go.Lib Go.Maps Go.ChangeMaps Go.Sort Go.Shelf

/-- The file of a name. -/
def look (r : RDm) (k : List UInt8) : Option FileM := (r.L.find? (fun f => f.nm == k)).map toF

/-- What is always so of a device's files. -/
structure ROk (r : RDm) : Prop where
  rising : Rising r.L
  names : NamesOk r
  sync : ∀ k x, look r k = some x → x.synced ≤ x.data.length

theorem find_nm {fs : List RF} {k : List UInt8} (h : (fs.find? (fun f => f.nm == k)).isSome = true) : ∃ f ∈ fs, f.nm = k ∧ fs.find? (fun f => f.nm == k) = some f := by
  cases hf : fs.find? (fun f => f.nm == k) with
  | none => rw [hf] at h; cases h
  | some f => exact ⟨f, (find_name hf).2, (find_name hf).1, rfl⟩

section
variable {r : RDm} {k : List UInt8}

theorem look_mem : (look r k).isSome = true ↔ k ∈ r.L.map RF.nm := by
  unfold look
  rw [Option.isSome_map]
  constructor
  · intro h
    obtain ⟨f, hf, hk, _⟩ := find_nm h
    exact List.mem_map.2 ⟨f, hf, hk⟩
  · intro h
    obtain ⟨f, hf, hk⟩ := List.mem_map.1 h
    rw [List.find?_isSome]
    exact ⟨f, hf, by simp [hk]⟩

theorem look_ok (h : NamesOk r) {x : FileM} (hx : look r k = some x) : nameOk k = true := by
  have h1 : k ∈ r.L.map RF.nm := look_mem.1 (by rw [hx]; rfl)
  obtain ⟨f, hf, rfl⟩ := List.mem_map.1 h1
  exact h.1 f hf

theorem bytes_look (h : NamesOk r) (ho : r.off = false) : bytesR r k = ((look r k).map (·.data)).getD [] := by
  unfold bytesR readR
  rw [ho]
  cases hl : r.L.find? (fun f => f.nm == k) with
  | none =>
    have : look r k = none := by unfold look; rw [hl]; rfl
    rw [this]
    cases nameOk k <;> rfl
  | some f =>
    have h1 : look r k = some (toF f) := by unfold look; rw [hl]; rfl
    rw [h1, look_ok h h1]
    rfl

theorem look_power : look (powerR r) k = look r k := rfl
theorem look_did : look (didR r) k = look r k := rfl

/-- What Append does to a file. -/
def grown (o : Option FileM) (bs : List UInt8) : FileM := ⟨(o.getD ⟨[], 0, true⟩).data ++ bs, (o.getD ⟨[], 0, true⟩).synced, (o.getD ⟨[], 0, true⟩).fresh⟩

theorem look_put {L : List RF} {x : RF} {z : RDm} (hz : z.L = putL L x) : look z k = if k = x.nm then some (toF x) else (L.find? (fun f => f.nm == k)).map toF := by
  unfold look
  rw [hz]
  by_cases e : k = x.nm
  · subst e
    rw [if_pos rfl, find_putL_same]
    rfl
  · rw [if_neg e, find_putL_other e]

/-- What Append answers of a right name, and the files then. -/
theorem look_app {s : ByteArray} {bs : List UInt8} (h0 : (appP r s bs).2 = 0) : look (appP r s bs).1 k = if k = s.data.toList then some (grown (look r k) bs) else look r k := by
  unfold appP appendR at h0 ⊢
  split at h0
  · cases h0
  rename_i h1
  rw [if_neg h1]
  split at h0
  · cases h0
  rename_i h2
  rw [if_neg h2]
  split at h0
  · cases h0
  rename_i h3
  rw [if_neg h3]
  split at h0
  · cases h0
  rename_i h4
  rw [if_neg h4]
  have hnm : ({ fileR r s with data := (fileR r s).data ++ bs } : RF).nm = s.data.toList := by
    show (fileR r s).nm = _
    unfold fileR
    cases hq : r.L.find? (fun f => f.nm == s.data.toList) with
    | none => rfl
    | some g => exact (find_name hq).1
  rw [look_put (L := r.L) (x := { fileR r s with data := (fileR r s).data ++ bs }) rfl, hnm]
  by_cases e : k = s.data.toList
  · subst e
    rw [if_pos rfl, if_pos rfl]
    unfold grown look fileR
    cases hq : r.L.find? (fun f => f.nm == s.data.toList) with
    | none => rfl
    | some g => rfl
  · rw [if_neg e, if_neg e]
    rfl
theorem look_app_no {s : ByteArray} {bs : List UInt8} (h0 : (appP r s bs).2 ≠ 0) : (appP r s bs).1 = powerR r := by
  unfold appP appendR at h0 ⊢
  repeat' split at h0
  all_goals first
    | (exfalso; exact h0 rfl)
    | skip
  · rw [if_pos (by assumption)]
  · rw [if_neg (by assumption), if_pos (by assumption)]
  · rw [if_neg (by assumption), if_neg (by assumption), if_pos (by assumption)]
  · rw [if_neg (by assumption), if_neg (by assumption), if_neg (by assumption), if_pos (by assumption)]

theorem find_without {fs : List RF} {nm : List UInt8} : (withoutL fs nm).find? (fun f => f.nm == k) = if k = nm then none else fs.find? (fun f => f.nm == k) := by
  by_cases e : k = nm
  · subst e
    rw [if_pos rfl, find_withoutL_same]
  · rw [if_neg e, find_withoutL_other e]

theorem look_sync (ho : isOff r = false) : look (syncR r).1 k = (look r k).map settleF := by
  unfold syncR
  rw [ho]
  show ((r.L.map syncF).find? (fun f => f.nm == k)).map toF = ((r.L.find? (fun f => f.nm == k)).map toF).map settleF
  rw [List.find?_map]
  have : ((fun f : RF => f.nm == k) ∘ syncF) = fun f : RF => f.nm == k := rfl
  rw [this]
  cases r.L.find? (fun f => f.nm == k) <;> rfl

theorem remove_ok (ho : isOff r = false) (hn : NamesOk r) (hk : (look r k).isSome = true) : (removeR r k).2 = 0 ∧ (∀ q, look (removeR r k).1 q = if q = k then none else look r q) ∧
    (removeR r k).1.room = r.room ∧ (∀ q, ((removeR r k).1.Gone.find? (fun f => f.nm == q)) = (r.Gone.find? (fun f => f.nm == q)).or (if q = k then (r.L.find? (fun f => f.nm == q)).bind (fun f => if f.there then some f else none) else none)) := by
  have h1 : nameOk k = true := by
    cases hx : look r k with
    | none => rw [hx] at hk; cases hk
    | some x => exact look_ok hn hx
  unfold removeR
  rw [ho, h1]
  cases hl : r.L.find? (fun f => f.nm == k) with
  | none =>
    unfold look at hk
    rw [hl] at hk
    cases hk
  | some f =>
    have hfn := (find_name hl).1
    refine ⟨rfl, fun q => ?_, rfl, fun q => ?_⟩
    · show ((withoutL r.L k).find? (fun f => f.nm == q)).map toF = _
      rw [find_without]
      split <;> rfl
    · show ((if f.there then r.Gone ++ [f] else r.Gone).find? (fun f => f.nm == q)) = _
      by_cases e : q = k
      · subst e
        rw [if_pos rfl, hl]
        cases ht : f.there with
        | true =>
          rw [if_pos rfl, List.find?_append]
          simp [hfn, ht]
        | false => simp [ht]
      · rw [if_neg e]
        have : (f.nm == q) = false := by rw [hfn]; exact beq_eq_false_iff_ne.2 (fun x => e x.symm)
        cases ht : f.there with
        | true =>
          rw [if_pos rfl, List.find?_append]
          simp [this]
        | false => simp

/-- Behind a crash. -/
theorem look_crash {ks : List (ByteArray × Int)} {L' : List RF} (hc : Crashed ks r L') : look (crashR r L') k = match r.Gone.find? (fun f => f.nm == k) with | some g => some (backF g) | none => (look r k).bind fun x => (crashF ks k x).map settleF := by
  show (L'.find? (fun f => f.nm == k)).map toF = _
  rw [hc.files k]
  cases hg : r.Gone.find? (fun f => f.nm == k) with
  | some g => rfl
  | none =>
    unfold look
    cases hl : r.L.find? (fun f => f.nm == k) with
    | none => rfl
    | some f =>
      show keepF ks f = (crashF ks k (toF f)).map settleF
      unfold keepF
      rw [(find_name hl).1]

theorem settle_crash {ks : List (ByteArray × Int)} {x : FileM} (h1 : x.synced = x.data.length) (h2 : x.fresh = false) : (crashF ks k x).map settleF = some x := by
  have h3 := cutK_le ks k x (by omega)
  unfold crashF
  rw [if_neg (by rw [h2]; simp)]
  show some (settleF ⟨x.data.take (cutK ks k x), x.synced, x.fresh⟩) = _
  unfold settleF
  rw [List.take_of_length_le (by omega)]
  cases x
  simp_all
end

/-- All is synced. -/
def Settled (r : RDm) : Prop := ∀ k x, look r k = some x → x.synced = x.data.length ∧ x.fresh = false

section
variable {r : RDm}
theorem ROk.power (h : ROk r) : ROk (powerR r) := ⟨h.rising, h.names, h.sync⟩
theorem ROk.fuse (h : ROk r) (x : Int) : ROk (fuseR r x) := ⟨h.rising, h.names, h.sync⟩
theorem ROk.new (room : Int) : ROk (newR room) := ⟨List.Pairwise.nil, ⟨(fun f hf => by cases hf), (fun f hf => by cases hf)⟩, (fun k x h => by cases h)⟩
theorem ROk.synced (h : ROk r) : ROk (syncR r).1 := by
  cases ho : isOff r with
  | true => unfold syncR; rw [ho]; exact h.power
  | false =>
    refine ⟨?_, h.names.sync, fun k x hx => ?_⟩
    · unfold syncR; rw [ho]; exact h.rising.sync
    · rw [look_sync ho] at hx
      cases hl : look r k with
      | none => rw [hl] at hx; cases hx
      | some y =>
        rw [hl] at hx
        injection hx with hx
        subst hx
        exact Nat.le_refl _
theorem settled_sync (ho : isOff r = false) : Settled (syncR r).1 := by
  intro k x hx
  rw [look_sync ho] at hx
  cases hl : look r k with
  | none => rw [hl] at hx; cases hx
  | some y =>
    rw [hl] at hx
    injection hx with hx
    subst hx
    exact ⟨rfl, rfl⟩
theorem ROk.append (h : ROk r) (s : ByteArray) (bs : List UInt8) : ROk (appP r s bs).1 := by
  by_cases h0 : (appP r s bs).2 = 0
  · refine ⟨?_, h.names.append _ ⟨rfl, rfl, rfl, rfl⟩, fun k x hx => ?_⟩
    · unfold appP appendR
      repeat' split
      all_goals first
        | exact h.rising
        | exact h.rising.put _
    · rw [look_app h0] at hx
      split at hx
      · injection hx with hx
        subst hx
        unfold grown
        cases hl : look r k with
        | none => exact Nat.zero_le _
        | some y =>
          have := h.sync k y hl
          show y.synced ≤ (y.data ++ bs).length
          rw [List.length_append]
          omega
      · exact h.sync k x hx
  · rw [look_app_no h0]
    exact h.power
theorem ROk.remove (h : ROk r) (k : List UInt8) : ROk (removeR r k).1 := by
  refine ⟨?_, h.names.remove k, ?_⟩
  · unfold removeR
    repeat' split
    all_goals first
      | exact h.rising
      | exact h.rising.without k
  · intro q x hx
    unfold removeR at hx
    repeat' split at hx
    all_goals first
      | exact h.sync q x hx
      | skip
    all_goals
      have h2 : ((withoutL r.L k).find? (fun f => f.nm == q)).map toF = some x := hx
      rw [find_without] at h2
      split at h2
      · cases h2
      · exact h.sync q x h2
theorem ROk.crash (h : ROk r) {ks : List (ByteArray × Int)} {L' : List RF} (hc : Crashed ks r L') : ROk (crashR r L') ∧ Settled (crashR r L') := by
  have hs : Settled (crashR r L') := by
    intro k x hx
    rw [look_crash hc] at hx
    cases hg : r.Gone.find? (fun f => f.nm == k) with
    | some g =>
      rw [hg] at hx
      injection hx with hx
      subst hx
      exact ⟨rfl, rfl⟩
    | none =>
      rw [hg] at hx
      cases hl : look r k with
      | none => rw [hl] at hx; cases hx
      | some y =>
        rw [hl] at hx
        have hx' : (crashF ks k y).map settleF = some x := hx
        cases hcf : crashF ks k y with
        | none => rw [hcf] at hx'; cases hx'
        | some z =>
          rw [hcf] at hx'
          injection hx' with hx'
          subst hx'
          exact ⟨rfl, rfl⟩
  exact ⟨⟨hc.rising, h.names.crash hc, fun k x hx => by rw [(hs k x hx).1]; exact Nat.le_refl _⟩, hs⟩
end

end Go.Proofs.YtdpbnacabinlgaaGreatDoor

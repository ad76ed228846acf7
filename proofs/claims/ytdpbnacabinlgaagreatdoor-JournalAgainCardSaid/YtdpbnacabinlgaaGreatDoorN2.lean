/- JournalAgain holds: for every list of files and every list of records the call returns true, and each argument reads behind it as it did. Condition: the library's package-level variables that are listed are laid as its text lays them (the tie is given). -/
import Derived.Test.YtdpbnacabinlgaaGreatDoorMI
import Derived.Deep.RegionHeld
import Derived.Lib.MinMax
namespace Go.Proofs.YtdpbnacabinlgaaGreatDoor
open Go.RowKit Go.Lib Go.Maps Go.ChangeMaps Go.Sort Go.Shelf

section
variable {r0 : RDm} {l0 : Nat} {pre : List (List UInt8)} {w0 wr : World} {jb db fb gb A K U : Nat} {v : Value} {sc : Nat} {rs : List (List UInt8)}

/-- Open, of what was added: all of it, and what is there then. -/
theorem RowJ.opens (h : RowJ True r0 l0 pre w0 wr jb db fb gb A K U v sc rs) (hb : Base r0 l0) (hp : recsR r0 (behindL r0 (lastP r0).1) = pre) (hA : A ≤ 700000000000) :
    Calls Tryz.prog 15 #[.pointer (some ⟨db, 0, none⟩)] wr fun e w' => ∃ jb' ra rc r1 l1, e = .returned (.tuple #[.pointer (some ⟨jb', 0, none⟩), .string (strB (lastP r0).2), .bool (decide (0 < (lastP r0).1)), .slice ra rs.length rc, .int .i64 0]) ∧
      Base r1 l1 ∧ lastP r1 = lastP r0 ∧ recsR r1 (behindL r1 (lastP r1).1) = rs ∧ l1 ≤ l0 + K ∧ (∀ x ∈ rs, x.length ≤ 262144) ∧ rs.length ≤ 53000000 ∧ (∃ own', OwnT wr.heap.size w' own' (.slice ra rs.length rc) rs ∧ OwnT w0.heap.size w' own' v rs) ∧ Hid (RowJ True r1 l1 rs w0 w' jb' db fb gb (A + 201) 0 U v 0 rs) := by
  obtain ⟨own, j, ls, sy, h1, h2, h3, h4, h5, h6, h7, h8, h9⟩ := h
  obtain ⟨o1, o2, o3⟩ := h9 trivial
  have hv := h2.view hb o1.1
  rw [hp, ← h4] at hv
  have hl : lastP j.r = lastP r0 := congrArg Prod.fst hv
  have hr : (viewR j.r).2 = rs := congrArg Prod.snd hv
  have hm := h1.lw.recs_le
  have hn := h1.lw.recs_len
  have hbig := h1.big
  have htop := h2.top hb o1.1
  refine (h1.lw.opens hA hbig o1).mono ?_
  rw [hl, hr]
  rw [hr] at hm hn
  rintro e w' ⟨jb', own', ra, rc, rfl, k1, k2, k3, k4, k5⟩
  obtain ⟨_, p2, p3, p4, p5, p6, p7⟩ := openS_on o1 h2.rok
  have hv2 := view_open o1 h2.rok
  rw [hv] at hv2
  have hb2 := Base.opened o1 h2.rok
  have t2 : OwnT w0.heap.size w' (jo own' jb') v rs := h3.unjo.step k4
  refine ⟨jb', ra, rc, _, _, rfl, hb2, congrArg Prod.fst hv2, congrArg Prod.snd hv2, by omega, hm, hn, ⟨_, k5, t2⟩, own', _, [], 0, k1, Grows.start hb2 p6, t2, by simp, Nat.zero_le _, Nat.le_trans (open_count o1 h2.rok) h6, Nat.le_refl _, Nat.zero_le _, fun _ => ⟨p2, Nat.le_trans (open_used o1 h2.rok) o2, p7.trans o3⟩⟩
end

/-- Rows of texts that came in. -/
def SSRow (w : World) (a : Option Addr) (qs : List (Option Addr × Nat × List (List UInt8))) : Prop := ∀ j q, qs[j]? = some q → ∃ A, a = some A ∧ w.cell? (A.add j) = some (.slice q.1 q.2.2.length q.2.1) ∧ TRow w q.1 q.2.2 ∧ q.2.2.length ≤ maxLen

section
variable {H : Type} {enc : TypeId × Value → H} {w : World} {base : Nat} {spare : Nat → Bool} {held : Bool}
theorem open_rows {fuel : Nat} {a : Option Addr} {len cap : Nat} {x : DataW H × List MemPlace} (h : DataW.trod enc Tryz.prog w base spare held fuel 62 [.slice a len cap] = some x) :
    ∃ qs : List (Option Addr × Nat × List (List UInt8)), len = qs.length ∧ SSRow w a qs ∧ qs.length ≤ maxLen := by
  rcases Go.Deep.open_slice1 Tryz.underlying62 (by kernel_rfl) h with ⟨hcs, _⟩ | ⟨A, l, c, m, n, V, D, Pl, hcs, _, hl, hm, hmm, _, hx⟩
  · simp at hcs
    obtain ⟨rfl, rfl, rfl⟩ := hcs
    exact ⟨[], rfl, (fun j q hj => by simp at hj), Nat.zero_le _⟩
  · simp at hcs
    obtain ⟨rfl, rfl, rfl⟩ := hcs
    have hlm : len ≤ m := by rw [hmm]; split <;> omega
    have hall : ∀ i, i < len → ∃ q : Option Addr × Nat × List (List UInt8), w.cell? (A.add i) = some (.slice q.1 q.2.2.length q.2.1) ∧ TRow w q.1 q.2.2 ∧ q.2.2.length ≤ maxLen := fun i hi => by
      obtain ⟨e0, t0⟩ := hx i (by omega)
      rcases Go.Deep.open_slice Tryz.underlying32 t0 with ⟨h4, _⟩ | ⟨A2, l2, c2, m2, n2, D2, Pl2, h4, _⟩
      · simp at h4
        rw [h4] at t0 e0
        obtain ⟨rs, hr1, hr2, hr3⟩ := open_texts t0
        exact ⟨(none, 0, rs), by rw [e0, hr1], hr2, hr3⟩
      · simp at h4
        rw [h4] at t0 e0
        obtain ⟨rs, hr1, hr2, hr3⟩ := open_texts t0
        exact ⟨(some A2, c2, rs), by rw [e0, hr1], hr2, hr3⟩
    obtain ⟨q, hq⟩ := Go.Deep.choose_lt hall
    refine ⟨(List.range len).map q, by simp, fun j y hj => ?_, by simp; omega⟩
    obtain ⟨hjl, rfl⟩ := List.getElem?_eq_some_iff.1 hj
    simp at hjl ⊢
    exact hq j hjl
end

theorem SSRow.below {w w' : World} {a : Option Addr} {qs : List (Option Addr × Nat × List (List UInt8))} (h : SSRow w a qs) (hb : Below w.heap.size w w') : SSRow w' a qs := fun j q hj => by
  obtain ⟨A, h1, h2, h3, h4⟩ := h j q hj
  exact ⟨A, h1, cell_below hb h2, h3.below hb, h4⟩

end Go.Proofs.YtdpbnacabinlgaaGreatDoor
namespace Go.Proofs.YtdpbnacabinlgaaGreatDoor
open Go.RowKit Go.Lib Go.Maps Go.ChangeMaps Go.Sort

theorem FGood.none {w : World} {own : Owner} {f : RF} (h : FGood w own f) : FGood w (fun _ => Option.none) f := ⟨h.hname, by
  rcases h.hb with h1 | ⟨A, c, h1, _, h3⟩
  · exact Or.inl h1
  · exact Or.inr ⟨A, c, h1, fun _ => rfl, h3⟩, h.hcap, h.hl, h.hdone⟩

/-- What a round of the second loop makes ahead of its bytes' copy, and what stands there behind it. -/
theorem rcrash_new (wr : World) (f : RF) :
    ((wr.alloc (.cells #[.string f.name, .slice f.da f.data.length f.dc, .int .i64 f.done, .bool f.there] 87)).alloc (.cells #[] 5)).ownsRow (wr.heap.size + 1) 5 1 (.slice (some ⟨wr.heap.size + 1, 0, none⟩) 0 0) 0 [] ∧
    Below wr.heap.size wr ((wr.alloc (.cells #[.string f.name, .slice f.da f.data.length f.dc, .int .i64 f.done, .bool f.there] 87)).alloc (.cells #[] 5)) ∧
    ∀ w3, ((wr.alloc (.cells #[.string f.name, .slice f.da f.data.length f.dc, .int .i64 f.done, .bool f.there] 87)).alloc (.cells #[] 5)).grownBy w3 (Value.slice (some ⟨wr.heap.size + 1, 0, none⟩) 0 0).ownBlock →
      Below wr.heap.size wr w3 ∧ w3.heap[wr.heap.size]? = some (.cells #[.string f.name, .slice f.da f.data.length f.dc, .int .i64 f.done, .bool f.there] 87 (0, 0)) := by
  have h0 : (wr.alloc (.cells #[.string f.name, .slice f.da f.data.length f.dc, .int .i64 f.done, .bool f.there] 87)).heap.size = wr.heap.size + 1 := by simp
  have h1 := hown_empty (wr.alloc (.cells #[.string f.name, .slice f.da f.data.length f.dc, .int .i64 f.done, .bool f.there] 87))
  have h2 := (Below.refl wr.heap.size wr).alloc (Nat.le_refl _) (.cells #[.string f.name, .slice f.da f.data.length f.dc, .int .i64 f.done, .bool f.there] 87)
  have h3 := (Below.refl (wr.heap.size + 1) (wr.alloc (.cells #[.string f.name, .slice f.da f.data.length f.dc, .int .i64 f.done, .bool f.there] 87))).alloc (by rw [h0]; exact Nat.le_refl _) (.cells #[] 5)
  have hX : (wr.alloc (.cells #[.string f.name, .slice f.da f.data.length f.dc, .int .i64 f.done, .bool f.there] 87)).heap[wr.heap.size]? = some (.cells #[.string f.name, .slice f.da f.data.length f.dc, .int .i64 f.done, .bool f.there] 87 (0, 0)) := heap_alloc_new wr _
  rw [h0] at h1
  refine ⟨h1, h2.trans (h3.mono (Nat.le_succ _)), fun w3 hg => ?_⟩
  have h4 := h3.grown hg (by simp) (fun k hk => by simp [Value.ownBlock] at hk; omega)
  exact ⟨h2.trans (h4.mono (Nat.le_succ _)), (h4.block _ (by omega)).trans hX⟩

section
variable {w w' : World} {d o : Owner} {rb n lc : Nat} {la : Option Addr} {gv : Value} {r : RDm}

set_option maxHeartbeats 8000000 in
set_option maxRecDepth 100000 in
theorem RDev.crash (h : RDev w d o rb la lc gv n r) (hn : n ≤ 100000) (hri : Rising r.L) (hon : OnceGone r) {ka : Option Addr} {kc : Nat} {ks : List (ByteArray × Int)} (hk : KArg w (both d o) (.slice ka ks.length kc) ks) (hkl : ks.length ≤ 1000000000000) :
    Calls Tryz.prog 22 #[.pointer (some ⟨rb, 0, none⟩), .slice ka ks.length kc] w fun e w' => e = .returned (.tuple #[]) ∧ ∃ L' o', Crashed ks r L' ∧ RD w' d o' rb n (crashR r L') ∧ RStep o o' w w' := by
  have H0 := Lib.hid h
  have H : Hid (FRow w (both d o) la r.L) := h.rowL
  have hcnt := h.cnt
  have HM : Hid (∀ W, Below w.heap.size w W → ∀ name, Calls Tryz.prog 61 #[.slice ka ks.length kc, .string name] W fun e w' => e = .returned (.tuple #[.int .i64 (max (manyK ks name.data.toList) 0), .bool (decide (0 ≤ manyK ks name.data.toList))]) ∧ Below W.heap.size W w') := fun W hW name => rmany_calls (hk.step (below_step _ hW)) hkl name
  have b0 := h.c0
  obtain ⟨l, hll⟩ : ∃ l, r.L.length = l := ⟨_, rfl⟩
  rw [hll] at hcnt b0
  have Hl := Lib.hid hll
  have B0 := Lib.hid b0
  have HR := Lib.hid hri
  have H1 : Hid (r.Gone.Pairwise (fun a b => a.nm ≠ b.nm)) := hon
  obtain ⟨q, hq⟩ : ∃ q, ks.length = q := ⟨_, rfl⟩
  rw [hq] at HM ⊢
  clear h hk hll b0 hri hq hkl hon
  go_enter Tryz.func22, Tryz.ntmps22
  go_wp2_with fail
  go_loopw [4, 5] (fun v i wr => ∃ (k : Nat) (a' : Option Addr) (c' : Nat) (l' : List RF), k ≤ l ∧ i = .int .i64 k ∧ v = .slice a' l'.length c' ∧ Hid (FRow wr (both d o) a' l') ∧ Hid (Kept1 ks (r.L.take k) l') ∧ Hid (Below w.heap.size w wr)) (fun _ i _ => l - (intOf i).toNat)
  case atStart => exact ⟨0, none, 0, [], Nat.zero_le _, rfl, rfl, fun j f hj => by simp at hj, Kept1.nil ks, Below.refl _ _⟩
  case round =>
    obtain ⟨k, a', c', l', hk, rfl, rfl, HF, HK, Hb⟩ := hrel
    have b0 := (Hb.out.cell (p := ⟨rb, 0, none⟩) (World.block_lt_of_cell? _ _ B0.out)).trans B0.out
    by_cases hlt : k < l
    · obtain ⟨f, hf⟩ : ∃ f, r.L[k]? = some f := ⟨_, List.getElem?_eq_getElem (by rw [Hl.out]; exact hlt)⟩
      have Hf := Lib.hid hf
      obtain ⟨A, rfl, _, hat⟩ := (H.out.below Hb.out) k f hf
      have HG := Lib.hid hat.good
      have hfl := hat.hl
      have hdn := hat.hdone
      have c0 := hat.c0
      have c1 := hat.c1
      have c2 := hat.c2
      have c3 := hat.c3
      unfold fld at c1 c2 c3
      have HB1 := Lib.hid (Hb.out.alloc Hb.out.size (.cells #[.string f.name, .slice f.da f.data.length f.dc, .int .i64 f.done, .bool f.there] 87))
      have HX1 : Hid ((wr.alloc (.cells #[.string f.name, .slice f.da f.data.length f.dc, .int .i64 f.done, .bool f.there] 87)).heap[wr.heap.size]? = some (.cells #[.string f.name, .slice f.da f.data.length f.dc, .int .i64 f.done, .bool f.there] 87 (0, 0))) := heap_alloc_new wr _
      have HMf := Lib.hid (HM.out _ HB1.out f.name)
      have HFl := Lib.hid (HF.out.below ((Below.refl wr.heap.size wr).alloc (Nat.le_refl _) (.cells #[.string f.name, .slice f.da f.data.length f.dc, .int .i64 f.done, .bool f.there] 87)))
      clear hf hat
      go_wp2_with fail
      refine HMf.out.mono ?_
      rintro e w2 ⟨rfl, hb2⟩
      have HBW := Lib.hid (((Below.refl wr.heap.size wr).alloc (Nat.le_refl _) (.cells #[.string f.name, .slice f.da f.data.length f.dc, .int .i64 f.done, .bool f.there] 87)).trans (hb2.mono (by simp)))
      have HB2 := Lib.hid (HB1.out.trans (hb2.mono HB1.out.size))
      have hblk2 := (hb2.block wr.heap.size (by simp)).trans HX1.out
      have x0 : w2.cell? ⟨wr.heap.size, 0, none⟩ = some (.string f.name) := cell_of_blk hblk2 rfl
      have x1 : w2.cell? ⟨wr.heap.size, 1, none⟩ = some (.slice f.da f.data.length f.dc) := cell_of_blk hblk2 rfl
      have x2 : w2.cell? ⟨wr.heap.size, 2, none⟩ = some (.int .i64 f.done) := cell_of_blk hblk2 rfl
      have x3 : w2.cell? ⟨wr.heap.size, 3, none⟩ = some (.bool f.there) := cell_of_blk hblk2 rfl
      have HX2 := Lib.hid hblk2
      have HFl2 := Lib.hid (HFl.out.below hb2)
      have Hlt2 : Hid (wr.heap.size < w2.heap.size) := (Array.getElem?_eq_some_iff.1 hblk2).1
      obtain ⟨z, hz⟩ : ∃ z, manyK ks f.name.data.toList = z := ⟨_, rfl⟩
      rw [hz]
      have Hz : Hid (manyK ks f.nm = z) := hz
      clear hblk2 hb2 hz HMf HFl c0 c1 c2 c3
      by_cases hskip : f.there = false ∧ z < 0
      · obtain ⟨ht, hzn⟩ := hskip
        have HK2 := Lib.hid (HK.out.skip HR.out Hf.out (keepF_none ht (by rw [Hz.out]; exact hzn)))
        rw [ht] at x3
        have hdz : decide (0 ≤ z) = false := by simpa using hzn
        rw [hdz]
        go_wp2_with fail
        go_roundw
        case rel => exact ⟨k + 1, a', c', l', by omega, by go_num, rfl, HFl2, HK2, HB2⟩
        case measure => simp [intOf]; omega
      · have hkp := keepF_some (ks := ks) (f := f) (by rw [Hz.out]; exact hskip)
        obtain ⟨m, hm⟩ : ∃ m : Nat, (f.done : Int) + min (max z 0) ((f.data.length : Int) - (f.done : Int)) = (m : Int) := ⟨((f.done : Int) + min (max z 0) ((f.data.length : Int) - (f.done : Int))).toNat, by omega⟩
        have hml : m ≤ f.data.length := by omega
        have hcut : cutK ks f.nm (toF f) = m := by
          unfold cutK toF
          rw [Hz.out]
          dsimp only
          omega
        rw [hcut] at hkp
        have hbl : (f.data.take m).length = m := by rw [List.length_take]; omega
        obtain ⟨hrun, hbu⟩ := HG.out.hb.upto HG.out.hcap hml hfl
        obtain ⟨bs, hbs⟩ : ∃ bs, f.data.take m = bs := ⟨_, rfl⟩
        rw [hbs] at hbl hbu hkp
        have HKP := Lib.hid hkp
        have Hbl := Lib.hid hbl
        have HB2b : Hid (Below wr.heap.size wr w2) := HBW.out
        have HB5 := Lib.hid ((Below.refl w2.heap.size w2).alloc (Nat.le_refl _) (.cells #[] 5))
        have HO5 := Lib.hid (hown_empty w2)
        have HBF := Lib.hid ((hbu.step (below_step (both d o) HB2b.out)).step (below_step _ HB5.out))
        have z1 := (HB5.out.cell (p := ⟨wr.heap.size, 1, none⟩) Hlt2.out).trans x1
        have z2 := (HB5.out.cell (p := ⟨wr.heap.size, 2, none⟩) Hlt2.out).trans x2
        clear hkp hbl hbu hbs hcut
        have key : ∀ th sd : Bool, f.there = th → decide (0 ≤ z) = sd → (th || sd) = true → True := fun _ _ _ _ _ => trivial
        clear key
        cases ht : f.there with
        | true =>
          rw [ht] at x3
          clear ht
          go_wp2_with (first
            | (at_builtin; refine wpList_append_bargB rfl (.tmp 49) (.tmp 56) rfl HBF.out HO5.out (by simp) (by rw [Hbl.out]; omega) rfl rfl ?_; intro a3 c3 w3 hown3 hgrow3; have HB3 := Lib.hid (((Below.refl w2.heap.size w2).alloc (Nat.le_refl _) (.cells #[] 5)).grown hgrow3 (by simp) (fun k hk => by simp [Value.ownBlock] at hk; omega)); (rw [Nat.zero_add, List.nil_append] at hown3); have HO3 := Lib.hid hown3; have y0 := (HB3.out.cell (p := ⟨wr.heap.size, 0, none⟩) Hlt2.out).trans x0; have y1 := (HB3.out.cell (p := ⟨wr.heap.size, 1, none⟩) Hlt2.out).trans x1; have y2 := (HB3.out.cell (p := ⟨wr.heap.size, 2, none⟩) Hlt2.out).trans x2; have y3 := (HB3.out.cell (p := ⟨wr.heap.size, 3, none⟩) Hlt2.out).trans x3; have g1 : w3.frozen? ⟨wr.heap.size, 1, none⟩ = false := frozen_of_blk ((HB3.out.block _ Hlt2.out).trans HX2.out); have g2 : w3.frozen? ⟨wr.heap.size, 2, none⟩ = false := frozen_of_blk ((HB3.out.block _ Hlt2.out).trans HX2.out); have g3 : w3.frozen? ⟨wr.heap.size, 3, none⟩ = false := frozen_of_blk ((HB3.out.block _ Hlt2.out).trans HX2.out); clear hown3 hgrow3 HBF HO5 x0 x1 x2 x3 z1 z2))
          obtain ⟨W4, hW4⟩ : ∃ W4, W4 = (((w3.setCell ⟨wr.heap.size, 1, none⟩ (.slice a3 bs.length c3)).setCell ⟨wr.heap.size, 2, none⟩ (.int .i64 bs.length)).setCell ⟨wr.heap.size, 3, none⟩ (.bool true)) := ⟨_, rfl⟩
          rw [← hW4]
          have hfr : Fr (fun b => b = wr.heap.size) w3 W4 := by rw [hW4]; exact (((Fr.refl (fun b => b = wr.heap.size) w3).setCell _ _ (fun _ => rfl)).setCell _ _ (fun _ => rfl)).setCell _ _ (fun _ => rfl)
          have hB3 : Below wr.heap.size wr w3 := HBW.out.trans (HB3.out.mono (Nat.le_of_lt Hlt2.out))
          have hB4 : Below wr.heap.size wr W4 := hB3.trans (hfr.to_below hB3.size (fun k hk e => by omega))
          have hrow4 : W4.ownsRow w2.heap.size 5 1 (.slice a3 bs.length c3) bs.length (byteCells bs) := ownsRow_of_block HO3.out (fun g hg => hfr.block g (HO3.out.lt g hg).2 (fun e => by have h8 := (HO3.out.lt g hg).1; have h9 := Hlt2.out; omega))
          have hcap4 : bs.length ≤ c3 := by
            rcases hrow4.2 with ⟨e, h0⟩ | ⟨g, cap, cur, e, _, _, h1, _⟩
            · rw [h0]; exact Nat.zero_le _
            · injection e with _ _ e
              rw [e]; exact h1
          have hold4 : ∀ b, W4.heap.size ≤ b → both d o b = none := fun b hb => both_none.2 (H0.out.old b (Nat.le_trans Hb.out.size (Nat.le_trans hB4.size hb)))
          have hlenl : l'.length ≤ 1000000 := by have h8 := HK.out.len; rw [List.length_take] at h8; omega
          have hgx : FGood W4 (both d o) ⟨f.name, a3, c3, bs, bs.length, true⟩ := ⟨HG.out.hname, BArg.of_row hrow4 (fun b hb => both_none.2 (H0.out.old b (by have h8 := Hlt2.out; have h9 := Hb.out.size; omega))), hcap4, by show bs.length ≤ _; rw [Hbl.out]; omega, Nat.le_refl _⟩
          have HFW := Lib.hid (HF.out.below hB4)
          have HK2 := Lib.hid (HK.out.keep HR.out Hf.out (x := ⟨f.name, a3, c3, bs, bs.length, true⟩) rfl HKP.out)
          have HBF4 := Lib.hid (Hb.out.trans (hB4.mono Hb.out.size))
          have HGX := Lib.hid hgx
          have HOLD4 := Lib.hid hold4
          clear hW4 hfr hB3 hB4 hrow4 hcap4 hgx hold4 y0 y1 y2 y3 g1 g2 g3 HO3 HB3
          refine (rput_calls W4 (both d o) a' c' l' ⟨f.name, a3, c3, bs, bs.length, true⟩ HFW.out hlenl HGX.out HOLD4.out).mono ?_
          rintro e w5 ⟨a5, c5, rfl, hr5, hb5⟩
          have HR5 := Lib.hid hr5
          have HB5b := Lib.hid (HBF4.out.trans (hb5.mono HBF4.out.size))
          clear hr5 hb5
          go_wp2_with fail
          go_roundw
          case rel => exact ⟨k + 1, a5, c5, _, by omega, by go_num, rfl, HR5, HK2, HB5b⟩
          case measure => simp [intOf]; omega
        | false =>
          have hdz : decide (0 ≤ z) = true := by
            have : ¬ z < 0 := fun e => hskip ⟨ht, e⟩
            simp; omega
          rw [ht] at x3
          rw [hdz]
          clear ht
          go_wp2_with (first
            | (at_builtin; refine wpList_append_bargB rfl (.tmp 49) (.tmp 56) rfl HBF.out HO5.out (by simp) (by rw [Hbl.out]; omega) rfl rfl ?_; intro a3 c3 w3 hown3 hgrow3; have HB3 := Lib.hid (((Below.refl w2.heap.size w2).alloc (Nat.le_refl _) (.cells #[] 5)).grown hgrow3 (by simp) (fun k hk => by simp [Value.ownBlock] at hk; omega)); (rw [Nat.zero_add, List.nil_append] at hown3); have HO3 := Lib.hid hown3; have y0 := (HB3.out.cell (p := ⟨wr.heap.size, 0, none⟩) Hlt2.out).trans x0; have y1 := (HB3.out.cell (p := ⟨wr.heap.size, 1, none⟩) Hlt2.out).trans x1; have y2 := (HB3.out.cell (p := ⟨wr.heap.size, 2, none⟩) Hlt2.out).trans x2; have y3 := (HB3.out.cell (p := ⟨wr.heap.size, 3, none⟩) Hlt2.out).trans x3; have g1 : w3.frozen? ⟨wr.heap.size, 1, none⟩ = false := frozen_of_blk ((HB3.out.block _ Hlt2.out).trans HX2.out); have g2 : w3.frozen? ⟨wr.heap.size, 2, none⟩ = false := frozen_of_blk ((HB3.out.block _ Hlt2.out).trans HX2.out); have g3 : w3.frozen? ⟨wr.heap.size, 3, none⟩ = false := frozen_of_blk ((HB3.out.block _ Hlt2.out).trans HX2.out); clear hown3 hgrow3 HBF HO5 x0 x1 x2 x3 z1 z2))
          obtain ⟨W4, hW4⟩ : ∃ W4, W4 = (((w3.setCell ⟨wr.heap.size, 1, none⟩ (.slice a3 bs.length c3)).setCell ⟨wr.heap.size, 2, none⟩ (.int .i64 bs.length)).setCell ⟨wr.heap.size, 3, none⟩ (.bool true)) := ⟨_, rfl⟩
          rw [← hW4]
          have hfr : Fr (fun b => b = wr.heap.size) w3 W4 := by rw [hW4]; exact (((Fr.refl (fun b => b = wr.heap.size) w3).setCell _ _ (fun _ => rfl)).setCell _ _ (fun _ => rfl)).setCell _ _ (fun _ => rfl)
          have hB3 : Below wr.heap.size wr w3 := HBW.out.trans (HB3.out.mono (Nat.le_of_lt Hlt2.out))
          have hB4 : Below wr.heap.size wr W4 := hB3.trans (hfr.to_below hB3.size (fun k hk e => by omega))
          have hrow4 : W4.ownsRow w2.heap.size 5 1 (.slice a3 bs.length c3) bs.length (byteCells bs) := ownsRow_of_block HO3.out (fun g hg => hfr.block g (HO3.out.lt g hg).2 (fun e => by have h8 := (HO3.out.lt g hg).1; have h9 := Hlt2.out; omega))
          have hcap4 : bs.length ≤ c3 := by
            rcases hrow4.2 with ⟨e, h0⟩ | ⟨g, cap, cur, e, _, _, h1, _⟩
            · rw [h0]; exact Nat.zero_le _
            · injection e with _ _ e
              rw [e]; exact h1
          have hold4 : ∀ b, W4.heap.size ≤ b → both d o b = none := fun b hb => both_none.2 (H0.out.old b (Nat.le_trans Hb.out.size (Nat.le_trans hB4.size hb)))
          have hlenl : l'.length ≤ 1000000 := by have h8 := HK.out.len; rw [List.length_take] at h8; omega
          have hgx : FGood W4 (both d o) ⟨f.name, a3, c3, bs, bs.length, true⟩ := ⟨HG.out.hname, BArg.of_row hrow4 (fun b hb => both_none.2 (H0.out.old b (by have h8 := Hlt2.out; have h9 := Hb.out.size; omega))), hcap4, by show bs.length ≤ _; rw [Hbl.out]; omega, Nat.le_refl _⟩
          have HFW := Lib.hid (HF.out.below hB4)
          have HK2 := Lib.hid (HK.out.keep HR.out Hf.out (x := ⟨f.name, a3, c3, bs, bs.length, true⟩) rfl HKP.out)
          have HBF4 := Lib.hid (Hb.out.trans (hB4.mono Hb.out.size))
          have HGX := Lib.hid hgx
          have HOLD4 := Lib.hid hold4
          clear hW4 hfr hB3 hB4 hrow4 hcap4 hgx hold4 y0 y1 y2 y3 g1 g2 g3 HO3 HB3
          refine (rput_calls W4 (both d o) a' c' l' ⟨f.name, a3, c3, bs, bs.length, true⟩ HFW.out hlenl HGX.out HOLD4.out).mono ?_
          rintro e w5 ⟨a5, c5, rfl, hr5, hb5⟩
          have HR5 := Lib.hid hr5
          have HB5b := Lib.hid (HBF4.out.trans (hb5.mono HBF4.out.size))
          clear hr5 hb5
          go_wp2_with fail
          go_roundw
          case rel => exact ⟨k + 1, a5, c5, _, by omega, by go_num, rfl, HR5, HK2, HB5b⟩
          case measure => simp [intOf]; omega
    · have hfin : r.L.take k = r.L := by rw [show k = l by omega, ← Hl.out]; exact List.take_length
      rw [hfin] at HK
      clear hfin
      obtain ⟨g, hgl⟩ : ∃ g, r.Gone.length = g := ⟨_, rfl⟩
      obtain ⟨ga, gc, hgv, hgrow, _⟩ := FRow.of_owns (own := fun _ => none) H0.out.rowG (fun _ _ => rfl) (fun f hf => (H0.out.good f hf).none)
      have HGN := Lib.hid hgrow
      have hb1 : w.cell? ⟨rb, 1, none⟩ = some (.slice ga r.Gone.length gc) := by rw [← hgv]; exact H0.out.c1
      rw [hgl] at hb1 hcnt
      have HB1g := Lib.hid hb1
      have Hgl := Lib.hid hgl
      have HK1 : Hid (Kept1 ks r.L l') := HK
      obtain ⟨l1, hl1⟩ : ∃ l1, l1 = l' := ⟨_, rfl⟩
      have HS : Hid (Kept2 l1 (r.Gone.take 0) l') := by rw [hl1]; exact Kept2.nil HK.out.rising
      rw [← hl1] at HK1
      clear hgv hgrow hb1 hgl hl1 HK
      go_wp2_with fail
      go_loopw [4, 9] (fun v i wr => ∃ (k : Nat) (a' : Option Addr) (c' : Nat) (l' : List RF), k ≤ g ∧ i = .int .i64 k ∧ v = .slice a' l'.length c' ∧ Hid (FRow wr (both d o) a' l') ∧ Hid (Kept2 l1 (r.Gone.take k) l') ∧ Hid (Below w.heap.size w wr)) (fun _ i _ => g - (intOf i).toNat)
      case atStart => exact ⟨0, a', c', l', Nat.zero_le _, rfl, rfl, HF, HS, Hb⟩
      case round =>
        clear HS HF Hb b0
        obtain ⟨k, a', c', l', hk, rfl, rfl, HF, HK, Hb⟩ := hrel
        have b1 := (Hb.out.cell (p := ⟨rb, 1, none⟩) (World.block_lt_of_cell? _ _ HB1g.out)).trans HB1g.out
        by_cases hlt : k < g
        · obtain ⟨f, hf⟩ : ∃ f, r.Gone[k]? = some f := ⟨_, List.getElem?_eq_getElem (by rw [Hgl.out]; exact hlt)⟩
          have Hf := Lib.hid hf
          obtain ⟨A, rfl, _, hat⟩ := (HGN.out.below Hb.out) k f hf
          have HG := Lib.hid ((H0.out.good f (List.mem_of_getElem? hf)).below Hb.out)
          have hfl := hat.hl
          have hdn := hat.hdone
          have c0 := hat.c0
          have c1 := hat.c1
          have c2 := hat.c2
          have c3 := hat.c3
          unfold fld at c1 c2 c3
          obtain ⟨hrun, hbu⟩ := HG.out.hb.upto HG.out.hcap hdn hfl
          obtain ⟨bs, hbs⟩ : ∃ bs, f.data.take f.done = bs := ⟨_, rfl⟩
          have hbl : bs.length = f.done := by rw [← hbs, List.length_take]; omega
          rw [hbs] at hbu
          have Hbl := Lib.hid hbl
          have Hbs := Lib.hid hbs
          obtain ⟨hx1, hx2, hx3⟩ := rcrash_new wr f
          have HO5 := Lib.hid hx1
          have HX3 := Lib.hid hx3
          have HBF := Lib.hid (hbu.step (below_step (both d o) hx2))
          clear hf hat hbu hbs hbl hx1 hx2 hx3
          go_wp2_with (first
            | (at_builtin; refine wpList_append_bargB rfl (.tmp 83) (.tmp 88) rfl HBF.out HO5.out (by simp) (by rw [Hbl.out]; omega) (by simp [Act.eval, Act.put]) (by simp [Act.eval, Act.put]) ?_; intro a3 c3 w3 hown3 hgrow3; (rw [Nat.zero_add, List.nil_append] at hown3); obtain ⟨hB3, hblk3⟩ := HX3.out w3 hgrow3; have HB3 := Lib.hid hB3; have HO3 := Lib.hid hown3; have y0 : w3.cell? ⟨wr.heap.size, 0, none⟩ = some (.string f.name) := cell_of_blk hblk3 rfl; have y1 : w3.cell? ⟨wr.heap.size, 1, none⟩ = some (.slice f.da f.data.length f.dc) := cell_of_blk hblk3 rfl; have y2 : w3.cell? ⟨wr.heap.size, 2, none⟩ = some (.int .i64 f.done) := cell_of_blk hblk3 rfl; have y3 : w3.cell? ⟨wr.heap.size, 3, none⟩ = some (.bool f.there) := cell_of_blk hblk3 rfl; have g1 : w3.frozen? ⟨wr.heap.size, 1, none⟩ = false := frozen_of_blk hblk3; have g3 : w3.frozen? ⟨wr.heap.size, 3, none⟩ = false := frozen_of_blk hblk3; clear hown3 hgrow3 hblk3 hB3 HBF HO5))
          obtain ⟨W4, hW4⟩ : ∃ W4, W4 = (w3.setCell ⟨wr.heap.size, 1, none⟩ (.slice a3 bs.length c3)).setCell ⟨wr.heap.size, 3, none⟩ (.bool true) := ⟨_, rfl⟩
          rw [← hW4]
          have hfr : Fr (fun b => b = wr.heap.size) w3 W4 := by rw [hW4]; exact ((Fr.refl (fun b => b = wr.heap.size) w3).setCell _ _ (fun _ => rfl)).setCell _ _ (fun _ => rfl)
          have hB3 : Below wr.heap.size wr w3 := HB3.out
          have hB4 : Below wr.heap.size wr W4 := hB3.trans (hfr.to_below hB3.size (fun k hk e => by omega))
          have hrow4 : W4.ownsRow (wr.heap.size + 1) 5 1 (.slice a3 bs.length c3) bs.length (byteCells bs) := ownsRow_of_block HO3.out (fun g hg => hfr.block g (HO3.out.lt g hg).2 (fun e => by have h8 := (HO3.out.lt g hg).1; omega))
          have hcap4 : bs.length ≤ c3 := by
            rcases hrow4.2 with ⟨e, h0⟩ | ⟨g, cap, cur, e, _, _, h1, _⟩
            · rw [h0]; exact Nat.zero_le _
            · injection e with _ _ e
              rw [e]; exact h1
          have hold4 : ∀ b, W4.heap.size ≤ b → both d o b = none := fun b hb => both_none.2 (H0.out.old b (Nat.le_trans Hb.out.size (Nat.le_trans hB4.size hb)))
          have hlenl : l'.length ≤ 1000000 := by have h8 := HK.out.len; have h9 := HK1.out.len; have h10 := Hl.out; rw [List.length_take] at h8; omega
          have hgx : FGood W4 (both d o) ⟨f.name, a3, c3, bs, f.done, true⟩ := ⟨HG.out.hname, BArg.of_row hrow4 (fun b hb => both_none.2 (H0.out.old b (by have h9 := Hb.out.size; omega))), hcap4, by show bs.length ≤ _; rw [Hbl.out]; omega, by show f.done ≤ bs.length; rw [Hbl.out]; exact Nat.le_refl _⟩
          have HFW := Lib.hid (HF.out.below hB4)
          have HK2 := Lib.hid (HK.out.next H1.out Hf.out (x := ⟨f.name, a3, c3, bs, f.done, true⟩) rfl (by unfold toF backF; dsimp only; rw [Hbs.out, Hbl.out]; rfl))
          have HBF4 := Lib.hid (Hb.out.trans (hB4.mono Hb.out.size))
          have HGX := Lib.hid hgx
          have HOLD4 := Lib.hid hold4
          clear hW4 hfr hB3 hB4 hrow4 hcap4 hgx hold4 y0 y1 y2 y3 g1 g3 HO3 HB3
          refine (rput_calls W4 (both d o) a' c' l' ⟨f.name, a3, c3, bs, f.done, true⟩ HFW.out hlenl HGX.out HOLD4.out).mono ?_
          rintro e w5 ⟨a5, c5, rfl, hr5, hb5⟩
          have HR5 := Lib.hid hr5
          have HB5b := Lib.hid (HBF4.out.trans (hb5.mono HBF4.out.size))
          clear hr5 hb5
          go_wp2_with fail
          go_roundw
          case rel => exact ⟨k + 1, a5, c5, _, by omega, by go_num, rfl, HR5, HK2, HB5b⟩
          case measure => simp [intOf]; omega
        · have hfin2 : r.Gone.take k = r.Gone := by rw [show k = g by omega, ← Hgl.out]; exact List.take_length
          have hk2 := HK.out
          rw [hfin2] at hk2
          obtain ⟨hcr, hlen⟩ := Kept2.crashed HK1.out hk2
          have hcn := H0.out.cnt
          obtain ⟨h4, st4⟩ := H0.out.setL (n' := l'.length + r.Gone.length) Hb.out (lc' := c') HF.out (Nat.le_refl _)
          obtain ⟨o2, h5, st5⟩ := h4.setG (n' := n) (a' := none) (c' := 0) (G' := []) (Fr.refl _ _) (World.ownsRow_nil _ _ _ _) (fun g hg => by simp [Value.ownBlock] at hg) (fun f hf => by simp at hf) (by show l'.length + 0 ≤ n; omega)
          obtain ⟨h6, st6⟩ := h5.setBlk (w' := ((((wr.setCell ⟨rb, 0, none⟩ (.slice a' l'.length c')).setCell ⟨rb, 1, none⟩ (.slice none 0 0)).setCell ⟨rb, 4, none⟩ (.bool false)).setCell ⟨rb, 5, none⟩ (.int .i64 0)).setCell ⟨rb, 6, none⟩ (.bool false)) (acts := r.acts) (left := 0) (fused := false) (off := false) ((((Fr.refl (fun b => b = rb) _).setCell _ _ (fun _ => rfl)).setCell _ _ (fun _ => rfl)).setCell _ _ (fun _ => rfl)) (setCell_blk (setCell_blk (setCell_blk h5.blk _) _) _) H0.out.racts (by omega)
          have hblk := (Hb.out.block rb (H0.out.lt (by simp [H0.out.orb]))).trans H0.out.blk
          have b0 : wr.cell? ⟨rb, 0, none⟩ = some (.slice la r.L.length lc) := cell_of_blk hblk rfl
          have b4 : wr.cell? ⟨rb, 4, none⟩ = some (.bool r.fused) := cell_of_blk hblk rfl
          have b5 : wr.cell? ⟨rb, 5, none⟩ = some (.int .i64 r.left) := cell_of_blk hblk rfl
          have b6 : wr.cell? ⟨rb, 6, none⟩ = some (.bool r.off) := cell_of_blk hblk rfl
          have f0 : wr.frozen? ⟨rb, 0, none⟩ = false := frozen_of_blk hblk
          have f1 : wr.frozen? ⟨rb, 1, none⟩ = false := frozen_of_blk hblk
          have f4 : wr.frozen? ⟨rb, 4, none⟩ = false := frozen_of_blk hblk
          have f5 : wr.frozen? ⟨rb, 5, none⟩ = false := frozen_of_blk hblk
          have f6 : wr.frozen? ⟨rb, 6, none⟩ = false := frozen_of_blk hblk
          have HCR := Lib.hid hcr
          have H6 := Lib.hid h6
          have ST6 := Lib.hid ((st4.trans st5).trans st6)
          clear h4 st4 h5 st5 h6 st6 hblk hcr hlen hcn hk2 hfin2
          go_wp2_with fail
          go_end0
          exact ⟨rfl, l', HCR.out, o2, ⟨_, _, _, H6.out⟩, ST6.out⟩
end

end Go.Proofs.YtdpbnacabinlgaaGreatDoor
namespace Go.Proofs.YtdpbnacabinlgaaGreatDoor
open Go.RowKit Go.Lib Go.Maps Go.ChangeMaps Go.Sort

/-- The builtin append of bytes that were handed in, as a step of a region that draws its order. -/
theorem step_append_bargB {w : World} {own : Owner} {B : Nat} {ops : Array Oper} {o : Oper} {a : Act} {K : Act → World → Prop} {Q : Exit → Act → World → Prop} {E : Prop} (hgd : o.guard = none) (s x : Operand)
    (ho : o.op = .call { callee := .builtin .append, args := #[s, x], argTypes := #[49, 49] })
    {bv : Value} {bs : List UInt8} (hb : BArg w own bv bs) {v : Value} {l : Nat} {xs : List Value} (hown : w.ownsRow B 5 1 v l xs) (hB : B ≤ w.heap.size) (h63 : l + bs.length ≤ 140737488355328)
    (hs : a.eval s = v) (hx : a.eval x = bv)
    (h : ∀ a' c' w', w'.ownsRow B 5 1 (.slice a' (l + bs.length) c') (l + bs.length) (xs ++ byteCells bs) → w.grownBy w' v.ownBlock → K (a.put o.dst (.slice a' (l + bs.length) c')) w') :
    if Region.wanted o (yielded ops a.tmps) = true then Oper.wp Tryz.prog o a w K Q else E := by
  have hw : Region.wanted o (yielded ops a.tmps) = true := by simp [Region.wanted, hgd]
  rw [if_pos hw]
  obtain ⟨v', w', hr, h2, h3⟩ := run_append_bargB hb hown hB h63 o.type
  obtain ⟨a', c', rfl⟩ := row_slice h2
  unfold Oper.wp execOp
  simp only [ho, resolve, invoke, builtin, Sem.run_bind, Sem.run_pure, Result.andThen_ok, List.map_toArray, List.map_cons, List.map_nil, hs, hx, hr]
  exact h a' c' w' h2 h3

/-- The document's device that Of has made, behind its first k files. -/
def ofRM (room : Int) (L : List RF) : RDm := { L := L, Gone := [], room := room, acts := 0, fused := false, left := 0, off := false }
structure OfR (ls : List LogV) (k : Nat) (L : List RF) : Prop where
  rising : Rising L
  files : ∀ key, (L.find? (fun f => f.nm == key)).map toF = (ofF ls k key).map settleF
  len : L.length ≤ k

theorem OfR.zero (ls : List LogV) : OfR ls 0 [] := ⟨List.Pairwise.nil, fun _ => rfl, Nat.le_refl _⟩
theorem OfR.next {ls : List LogV} {k : Nat} {L : List RF} {o : LogV} {x : RF} (h : OfR ls k L) (ho : ls[k]? = some o) (hn : ofF ls k o.name.data.toList = none) (hnm : x.name = o.name) (hd : x.data = o.ds) (hdn : x.done = o.ds.length) (ht : x.there = true) : OfR ls (k + 1) (putL L x) where
  rising := h.rising.put x
  files key := by
    have hxn : x.nm = o.name.data.toList := by unfold RF.nm; rw [hnm]
    rw [ofF_succ ho hn]
    by_cases e : key = x.nm
    · subst e
      rw [find_putL_same, hxn, setF_same]
      show some (toF x) = some (settleF _)
      unfold toF settleF
      rw [hd, hdn, ht]
      rfl
    · rw [find_putL_other e, setF_other _ _ (by rw [← hxn]; exact e)]
      exact h.files key
  len := Nat.le_trans (putL_len L x) (Nat.succ_le_succ h.len)

theorem OfR.agree {ls : List LogV} {L : List RF} {room : Int} (h : OfR ls ls.length L) : Agree (ofM room ls) (ofRM room L) where
  files k := by
    show ((ofF ls ls.length k).map settleF) = _
    exact (h.files k).symm
  gone k := rfl
  once f hf := by cases hf
  rising := h.rising
  room := rfl
  acts := rfl
  down := rfl
  fused := rfl
  left := rfl

theorem OfR.find {ls : List LogV} {k : Nat} {L : List RF} (h : OfR ls k L) (nm : List UInt8) : (ofF ls k nm = none ∧ findI L nm = -1) ∨ (ofF ls k nm ≠ none ∧ ∃ j : Nat, findI L nm = j) := by
  have hf := h.files nm
  rcases findI_cases L nm with ⟨h1, h2⟩ | ⟨j, f, h1, _, _, h2⟩
  · rw [h2] at hf
    refine Or.inl ⟨?_, h1⟩
    cases hx : ofF ls k nm with
    | none => rfl
    | some y => rw [hx] at hf; cases hf
  · rw [h2] at hf
    exact Or.inr ⟨fun e => by (rw [e] at hf; cases hf), j, h1⟩

/-- What the document's Of leaves. -/
def OfRPost (w : World) (d : Owner) (room : Int) (ls : List LogV) (e : Ending) (w' : World) : Prop :=
  (e = .returned (.pointer none) ∧ Below w.heap.size w w' ∧ ¬ OfOk ls) ∨
  (∃ (rb : Nat) (o : Owner) (L : List RF) (n : Nat), e = .returned (.pointer (some ⟨rb, 0, none⟩)) ∧ OfOk ls ∧ RD w' d o rb n (ofRM room L) ∧ OfR ls ls.length L ∧ n ≤ 64 ∧ (∀ b, b < w.heap.size → o b = none) ∧ Below w.heap.size w w')

/-- A round of Of, behind its bytes' copy. -/
theorem rof_round {w wq w3 : World} {d o1 : Owner} {k : Nat} {room : Int} {L : List RF} {A : Addr} {la : Option Addr} {lc : Nat} {gv : Value} {name : ByteArray} {da : Option Addr} {dc : Nat} {ds : List UInt8} {a3 : Option Addr} {c3 : Nat}
    (h2 : RDev wq d o1 w.heap.size la lc gv k (ofRM room L)) (hk : k ≤ 64) (hL : L.length ≤ k) (hbq : Below w.heap.size w wq) (hnm : name.size ≤ maxLen) (hlong : ds.length ≤ 262144) (hA : LAt w A k ⟨name, da, dc, ds⟩)
    (hrow : w3.ownsRow wq.heap.size 5 1 (.slice a3 ds.length c3) ds.length (byteCells ds)) (hb3 : Below wq.heap.size wq w3) :
    w3.cell? ⟨w.heap.size, 0, none⟩ = some (.slice la L.length lc) ∧ w3.cell? (A.add (k * 2)) = some (.string name) ∧ w3.cell? ⟨(A.add (k * 2)).block, (A.add (k * 2)).off + 1, none⟩ = some (.slice da ds.length dc) ∧
    Calls Tryz.prog 42 #[.slice la L.length lc, .agg #[.string name, .slice a3 ds.length c3, .int .i64 ds.length, .bool true]] w3 fun e w4 => ∃ a4 c4, e = .returned (.slice a4 (putL L ⟨name, a3, c3, ds, ds.length, true⟩).length c4) ∧
      w4.cell? ⟨w.heap.size, 0, none⟩ = some (.slice la L.length lc) ∧ w4.frozen? ⟨w.heap.size, 0, none⟩ = false ∧ w4.cell? (A.add (k * 2)) = some (.string name) ∧ w4.cell? ⟨(A.add (k * 2)).block, (A.add (k * 2)).off + 1, none⟩ = some (.slice da ds.length dc) ∧
      (w4.setCell ⟨w.heap.size, 0, none⟩ (.slice a4 (putL L ⟨name, a3, c3, ds, ds.length, true⟩).length c4)).cell? (A.add (k * 2)) = some (.string name) ∧ (w4.setCell ⟨w.heap.size, 0, none⟩ (.slice a4 (putL L ⟨name, a3, c3, ds, ds.length, true⟩).length c4)).cell? ⟨(A.add (k * 2)).block, (A.add (k * 2)).off + 1, none⟩ = some (.slice da ds.length dc) ∧
      Hid (RD (w4.setCell ⟨w.heap.size, 0, none⟩ (.slice a4 (putL L ⟨name, a3, c3, ds, ds.length, true⟩).length c4)) d o1 w.heap.size (k + 1) (ofRM room (putL L ⟨name, a3, c3, ds, ds.length, true⟩)) ∧ Below w.heap.size w (w4.setCell ⟨w.heap.size, 0, none⟩ (.slice a4 (putL L ⟨name, a3, c3, ds, ds.length, true⟩).length c4))) := by
  have hw3 := hbq.trans (hb3.mono hbq.size)
  have c1 : w.cell? ⟨(A.add (k * 2)).block, (A.add (k * 2)).off + 1, none⟩ = some (.slice da ds.length dc) := by
    have h := hA.c1
    unfold fld at h
    exact h
  have hl0 := World.block_lt_of_cell? _ _ hA.c0
  have hl1 := World.block_lt_of_cell? _ _ c1
  have hblk := (hb3.block _ (h2.lt (by simp [h2.orb]))).trans h2.blk
  refine ⟨cell_of_blk hblk rfl, (hw3.cell hl0).trans hA.c0, (hw3.cell hl1).trans c1, ?_⟩
  have hold : ∀ b, w3.heap.size ≤ b → both d o1 b = none := fun b hb => both_none.2 (h2.old b (Nat.le_trans hb3.size hb))
  have hcap : ds.length ≤ c3 := by
    rcases hrow.2 with ⟨e, h0⟩ | ⟨g, cap, cur, e, _, _, h1, _⟩
    · rw [h0]; exact Nat.zero_le _
    · injection e with _ _ e
      rw [e]; exact h1
  have hg : FGood w3 (both d o1) ⟨name, a3, c3, ds, ds.length, true⟩ := ⟨hnm, BArg.of_row hrow (fun b hb => both_none.2 (h2.old b hb)), hcap, hlong, Nat.le_refl _⟩
  refine (rput_calls w3 (both d o1) la lc L ⟨name, a3, c3, ds, ds.length, true⟩ (h2.rowL.below hb3) (by omega) hg hold).mono ?_
  rintro e w4 ⟨a4, c4, rfl, hr4, hb4⟩
  have hb5 : Below wq.heap.size wq w4 := hb3.trans (hb4.mono hb3.size)
  have hw4 := hbq.trans (hb5.mono hbq.size)
  have hblk4 := (hb5.block _ (h2.lt (by simp [h2.orb]))).trans h2.blk
  obtain ⟨h6, st6⟩ := h2.setL (n' := k + 1) hb5 (lc' := c4) hr4 (by have := putL_len L ⟨name, a3, c3, ds, ds.length, true⟩; show (putL L _).length + 0 ≤ k + 1; omega)
  have far : ∀ {p : Addr} {v : Value}, p.block < w.heap.size → w4.cell? p = some v → (w4.setCell ⟨w.heap.size, 0, none⟩ (.slice a4 (putL L ⟨name, a3, c3, ds, ds.length, true⟩).length c4)).cell? p = some v := fun hp hv => (World.cell?_of_block (Below.heap_setCell _ _ _ _ (by simp only; omega))).trans hv
  refine ⟨a4, c4, rfl, cell_of_blk hblk4 rfl, frozen_of_blk hblk4, (hw4.cell hl0).trans hA.c0, (hw4.cell hl1).trans c1, far hl0 ((hw4.cell hl0).trans hA.c0), far hl1 ((hw4.cell hl1).trans c1), ⟨_, _, _, h6⟩, hw4.trans (((Fr.refl (fun b => b = w.heap.size) w4).setCell _ _ (fun _ => rfl)).to_below hw4.size (fun k hk e => by omega))⟩

set_option maxHeartbeats 8000000 in
set_option maxRecDepth 100000 in
theorem rof_calls (room : Int) (a : Option Addr) (c : Nat) (ls : List LogV) (w : World) (d : Owner) (hr : -9223372036854775808 ≤ room ∧ room ≤ 9223372036854775807) (hls : LRow w a ls) (hbd : ∀ (j : Nat) (p : LogV), ls[j]? = some p → BArg w d (.slice p.da p.ds.length p.dc) p.ds) (hdo : ∀ b, w.heap.size ≤ b → d b = none) (hl : ls.length ≤ maxLen) :
    Calls Tryz.prog 14 #[.int .i64 room, .slice a ls.length c] w (OfRPost w d room ls) := by
  have Hls := Lib.hid hls
  have Hbd := Lib.hid hbd
  have Hdo := Lib.hid hdo
  obtain ⟨l, hll⟩ : ∃ l, ls.length = l := ⟨_, rfl⟩
  rw [hll] at hl ⊢
  have Hl := Lib.hid hll
  unfold maxLen at hl
  clear hls hll hbd hdo
  by_cases h64 : 64 < l
  · have Hbad : Hid (¬ OfOk ls) := fun h => by have := h.1; rw [Hl.out] at this; omega
    have hd : decide ((64 : Int) < (l : Int)) = true := by simp; omega
    go_enter Tryz.func14, Tryz.ntmps14
    go_wp2_with fail
    go_ret
    exact Or.inl ⟨rfl, Below.refl _ _, Hbad.out⟩
  · have hd : decide ((64 : Int) < (l : Int)) = false := by simp; omega
    have HNEW := Lib.hid (RD.new w d room hr Hdo.out)
    go_enter Tryz.func14, Tryz.ntmps14
    go_wp2_with fail
    refine HNEW.out.mono ?_
    rintro e w1 ⟨rfl, o1, h1, ho1, hb1⟩
    have H1 : Hid (RD w1 d o1 w.heap.size 0 (ofRM room [])) := h1
    have HO1 := Lib.hid ho1
    have HB1 := Lib.hid hb1
    clear h1 ho1 hb1 hd hr HNEW
    go_wp2_with fail
    go_loopw [6] (fun i wr => ∃ (k : Nat) (L : List RF), k ≤ l ∧ i = .int .i64 k ∧ Hid (∀ j o, j < k → ls[j]? = some o → OfAt ls j o) ∧ Hid (RD wr d o1 w.heap.size k (ofRM room L)) ∧ Hid (OfR ls k L) ∧ Hid (Below w.heap.size w wr)) (fun i _ => l - (intOf i).toNat)
    case atStart => exact ⟨0, [], Nat.zero_le _, rfl, (fun j o h _ => absurd h (Nat.not_lt_zero j)), H1.out, OfR.zero ls, HB1.out⟩
    case round =>
      obtain ⟨k, L, hk, rfl, Hok, HD, HR, HB⟩ := hrel
      by_cases hlt : k < l
      · obtain ⟨o, ho⟩ : ∃ o, ls[k]? = some o := ⟨_, List.getElem?_eq_getElem (by rw [Hl.out]; exact hlt)⟩
        have Ho := Lib.hid ho
        obtain ⟨A, rfl, hat⟩ := Hls.out.below HB.out k _ ho
        have c0 := hat.c0
        have c1 := hat.c1
        have hnm := hat.hname
        unfold fld at c1
        have HNM := Lib.hid hnm
        obtain ⟨la, lc, gv, h2⟩ := HD.out
        have H2 := Lib.hid h2
        have b0 : wr.cell? ⟨w.heap.size, 0, none⟩ = some (.slice la L.length lc) := h2.c0
        have hLk : L.length ≤ k := HR.out.len
        have hfa : ∀ q, Calls Tryz.prog 41 #[.slice la L.length lc, .string o.name] (wr.drewN q) fun e w' => e = .returned (.int .i64 (findI L o.name.data.toList)) ∧ w' = wr.drewN q := fun q => (rfind_calls (wr.drewN q) (both d o1) la lc L o.name (h2.rowL.below (below_drewN (Below.refl _ _) q)) (by omega)).mono fun _ _ h => ⟨h.1, h.2.symm⟩
        have hk0 : (0 : Int) ≤ (k : Int) := by omega
        have hk1 : (k : Int) < (l : Int) := by omega
        have hd : decide ((k : Int) < (l : Int)) = true := by simpa using hlt
        clear ho hat h2 hnm
        obtain ⟨name, da, dc, ds⟩ := o
        dsimp only at c0 c1 hfa HNM
        cases hnk : nameOk name.data.toList with
        | false =>
          have Hbad : Hid (¬ OfOk ls) := fun h => by have := (h.2 k _ Ho.out).1; rw [hnk] at this; cases this
          have Hnk : Hid (∀ w, Calls Tryz.prog 40 #[.string name] w fun e w' => e = .returned (.bool false) ∧ w' = w) := fun w => (rname_calls name w HNM.out).mono fun e w' h => ⟨by rw [h.1, hnk], h.2.symm⟩
          clear hnk hfa
          go_wp2_with fail
          go_quiet ((go_at_call 40; refine Calls.quiet_of_same (Hnk.out _)))
          go_wp2_with fail
          go_ret
          exact Or.inl ⟨rfl, below_drewN HB.out _, Hbad.out⟩
        | true =>
          have Hnk : Hid (∀ w, Calls Tryz.prog 40 #[.string name] w fun e w' => e = .returned (.bool true) ∧ w' = w) := fun w => (rname_calls name w HNM.out).mono fun e w' h => ⟨by rw [h.1, hnk], h.2.symm⟩
          have HNK := Lib.hid hnk
          clear hnk
          rcases HR.out.find name.data.toList with ⟨hf, hfi⟩ | ⟨hf, j, hfi⟩
          rotate_left
          · have Hbad : Hid (¬ OfOk ls) := fun h => hf (h.2 k _ Ho.out).2.1
            rw [hfi] at hfa
            have Hfa := Lib.hid hfa
            clear hf hfi hfa
            go_wp2_with fail
            go_quiet ((first | (go_at_call 40; refine Calls.quiet_of_same (Hnk.out _)) | (go_at_call 41; refine Calls.quiet_of_same (Hfa.out _))))
            go_wp2_with fail
            go_ret
            exact Or.inl ⟨rfl, below_drewN HB.out _, Hbad.out⟩
          rw [hfi] at hfa
          have Hfa := Lib.hid hfa
          have Hf := Lib.hid hf
          clear hf hfi hfa
          by_cases hlong : 262144 < ds.length
          · have Hbad : Hid (¬ OfOk ls) := fun h => by have := (h.2 k _ Ho.out).2.2; simp only at this; omega
            have hd4 : decide ((262144 : Int) < (ds.length : Int)) = true := by simp; omega
            go_wp2_with fail
            go_quiet ((first | (go_at_call 40; refine Calls.quiet_of_same (Hnk.out _)) | (go_at_call 41; refine Calls.quiet_of_same (Hfa.out _))))
            go_wp2_with fail
            go_ret
            exact Or.inl ⟨rfl, below_drewN HB.out _, Hbad.out⟩
          · have hd4 : decide ((262144 : Int) < (ds.length : Int)) = false := by simp; omega
            go_wp2_with fail
            go_quiet ((first | (go_at_call 40; refine Calls.quiet_of_same (Hnk.out _)) | (go_at_call 41; refine Calls.quiet_of_same (Hfa.out _))))
            go_wp2_with fail
            obtain ⟨wq, hwq⟩ : ∃ wq, wq = wr.drewN nq := ⟨_, rfl⟩
            rw [← hwq]
            have hbq0 : Below wr.heap.size wr wq := by rw [hwq]; exact below_drewN (Below.refl _ _) _
            have hlt0 := World.block_lt_of_cell? _ _ c0
            have hlt1 := World.block_lt_of_cell? _ _ c1
            have hq2 : RDev wq d o1 w.heap.size la lc gv k (ofRM room L) := H2.out.below hbq0
            have hbq : Below w.heap.size w wq := HB.out.trans (hbq0.mono HB.out.size)
            obtain ⟨A0, hA0, hat0⟩ := Hls.out k _ Ho.out
            injection hA0 with hA0
            subst hA0
            have HR3 : Hid (∀ (a3 : Option Addr) (c3 : Nat) (w3 : World), w3.ownsRow wq.heap.size 5 1 (.slice a3 ds.length c3) ds.length (byteCells ds) → Below wq.heap.size wq w3 → _) := fun a3 c3 w3 h8 h9 => rof_round (a3 := a3) (c3 := c3) hq2 (by omega) hLk hbq HNM.out (by omega) hat0 h8 h9
            have q0 : wq.cell? ⟨w.heap.size, 0, none⟩ = some (.slice la L.length lc) := hq2.c0
            have q1 := (hbq0.cell hlt0).trans c0
            have q2 := (hbq0.cell hlt1).trans c1
            have hal := (Below.refl wq.heap.size wq).alloc (Nat.le_refl _) (.cells #[] 5)
            have r0 : (wq.alloc (.cells #[] 5)).cell? ⟨w.heap.size, 0, none⟩ = some (.slice la L.length lc) := (hal.cell (p := ⟨w.heap.size, 0, none⟩) (World.block_lt_of_cell? _ _ q0)).trans q0
            have r1 := (hal.cell (World.block_lt_of_cell? _ _ q1)).trans q1
            have r2 := (hal.cell (World.block_lt_of_cell? _ _ q2)).trans q2
            have HBA : Hid (BArg ((wq.alloc (.cells #[] 5)).drew) d (.slice da ds.length dc) ds) := (((Hbd.out k _ Ho.out).step (below_step d hbq)).step (below_step d hal)).step (below_step d ((Below.refl _ _).drew))
            have HO5 : Hid (((wq.alloc (.cells #[] 5)).drew).ownsRow wq.heap.size 5 1 (.slice (some ⟨wq.heap.size, 0, none⟩) 0 0) 0 []) := hown_empty wq
            have HG3 : Hid (∀ w3, ((wq.alloc (.cells #[] 5)).drew).grownBy w3 (Value.slice (some ⟨wq.heap.size, 0, none⟩) 0 0).ownBlock → Below wq.heap.size wq w3) := fun w3 hg => (hal.drew).grown hg (by simp) (fun k hk => by simp [Value.ownBlock] at hk; omega)
            clear c0 c1 b0 hbq0 hq2 hbq hal hwq hd hd4 Hfa Hnk hat0
            refine wp_region_held_drew (S := (fun W => W.cell? (A.add (k * 2)) = some (.string name) ∧ W.cell? ⟨(A.add (k * 2)).block, (A.add (k * 2)).off + 1, none⟩ = some (.slice da ds.length dc))) (by kernel_rfl) (by refine ⟨?_, ?_⟩ <;> assumption) (fun hHeld => ?_)
            refine wpAnyH_take (i := 0) (oi := ⟨_, _, _, _, _, _⟩) (v := ?_) rfl (by kernel_rfl) (by kernel_rfl) (by kernel_rfl) (fun _ _ _ h => h) (Or.inl ⟨by rfl, by intro w hSw; (try dsimp only at hSw); go_simp; (try with_reducible rfl)⟩) (by assumption) ?_
            try simp only [Act.put, List.setIfInBounds_toArray, List.set_cons_zero, List.set_cons_succ]
            refine wpAnyH_take (i := 1) (oi := ⟨_, _, _, _, _, _⟩) (v := ?_) rfl (by kernel_rfl) (by kernel_rfl) (by kernel_rfl) (fun _ _ _ h => h) (Or.inl ⟨by rfl, by intro w hSw; (try dsimp only at hSw); go_simp; (try with_reducible rfl)⟩) (by assumption) ?_
            try simp only [Act.put, List.setIfInBounds_toArray, List.set_cons_zero, List.set_cons_succ]
            refine wpAnyH_take (i := 2) (oi := ⟨_, _, _, _, _, _⟩) (v := ?_) rfl (by kernel_rfl) (by kernel_rfl) (by kernel_rfl) (fun _ _ _ h => h) (Or.inl ⟨by rfl, by intro w hSw; (try dsimp only at hSw); go_simp; (try with_reducible rfl)⟩) (by assumption) ?_
            try simp only [Act.put, List.setIfInBounds_toArray, List.set_cons_zero, List.set_cons_succ]
            refine wpAnyH_take (i := 3) (oi := ⟨_, _, _, _, _, _⟩) (v := ?_) rfl (by kernel_rfl) (by kernel_rfl) (by kernel_rfl) (fun _ _ _ h => h) (Or.inl ⟨by rfl, by intro w hSw; (try dsimp only at hSw); go_simp; (try with_reducible rfl)⟩) (by assumption) ?_
            try simp only [Act.put, List.setIfInBounds_toArray, List.set_cons_zero, List.set_cons_succ]
            refine wpAnyH_take (i := 5) (oi := ⟨_, _, _, _, _, _⟩) (v := ?_) rfl (by kernel_rfl) (by kernel_rfl) (by kernel_rfl) (fun _ _ _ h => h) (Or.inl ⟨by rfl, by intro w hSw; (try dsimp only at hSw); go_simp; (try with_reducible rfl)⟩) (by assumption) ?_
            try simp only [Act.put, List.setIfInBounds_toArray, List.set_cons_zero, List.set_cons_succ]
            refine wpAnyH_take (i := 6) (oi := ⟨_, _, _, _, _, _⟩) (v := ?_) rfl (by kernel_rfl) (by kernel_rfl) (by kernel_rfl) (fun _ _ _ h => h) (Or.inl ⟨by rfl, by intro w hSw; (try dsimp only at hSw); go_simp; (try with_reducible rfl)⟩) (by assumption) ?_
            try simp only [Act.put, List.setIfInBounds_toArray, List.set_cons_zero, List.set_cons_succ]
            refine wpAnyH_take (i := 7) (oi := ⟨_, _, _, _, _, _⟩) (v := ?_) rfl (by kernel_rfl) (by kernel_rfl) (by kernel_rfl) (fun _ _ _ h => h) (Or.inl ⟨by rfl, by intro w hSw; (try dsimp only at hSw); go_simp; (try with_reducible rfl)⟩) (by assumption) ?_
            try simp only [Act.put, List.setIfInBounds_toArray, List.set_cons_zero, List.set_cons_succ]
            refine wpAnyH_take (i := 8) (oi := ⟨_, _, _, _, _, _⟩) (v := ?_) rfl (by kernel_rfl) (by kernel_rfl) (by kernel_rfl) (fun _ _ _ h => h) (Or.inl ⟨by rfl, by intro w hSw; (try dsimp only at hSw); go_simp; (try with_reducible rfl)⟩) (by assumption) ?_
            try simp only [Act.put, List.setIfInBounds_toArray, List.set_cons_zero, List.set_cons_succ]
            refine wpAnyH_take (i := 9) (oi := ⟨_, _, _, _, _, _⟩) (v := ?_) rfl (by kernel_rfl) (by kernel_rfl) (by kernel_rfl) (fun _ _ _ h => h) (Or.inl ⟨by rfl, by intro w hSw; (try dsimp only at hSw); go_simp; (try with_reducible rfl)⟩) (by assumption) ?_
            try simp only [Act.put, List.setIfInBounds_toArray, List.set_cons_zero, List.set_cons_succ]
            refine wpAnyH_take (i := 11) (oi := ⟨_, _, _, _, _, _⟩) (v := ?_) rfl (by kernel_rfl) (by kernel_rfl) (by kernel_rfl) (fun _ _ _ h => h) (Or.inl ⟨by rfl, by intro w hSw; (try dsimp only at hSw); go_simp; (try with_reducible rfl)⟩) (by assumption) ?_
            try simp only [Act.put, List.setIfInBounds_toArray, List.set_cons_zero, List.set_cons_succ]
            refine wpAnyH_take (i := 12) (oi := ⟨_, _, _, _, _, _⟩) (v := ?_) rfl (by kernel_rfl) (by kernel_rfl) (by kernel_rfl) (fun _ _ _ h => h) (Or.inl ⟨by rfl, by intro w hSw; (try dsimp only at hSw); go_simp; (try with_reducible rfl)⟩) (by assumption) ?_
            try simp only [Act.put, List.setIfInBounds_toArray, List.set_cons_zero, List.set_cons_succ]
            refine wpAnyH_take (i := 13) (oi := ⟨_, _, _, _, _, _⟩) (v := ?_) rfl (by kernel_rfl) (by kernel_rfl) (by kernel_rfl) (fun _ _ _ h => h) (Or.inl ⟨by rfl, by intro w hSw; (try dsimp only at hSw); go_simp; (try with_reducible rfl)⟩) (by assumption) ?_
            try simp only [Act.put, List.setIfInBounds_toArray, List.set_cons_zero, List.set_cons_succ]
            refine wpAnyH_take (i := 14) (oi := ⟨_, _, _, _, _, _⟩) (v := ?_) rfl (by kernel_rfl) (by kernel_rfl) (by kernel_rfl) (fun _ _ _ h => h) (Or.inl ⟨by rfl, by intro w hSw; (try dsimp only at hSw); go_simp; (try with_reducible rfl)⟩) (by assumption) ?_
            try simp only [Act.put, List.setIfInBounds_toArray, List.set_cons_zero, List.set_cons_succ]
            refine wpAnyH_take (i := 15) (oi := ⟨_, _, _, _, _, _⟩) (v := ?_) rfl (by kernel_rfl) (by kernel_rfl) (by kernel_rfl) (fun _ _ _ h => h) (Or.inl ⟨by rfl, by intro w hSw; (try dsimp only at hSw); go_simp; (try with_reducible rfl)⟩) (by assumption) ?_
            try simp only [Act.put, List.setIfInBounds_toArray, List.set_cons_zero, List.set_cons_succ]
            refine wpAnyH_take (i := 17) (oi := ⟨_, _, _, _, _, _⟩) (v := ?_) rfl (by kernel_rfl) (by kernel_rfl) (by kernel_rfl) (fun _ _ _ h => h) (Or.inl ⟨by rfl, by intro w hSw; (try dsimp only at hSw); go_simp; (try with_reducible rfl)⟩) (by assumption) ?_
            try simp only [Act.put, List.setIfInBounds_toArray, List.set_cons_zero, List.set_cons_succ]
            refine wpAnyH_take (i := 18) (oi := ⟨_, _, _, _, _, _⟩) (v := ?_) rfl (by kernel_rfl) (by kernel_rfl) (by kernel_rfl) (fun _ _ _ h => h) (Or.inl ⟨by rfl, by intro w hSw; (try dsimp only at hSw); go_simp; (try with_reducible rfl)⟩) (by assumption) ?_
            try simp only [Act.put, List.setIfInBounds_toArray, List.set_cons_zero, List.set_cons_succ]
            refine wpAnyH_take (i := 19) (oi := ⟨_, _, _, _, _, _⟩) (v := ?_) rfl (by kernel_rfl) (by kernel_rfl) (by kernel_rfl) (fun _ _ _ h => h) (Or.inl ⟨by rfl, by intro w hSw; (try dsimp only at hSw); go_simp; (try with_reducible rfl)⟩) (by assumption) ?_
            try simp only [Act.put, List.setIfInBounds_toArray, List.set_cons_zero, List.set_cons_succ]
            refine wpAnyH_take (i := 20) (oi := ⟨_, _, _, _, _, _⟩) (v := ?_) rfl (by kernel_rfl) (by kernel_rfl) (by kernel_rfl) (fun _ _ _ h => h) (Or.inl ⟨by rfl, by intro w hSw; (try dsimp only at hSw); go_simp; (try with_reducible rfl)⟩) (by assumption) ?_
            try simp only [Act.put, List.setIfInBounds_toArray, List.set_cons_zero, List.set_cons_succ]
            refine wpAnyH_take (i := 21) (oi := ⟨_, _, _, _, _, _⟩) (v := ?_) rfl (by kernel_rfl) (by kernel_rfl) (by kernel_rfl) (fun _ _ _ h => h) (Or.inl ⟨by rfl, by intro w hSw; (try dsimp only at hSw); go_simp; (try with_reducible rfl)⟩) (by assumption) ?_
            try simp only [Act.put, List.setIfInBounds_toArray, List.set_cons_zero, List.set_cons_succ]
            refine wpAnyH_take (i := 22) (oi := ⟨_, _, _, _, _, _⟩) (v := ?_) rfl (by kernel_rfl) (by kernel_rfl) (by kernel_rfl) (fun _ _ _ h => h) (Or.inl ⟨by rfl, by intro w hSw; (try dsimp only at hSw); go_simp; (try with_reducible rfl)⟩) (by assumption) ?_
            try simp only [Act.put, List.setIfInBounds_toArray, List.set_cons_zero, List.set_cons_succ]
            refine wpAnyH_ready (rs := [4, 10]) (by kernel_rfl) (by simp) ?_
            refine AllReadyH.cons rfl (fun K hK => ?_) (AllReadyH.cons rfl (fun K hK => ?_) AllReadyH.nil)
            focus go_simp
            refine hK.out _ _ (by (try dsimp only); refine ⟨?_, ?_⟩ <;> assumption) (fun hHeld => ?_)
            clear hK K
            refine wpAnyH_ready (rs := [10]) (by kernel_rfl) (by simp) ?_
            refine AllReadyH.cons rfl (fun K hK => ?_) AllReadyH.nil
            focus go_simp
            refine hK.out _ _ (by (try dsimp only); refine ⟨?_, ?_⟩ <;> assumption) (fun hHeld => ?_)
            clear hK K
            refine wpAnyH_ready (rs := [16]) (by kernel_rfl) (by simp) ?_
            refine AllReadyH.cons rfl (fun K hK => ?_) AllReadyH.nil
            refine step_append_bargB rfl (.tmp 57) (.tmp 62) rfl HBA.out HO5.out (by simp) (by omega) (by simp [Act.eval, Act.put]) (by simp [Act.eval, Act.put]) ?_; intro a3 c3 w3 hown3 hgrow3; (rw [Nat.zero_add, List.nil_append] at hown3); have hb3 := HG3.out w3 hgrow3; obtain ⟨y0, y1, y2, hput⟩ := HR3.out a3 c3 w3 hown3 hb3; rw [Nat.zero_add]
            refine hK.out _ _ (by (try dsimp only); refine ⟨?_, ?_⟩ <;> assumption) (fun hHeld => ?_)
            clear hK K
            refine wpAnyH_take (i := 23) (oi := ⟨_, _, _, _, _, _⟩) (v := ?_) rfl (by kernel_rfl) (by kernel_rfl) (by kernel_rfl) (fun _ _ _ h => h) (Or.inl ⟨by rfl, by intro w hSw; (try dsimp only at hSw); go_simp; (try with_reducible rfl)⟩) (by assumption) ?_
            try simp only [Act.put, List.setIfInBounds_toArray, List.set_cons_zero, List.set_cons_succ]
            refine wpAnyH_ready (rs := [24]) (by kernel_rfl) (by simp) ?_
            refine AllReadyH.cons rfl (fun K hK => ?_) AllReadyH.nil
            focus go_simp
            focus go_wp2_with (go_at_call 42; refine hput.mono ?_; rintro e w4 ⟨a4, c4, rfl, z0, zf, z1, z2, x1, x2, hnext⟩)
            refine hK.out _ _ (by (try dsimp only); refine ⟨?_, ?_⟩ <;> assumption) (fun hHeld => ?_)
            clear hK K
            refine wpAnyH_take (i := 25) (oi := ⟨_, _, _, _, _, _⟩) (v := ?_) rfl (by kernel_rfl) (by kernel_rfl) (by kernel_rfl) (fun _ _ _ h => h) (Or.inl ⟨by rfl, by intro w hSw; (try dsimp only at hSw); go_simp; (try with_reducible rfl)⟩) (by assumption) ?_
            try simp only [Act.put, List.setIfInBounds_toArray, List.set_cons_zero, List.set_cons_succ]
            refine wpAnyH_take (i := 26) (oi := ⟨_, _, _, _, _, _⟩) (v := ?_) rfl (by kernel_rfl) (by kernel_rfl) (by kernel_rfl) (fun _ _ _ h => h) (Or.inl ⟨by rfl, by intro w hSw; (try dsimp only at hSw); go_simp; (try with_reducible rfl)⟩) (by assumption) ?_
            try simp only [Act.put, List.setIfInBounds_toArray, List.set_cons_zero, List.set_cons_succ]
            refine wpAnyH_ready (rs := [27]) (by kernel_rfl) (by simp) ?_
            refine AllReadyH.cons rfl (fun K hK => ?_) AllReadyH.nil
            focus go_simp
            refine hK.out _ _ (by (try dsimp only); refine ⟨?_, ?_⟩ <;> assumption) (fun hHeld => ?_)
            clear hK K
            refine wpAnyH_done (by kernel_rfl) ?_ _
            rotate_left
            focus go_simp
            refine hK.out _ _ (by (try dsimp only); refine ⟨?_, ?_⟩ <;> assumption) (fun hHeld => ?_)
            clear hK K
            refine wpAnyH_ready (rs := [4, 16]) (by kernel_rfl) (by simp) ?_
            refine AllReadyH.cons rfl (fun K hK => ?_) (AllReadyH.cons rfl (fun K hK => ?_) AllReadyH.nil)
            focus go_simp
            refine hK.out _ _ (by (try dsimp only); refine ⟨?_, ?_⟩ <;> assumption) (fun hHeld => ?_)
            clear hK K
            refine wpAnyH_ready (rs := [16]) (by kernel_rfl) (by simp) ?_
            refine AllReadyH.cons rfl (fun K hK => ?_) AllReadyH.nil
            refine step_append_bargB rfl (.tmp 57) (.tmp 62) rfl HBA.out HO5.out (by simp) (by omega) (by simp [Act.eval, Act.put]) (by simp [Act.eval, Act.put]) ?_; intro a3 c3 w3 hown3 hgrow3; (rw [Nat.zero_add, List.nil_append] at hown3); have hb3 := HG3.out w3 hgrow3; obtain ⟨y0, y1, y2, hput⟩ := HR3.out a3 c3 w3 hown3 hb3; rw [Nat.zero_add]
            refine hK.out _ _ (by (try dsimp only); refine ⟨?_, ?_⟩ <;> assumption) (fun hHeld => ?_)
            clear hK K
            refine wpAnyH_take (i := 23) (oi := ⟨_, _, _, _, _, _⟩) (v := ?_) rfl (by kernel_rfl) (by kernel_rfl) (by kernel_rfl) (fun _ _ _ h => h) (Or.inl ⟨by rfl, by intro w hSw; (try dsimp only at hSw); go_simp; (try with_reducible rfl)⟩) (by assumption) ?_
            try simp only [Act.put, List.setIfInBounds_toArray, List.set_cons_zero, List.set_cons_succ]
            refine wpAnyH_ready (rs := [24]) (by kernel_rfl) (by simp) ?_
            refine AllReadyH.cons rfl (fun K hK => ?_) AllReadyH.nil
            focus go_simp
            focus go_wp2_with (go_at_call 42; refine hput.mono ?_; rintro e w4 ⟨a4, c4, rfl, z0, zf, z1, z2, x1, x2, hnext⟩)
            refine hK.out _ _ (by (try dsimp only); refine ⟨?_, ?_⟩ <;> assumption) (fun hHeld => ?_)
            clear hK K
            refine wpAnyH_take (i := 25) (oi := ⟨_, _, _, _, _, _⟩) (v := ?_) rfl (by kernel_rfl) (by kernel_rfl) (by kernel_rfl) (fun _ _ _ h => h) (Or.inl ⟨by rfl, by intro w hSw; (try dsimp only at hSw); go_simp; (try with_reducible rfl)⟩) (by assumption) ?_
            try simp only [Act.put, List.setIfInBounds_toArray, List.set_cons_zero, List.set_cons_succ]
            refine wpAnyH_take (i := 26) (oi := ⟨_, _, _, _, _, _⟩) (v := ?_) rfl (by kernel_rfl) (by kernel_rfl) (by kernel_rfl) (fun _ _ _ h => h) (Or.inl ⟨by rfl, by intro w hSw; (try dsimp only at hSw); go_simp; (try with_reducible rfl)⟩) (by assumption) ?_
            try simp only [Act.put, List.setIfInBounds_toArray, List.set_cons_zero, List.set_cons_succ]
            refine wpAnyH_ready (rs := [27]) (by kernel_rfl) (by simp) ?_
            refine AllReadyH.cons rfl (fun K hK => ?_) AllReadyH.nil
            focus go_simp
            refine hK.out _ _ (by (try dsimp only); refine ⟨?_, ?_⟩ <;> assumption) (fun hHeld => ?_)
            clear hK K
            refine wpAnyH_done (by kernel_rfl) ?_ _
            rotate_left
            refine step_append_bargB rfl (.tmp 57) (.tmp 62) rfl HBA.out HO5.out (by simp) (by omega) (by simp [Act.eval, Act.put]) (by simp [Act.eval, Act.put]) ?_; intro a3 c3 w3 hown3 hgrow3; (rw [Nat.zero_add, List.nil_append] at hown3); have hb3 := HG3.out w3 hgrow3; obtain ⟨y0, y1, y2, hput⟩ := HR3.out a3 c3 w3 hown3 hb3; rw [Nat.zero_add]
            refine hK.out _ _ (by (try dsimp only); refine ⟨?_, ?_⟩ <;> assumption) (fun hHeld => ?_)
            clear hK K
            refine wpAnyH_take (i := 23) (oi := ⟨_, _, _, _, _, _⟩) (v := ?_) rfl (by kernel_rfl) (by kernel_rfl) (by kernel_rfl) (fun _ _ _ h => h) (Or.inl ⟨by rfl, by intro w hSw; (try dsimp only at hSw); go_simp; (try with_reducible rfl)⟩) (by assumption) ?_
            try simp only [Act.put, List.setIfInBounds_toArray, List.set_cons_zero, List.set_cons_succ]
            refine wpAnyH_ready (rs := [4]) (by kernel_rfl) (by simp) ?_
            refine AllReadyH.cons rfl (fun K hK => ?_) AllReadyH.nil
            focus go_simp
            refine hK.out _ _ (by (try dsimp only); refine ⟨?_, ?_⟩ <;> assumption) (fun hHeld => ?_)
            clear hK K
            refine wpAnyH_ready (rs := [24]) (by kernel_rfl) (by simp) ?_
            refine AllReadyH.cons rfl (fun K hK => ?_) AllReadyH.nil
            focus go_simp
            focus go_wp2_with (go_at_call 42; refine hput.mono ?_; rintro e w4 ⟨a4, c4, rfl, z0, zf, z1, z2, x1, x2, hnext⟩)
            refine hK.out _ _ (by (try dsimp only); refine ⟨?_, ?_⟩ <;> assumption) (fun hHeld => ?_)
            clear hK K
            refine wpAnyH_take (i := 25) (oi := ⟨_, _, _, _, _, _⟩) (v := ?_) rfl (by kernel_rfl) (by kernel_rfl) (by kernel_rfl) (fun _ _ _ h => h) (Or.inl ⟨by rfl, by intro w hSw; (try dsimp only at hSw); go_simp; (try with_reducible rfl)⟩) (by assumption) ?_
            try simp only [Act.put, List.setIfInBounds_toArray, List.set_cons_zero, List.set_cons_succ]
            refine wpAnyH_take (i := 26) (oi := ⟨_, _, _, _, _, _⟩) (v := ?_) rfl (by kernel_rfl) (by kernel_rfl) (by kernel_rfl) (fun _ _ _ h => h) (Or.inl ⟨by rfl, by intro w hSw; (try dsimp only at hSw); go_simp; (try with_reducible rfl)⟩) (by assumption) ?_
            try simp only [Act.put, List.setIfInBounds_toArray, List.set_cons_zero, List.set_cons_succ]
            refine wpAnyH_ready (rs := [27]) (by kernel_rfl) (by simp) ?_
            refine AllReadyH.cons rfl (fun K hK => ?_) AllReadyH.nil
            focus go_simp
            refine hK.out _ _ (by (try dsimp only); refine ⟨?_, ?_⟩ <;> assumption) (fun hHeld => ?_)
            clear hK K
            refine wpAnyH_done (by kernel_rfl) ?_ _
            all_goals
              obtain ⟨hnx, hbx⟩ := hnext.out
              have HNX := Lib.hid hnx
              have HBX := Lib.hid hbx
              have HR6 := Lib.hid (HR.out.next Ho.out Hf.out (x := ⟨name, a3, c3, ds, ds.length, true⟩) rfl rfl rfl rfl)
              have Hok1 : Hid (∀ j o, j < k + 1 → ls[j]? = some o → OfAt ls j o) := fun j o hj hjo => by
                by_cases e : j = k
                · subst e
                  rw [Ho.out] at hjo
                  injection hjo with hjo
                  subst hjo
                  exact ⟨HNK.out, Hf.out, by show ds.length ≤ 262144; omega⟩
                · exact Hok.out j o (by omega) hjo
              obtain ⟨W9, hW9⟩ : ∃ W9, W9 = w4.setCell ⟨w.heap.size, 0, none⟩ (.slice a4 (putL L ⟨name, a3, c3, ds, ds.length, true⟩).length c4) := ⟨_, rfl⟩
              rw [← hW9] at HNX HBX ⊢
              clear hnx hbx hnext hW9 z0 zf z1 z2 x1 x2 y0 y1 y2 hb3 q0 q1 q2 r0 r1 r2 hown3 hgrow3
              go_wp2_with fail
              go_roundw
              case rel => exact ⟨k + 1, _, by omega, by go_num, Hok1, HNX, HR6, HBX⟩
              case measure => simp [intOf]; omega
      · obtain rfl : k = l := by omega
        have hd : decide ((k : Int) < (k : Int)) = false := by simp
        go_wp2_with fail
        go_ret
        have hok : OfOk ls := ⟨by rw [Hl.out]; omega, fun j o hj => Hok.out j o (by have := (List.getElem?_eq_some_iff.1 hj).1; rw [Hl.out] at this; exact this) hj⟩
        have e2 : OfR ls ls.length L := by rw [Hl.out]; exact HR.out
        exact Or.inr ⟨_, o1, L, k, rfl, hok, HD.out, e2, by omega, HO1.out, HB.out⟩

end Go.Proofs.YtdpbnacabinlgaaGreatDoor
namespace Go.Proofs.YtdpbnacabinlgaaGreatDoor
open Go.RowKit Go.Lib Go.Maps Go.ChangeMaps Go.Sort Go.Shelf

/-- What digits say. -/
def valD (l : List UInt8) : Nat := l.foldl (fun a c => 10 * a + (c.toNat - 48)) 0
theorem valD_snoc (l : List UInt8) (c : UInt8) : valD (l ++ [c]) = 10 * valD l + (c.toNat - 48) := by simp [valD]
theorem valD_dec : ∀ n : Nat, valD (decDigits n) = n := by
  intro n
  induction n using Nat.strongRecOn with
  | ind n ih =>
    rw [decDigits]
    split
    · rename_i h
      show 10 * 0 + ((UInt8.ofNat (48 + n)).toNat - 48) = n
      rw [digit_toNat h]
      omega
    · rw [valD_snoc, ih (n / 10) (by omega), digit_toNat (Nat.mod_lt _ (by omega))]
      omega
theorem valD_lt : ∀ l : List UInt8, (∀ c ∈ l, 48 ≤ c.toNat ∧ c.toNat ≤ 57) → valD l < 10 ^ l.length := by
  intro l
  induction h : l.length generalizing l with
  | zero => intro _; rw [List.eq_nil_of_length_eq_zero h]; decide
  | succ k ih =>
    intro hd
    rcases List.eq_nil_or_concat l with rfl | ⟨l', c, rfl⟩
    · simp at h
    · rw [List.concat_eq_append] at h hd ⊢
      have h1 := ih l' (by simpa using h) (fun x hx => hd x (List.mem_append_left _ hx))
      have h2 := hd c (by simp)
      rw [valD_snoc, Nat.pow_succ]
      omega
theorem head_dec : ∀ n : Nat, 1 ≤ n → ∃ c r, decDigits n = c :: r ∧ 49 ≤ c.toNat := by
  intro n
  induction n using Nat.strongRecOn with
  | ind n ih =>
    intro h1
    rw [decDigits]
    split
    · rename_i h
      exact ⟨_, [], rfl, by rw [digit_toNat h]; omega⟩
    · obtain ⟨c, r, h2, h3⟩ := ih (n / 10) (by omega) (by omega)
      exact ⟨c, r ++ [UInt8.ofNat (48 + n % 10)], by rw [h2]; rfl, h3⟩

theorem strn_upto (W : World) (s : ByteArray) (k : Nat) (hk : k ≤ s.size) : (Instr.slice 9 (.string s) none (some (.int .i64 k)) none).run Tryz.prog W = .ok (.string ⟨(s.data.toList.take k).toArray⟩) W := by
  rw [run_slice_string_h (P := Tryz.prog) W 9 s Tryz.underlying9 .i64 (k : Int) (by omega) (by omega)]
  congr 2
  exact ByteArray.ext (Array.ext' (by simp))

set_option maxHeartbeats 4000000 in
set_option maxRecDepth 100000 in
theorem rnumber_right {s m : ByteArray} {ds : List UInt8} (hs : s.data.toList = m.data.toList ++ ds) (hd : ∀ c ∈ ds, 48 ≤ c.toNat ∧ c.toNat ≤ 57) (hl : ds.length ≤ 17) (hm : m.size ≤ 100) {c0 : UInt8} {r0 : List UInt8} (h0 : ds = c0 :: r0) (hc0 : 49 ≤ c0.toNat) (w : World) :
    Calls Tryz.prog 32 #[.string s, .string m] w fun e w' => e = .returned (.int .i64 (valD ds)) ∧ w' = w := by
  have hsz : s.size = m.size + ds.length := by
    have := congrArg List.length hs
    simpa using this
  have hdl : 0 < ds.length := by rw [h0]; simp
  have hb : ∀ k (hk : k < ds.length), s[m.size + k]'(by omega) = ds[k] := fun k hk => by
    have h1 : s.data.toList[m.size + k]? = ds[k]? := by rw [hs, List.getElem?_append_right (by simp)]; simp
    rw [List.getElem?_eq_getElem (by simp; omega), List.getElem?_eq_getElem hk] at h1
    injection h1 with h1
  have htk : (⟨(s.data.toList.take m.size).toArray⟩ : ByteArray) = m := by
    rw [hs, List.take_left' (by simp)]
  have hsl : (Instr.slice 9 (.string s) none (some (.int .i64 m.size)) none).run Tryz.prog w = .ok (.string m) w := by
    rw [strn_upto w s m.size (by omega), htk]
  have hne : ((m.toList != m.toList)) = false := by simp
  have hfirst : 49 ≤ (s[m.size]'(by omega)).toNat := by
    have h1 := hb 0 hdl
    simp only [Nat.add_zero] at h1
    rw [h1]
    simp only [h0, List.getElem_cons_zero]
    exact hc0
  have hle : decide ((s.size : Int) ≤ (m.size : Int)) = false := by simp; omega
  have hf2 : decide (((s[m.size]'(by omega)).toNat : Int) = 48) = false := by simp; omega
  have h10 : ∀ k, k ≤ ds.length → valD (ds.take k) < 10 ^ 17 := fun k hk => by
    have h1 := valD_lt (ds.take k) (fun c hc => hd c (List.mem_of_mem_take hc))
    refine Nat.lt_of_lt_of_le h1 (Nat.pow_le_pow_right (by decide) ?_)
    rw [List.length_take]; omega
  obtain ⟨Q, hQ⟩ : ∃ Q, m.size = Q := ⟨_, rfl⟩
  obtain ⟨L, hL⟩ : ∃ L, ds.length = L := ⟨_, rfl⟩
  have HF : Hid (∀ k, k < L → ∃ c, ∃ h : Q + k < s.size, s[Q + k]'h = c ∧ 48 ≤ c.toNat ∧ c.toNat ≤ 57 ∧ valD (ds.take (k + 1)) = 10 * valD (ds.take k) + (c.toNat - 48) ∧ valD (ds.take (k + 1)) < 10 ^ 17) := fun k hk => by
    have hk' : k < ds.length := by omega
    refine ⟨ds[k], by omega, ?_, (hd _ (List.getElem_mem hk')).1, (hd _ (List.getElem_mem hk')).2, ?_, h10 _ (by omega)⟩
    · have := hb k hk'
      simp only [hQ] at this
      exact this
    · rw [List.take_succ_eq_append_getElem hk', valD_snoc]
  have HL : Hid (ds.take L = ds) := by show _ = _; rw [← hL]; exact List.take_length
  rw [hQ] at hsz hsl hle
  rw [hL] at hsz hl
  simp only [hQ] at hf2 hfirst
  have hS1 : s.size ≤ 200 := by omega
  have hle2 : decide ((Q : Int) + (L : Int) ≤ (Q : Int)) = false := by simp; omega
  have hf3 : (((s[Q]'(by omega)).toNat : Int) == 48) = false := by rw [beq_eq_false_iff_ne]; omega
  clear h10 hb hd hs h0 hc0
  go_enter Tryz.func32, Tryz.ntmps32
  go_wp2_with fail
  go_loopw [5, 6] (fun v i wr => ∃ k : Nat, k ≤ L ∧ wr = w ∧ v = .int .i64 (valD (ds.take k)) ∧ i = .int .i64 (Q + k : Nat)) (fun _ i _ => s.size - (intOf i).toNat)
  case atStart => exact ⟨0, Nat.zero_le _, rfl, rfl, rfl⟩
  case round =>
    obtain ⟨k, hk, rfl, rfl, rfl⟩ := hrel
    by_cases hlt : k < L
    · obtain ⟨c, hcs, hce, hc1, hc2, hv1, hv2⟩ := HF.out k hlt
      have g1 : decide ((c.toNat : Int) < 48) = false := by simp; omega
      have g2 : decide ((57 : Int) < (c.toNat : Int)) = false := by simp; omega
      obtain ⟨V, hV⟩ : ∃ V, valD (ds.take k) = V := ⟨_, rfl⟩
      rw [hV] at hv1 ⊢
      rw [hv1] at hv2
      go_wp2_with fail
      have e1 : (10 : Int) * (V : Int) + ((c.toNat : Int) - 48) = ((valD (ds.take (k + 1)) : Nat) : Int) := by rw [hv1]; omega
      refine ⟨⟨k + 1, by omega, trivial, by rw [e1], by congr 1⟩, ?_⟩
      simp only [intOf]
      omega
    · obtain rfl : k = L := by omega
      rw [HL.out]
      go_wp2_with fail
      go_ret
      exact ⟨rfl, rfl⟩

end Go.Proofs.YtdpbnacabinlgaaGreatDoor
namespace Go.Proofs.YtdpbnacabinlgaaGreatDoor
open Go.RowKit Go.Lib Go.Maps Go.ChangeMaps Go.Sort Go.Shelf

def sumDs (ls : List LogV) : Nat := (ls.map fun o => o.ds.length).sum
theorem sumDs_next {ls : List LogV} {k : Nat} {o : LogV} (h : ls[k]? = some o) : sumDs (ls.take (k + 1)) = sumDs (ls.take k) + o.ds.length := by
  unfold sumDs
  rw [List.take_add_one, h]
  simp

/-- What GreatLogs leaves, and tells. -/
def GTPost (w : World) (ls : List LogV) (e : Ending) (w' : World) : Prop := ∃ g, e = .returned (.bool g) ∧ (g = false → sumDs ls < 100000) ∧ Below w.heap.size w w'

set_option maxHeartbeats 2000000 in
set_option maxRecDepth 100000 in
theorem greatLogs_tells (a : Option Addr) (c : Nat) (ls : List LogV) (w : World) (hls : LRow w a ls) (hl : ls.length ≤ maxLen) :
    Calls Tryz.prog 12 #[.slice a ls.length c] w (GTPost w ls) := by
  have Hls := Lib.hid hls
  obtain ⟨l, hll⟩ : ∃ l, ls.length = l := ⟨_, rfl⟩
  rw [hll] at hl ⊢
  have Hl := Lib.hid hll
  unfold maxLen at hl
  clear hls hll
  go_enter Tryz.func12, Tryz.ntmps12
  go_wp2_with fail
  go_loopw [3, 4] (fun n i wr => ∃ (k : Nat) (x : Int), k ≤ l ∧ i = .int .i64 k ∧ n = .int .i64 x ∧ 0 ≤ x ∧ x ≤ 9223372036854775807 ∧ Hid ((sumDs (ls.take k) : Int) ≤ x ∨ 100000 ≤ x) ∧ Hid (Below w.heap.size w wr)) (fun _ i _ => l - (intOf i).toNat)
  case atStart => exact ⟨0, l, Nat.zero_le _, rfl, rfl, by omega, by omega, .inl (by simp [sumDs]), Below.refl _ _⟩
  case round =>
    obtain ⟨k, x, hk, rfl, rfl, hx0, hx1, HS, Hb⟩ := hrel
    by_cases hgo : k < l ∧ x < 100000
    · obtain ⟨hlt, hx⟩ := hgo
      obtain ⟨o, ho⟩ : ∃ o, ls[k]? = some o := ⟨_, List.getElem?_eq_getElem (by rw [Hl.out]; exact hlt)⟩
      have HSN := Lib.hid (sumDs_next ho)
      obtain ⟨name, da, dc, ds⟩ := o
      obtain ⟨A, rfl, hat0⟩ := Hls.out k _ ho
      have hat := hat0.below Hb.out
      have c1 := hat.c0
      have c2 := hat.c1
      dsimp only at c1 c2
      have hd : decide (x < 100000) = true := by simpa using hx
      have Hat := Lib.hid hat
      unfold fld at c2
      clear ho hat0 hat
      have hk0 : (0 : Int) ≤ (k : Int) := by omega
      have hk1 : (k : Int) < (l : Int) := by omega
      go_wp2_with fail
      go_quiet (fail)
      have Hb1 : Hid (Below w.heap.size w (wr.drewN nq)) := below_drewN Hb.out _
      clear c1 c2
      go_wp2_with fail
      go_roundw
      case rel =>
        refine ⟨k + 1, _, by omega, by go_num, rfl, by omega, by omega, ?_, Hb1⟩
        have h1 := HSN.out
        have h2 := HS.out
        show _ ∨ _
        omega
      case measure => simp [intOf]; omega
    · by_cases hbig : 100000 ≤ x
      · have hd2 : decide (x < 100000) = false := by simp; omega
        have hd3 : decide ((100000 : Int) ≤ x) = true := by simpa using hbig
        by_cases hlt : k < l
        all_goals
          go_wp2
          go_ret
          exact ⟨true, rfl, fun h => (by cases h), Hb.out⟩
      · have hd3 : decide ((100000 : Int) ≤ x) = false := by simp; omega
        have hkl : k = l := by omega
        have hs : sumDs ls < 100000 := by
          have h2 := HS.out
          rw [hkl, ← Hl.out, List.take_length] at h2
          omega
        clear hkl
        go_wp2
        go_ret
        exact ⟨false, rfl, fun _ => hs, Hb.out⟩

theorem ofR_all {ls : List LogV} (h : OfOk ls) : ∀ k, k ≤ ls.length → ∃ L, OfR ls k L ∧ usedL L ≤ sumDs (ls.take k)
  | 0, _ => ⟨[], OfR.zero ls, Nat.zero_le _⟩
  | k + 1, hk => by
    obtain ⟨L, h1, h2⟩ := ofR_all h k (by omega)
    have ho : ls[k]? = some ls[k] := List.getElem?_eq_getElem (by omega)
    refine ⟨putL L ⟨ls[k].name, none, 0, ls[k].ds, ls[k].ds.length, true⟩, h1.next ho (h.2 k _ ho).2.1 rfl rfl rfl rfl, ?_⟩
    rw [usedL_put, sumDs_next ho]
    have h3 := usedL_less (RF.nm ⟨ls[k].name, none, 0, ls[k].ds, ls[k].ds.length, true⟩) L
    show usedL (withoutL L _) + ls[k].ds.length ≤ _
    omega
theorem ofRM_names {ls : List LogV} (h : OfOk ls) {L : List RF} (hL : OfR ls ls.length L) (room : Int) : NamesOk (ofRM room L) := by
  refine ⟨fun f hf => ?_, fun f hf => by cases hf⟩
  have h1 := hL.files f.nm
  have h2 : ((L.find? (fun g => g.nm == f.nm)).map toF).isSome = true := by
    rw [Option.isSome_map, List.find?_isSome]
    exact ⟨f, hf, by simp⟩
  rw [h1] at h2
  unfold ofF at h2
  rw [Option.isSome_map, Option.isSome_map, List.find?_isSome] at h2
  obtain ⟨o, ho, he⟩ := h2
  have he : o.name.data.toList = f.nm := by simpa using he
  obtain ⟨i, hi⟩ := List.mem_iff_getElem?.1 (List.mem_of_mem_take ho)
  rw [← he]
  exact (h.2 i o hi).1
theorem ofRM_on (room : Int) (L : List RF) : On (ofRM room L) := ⟨rfl, rfl⟩

/-- Of, in a law's world. -/
theorem LW.ofs {w : World} (hv : Vars w (fun _ => none)) {a : Option Addr} {c : Nat} {ls : List LogV} (hls : LRow w a ls) (hl : ls.length ≤ maxLen) :
    Calls Tryz.prog 13 #[.int .i64 4194304, .slice a ls.length c] w fun e w' => (e = .returned (.pointer none) ∧ Below w.heap.size w w') ∨
      (∃ db fb gb own L, e = .returned (.pointer (some ⟨db, 0, none⟩)) ∧ Hid (LW w w' own db fb gb 0 (ofRM 4194304 L)) ∧ Hid (usedL L ≤ sumDs ls ∧ L.length ≤ 64)) := by
  refine (of_calls 4194304 a c ls w (by decide) hls hl).mono ?_
  rintro e w' (⟨rfl, hb, _⟩ | ⟨db, fb, rb, own, D, n, rfl, hok, hd, hn, st⟩)
  · exact .inl ⟨rfl, hb⟩
  · obtain ⟨L, hL, hu⟩ := ofR_all hok ls.length (Nat.le_refl _)
    rw [List.take_length] at hu
    have hlen : L.length ≤ 64 := Nat.le_trans hL.len hok.1
    exact .inr ⟨db, fb, rb, own, L, rfl, ⟨(LDev.of hd hL.agree (ofRM_names hok hL _)).tight rfl (Nat.le_trans hlen (by decide)), hv.step st, st, by simp [ofRM]⟩, hu, hlen⟩

/-- Open on a device, beside its records as a law's row. -/
theorem LW.openRow {w0 w : World} {own : Owner} {db fb gb A U : Nat} {r : RDm} (h : LW w0 w own db fb gb A r) (hA : A ≤ 700000000000) (hbig : 2 < w0.heap.size) (o1 : On r) (hlen : r.L.length ≤ 64) (hu : usedL r.L ≤ U) (hroom : r.room = 4194304) :
    Calls Tryz.prog 15 #[.pointer (some ⟨db, 0, none⟩)] w fun e w' => ∃ jb ra rc r1 l1 pre, e = .returned (.tuple #[.pointer (some ⟨jb, 0, none⟩), .string (strB (lastP r1).2), .bool (decide (0 < (lastP r1).1)), .slice ra pre.length rc, .int .i64 0]) ∧
      Base r1 l1 ∧ recsR r1 (behindL r1 (lastP r1).1) = pre ∧ l1 ≤ 10000000000000000 ∧ (∀ x ∈ pre, x.length ≤ 262144) ∧ pre.length ≤ 53000000 ∧ Hid (RowJ True r1 l1 pre w0 w' jb db fb gb (A + 201) 0 U (.slice ra pre.length rc) 0 pre) := by
  have hm := h.recs_le
  have hn := h.recs_len
  have hrok := h.dev.rok
  have htop := topR_lt hrok o1.1
  have hsz := h.st.fr.size
  refine (h.opens hA hbig o1).mono ?_
  rintro e w' ⟨jb', own', ra, rc, rfl, k1, k2, k3, k4, k5⟩
  obtain ⟨_, p2, p3, p4, p5, p6, p7⟩ := openS_on o1 hrok
  have hv2 := view_open o1 hrok
  have hb2 := Base.opened o1 hrok
  have e1 : lastP (openS r).1 = lastP r := congrArg Prod.fst hv2
  have e2 : recsR (openS r).1 (behindL (openS r).1 (lastP (openS r).1).1) = (viewR r).2 := congrArg Prod.snd hv2
  refine ⟨jb', ra, rc, (openS r).1, topR r, (viewR r).2, by rw [e1], hb2, e2, by omega, hm, hn, own', _, [], 0, k1, Grows.start hb2 p6, k5.base hsz, by simp, Nat.zero_le _, Nat.le_trans (open_count o1 hrok) hlen, Nat.le_refl _, Nat.zero_le _, fun _ => ⟨p2, Nat.le_trans (open_used o1 hrok) hu, p7.trans hroom⟩⟩

end Go.Proofs.YtdpbnacabinlgaaGreatDoor
namespace Go.Proofs.YtdpbnacabinlgaaGreatDoor
open Go.RowKit Go.Lib Go.Maps Go.ChangeMaps Go.Sort Go.Shelf

set_option maxHeartbeats 32000000 in
set_option maxRecDepth 100000 in
theorem again_walk {w : World} (hv : Vars w (fun _ => none)) (fa : Option Addr) (fc : Nat) (ls : List LogV) (hls : LRow w fa ls) (hll : ls.length ≤ maxLen) (a : Option Addr) (c : Nat) (rs : List (List UInt8)) (hx : TRow w a rs) (hl : rs.length ≤ maxLen) :
    Calls Tryz.prog 5 #[.slice fa ls.length fc, .slice a rs.length c] w fun e w' => e = .returned (.bool true) ∧ Below w.heap.size w w' := by
  have HV := Lib.hid hv
  have HX := Lib.hid hx
  have HLS := Lib.hid hls
  have hof := fun (w1 : World) (hv1 : Vars w1 (fun _ => none)) (h : LRow w1 fa ls) => LW.ofs (c := fc) hv1 h hll
  have hgl := fun w1 (h : LRow w1 fa ls) => greatLogs_tells fa fc ls w1 h hll
  unfold maxLen at hl hll
  obtain ⟨l, hrl⟩ : ∃ l, rs.length = l := ⟨_, rfl⟩
  have Hl := Lib.hid hrl
  rw [hrl] at hl ⊢
  obtain ⟨fl, hfl⟩ : ∃ fl, ls.length = fl := ⟨_, rfl⟩
  rw [hfl] at hll hof hgl ⊢
  have HOF := Lib.hid hof
  have HGL := Lib.hid hgl
  obtain ⟨i0, hi, hi0, hi1, hi2⟩ := info_parts infoS16
  have hbig0 := hv.lt
  clear hv hx hls hrl hfl hof hgl
  go_enter Tryz.func5, Tryz.ntmps5
  go_wp2_with fail
  refine (jhead_calls HV.out).mono ?_
  rintro e w1 ⟨rfl, hb1⟩
  have HB1 := Lib.hid hb1
  have HV1 := Lib.hid (HV.out.below hb1)
  have HLS1 := Lib.hid (HLS.out.below hb1)
  have HBIG : Hid (2 < w1.heap.size) := HV1.out.lt
  clear hb1
  go_wp2_with fail
  refine (HOF.out w1 HV1.out HLS1.out).mono ?_
  rintro e w2 (⟨rfl, hb2⟩ | ⟨db, fb, gb, own, L, rfl, H2, HU⟩)
  · have HB2 := Lib.hid (HB1.out.trans (hb2.mono HB1.out.size))
    clear hb2
    go_wp2_with fail
    go_loop [7, 8] (fun n i => ∃ k nn : Nat, k ≤ l ∧ i = .int .i64 k ∧ n = .int .i64 nn ∧ nn ≤ 40001 ∧ Hid (∀ i s, i < k → rs[i]? = some s → min s.length 20000 ≤ nn)) (fun _ i => l - (intOf i).toNat)
    case atStart => exact ⟨0, 0, Nat.zero_le _, rfl, rfl, by omega, fun i s h _ => absurd h (Nat.not_lt_zero _)⟩
    case round =>
      obtain ⟨k, nn, hk, rfl, rfl, hnb, HM⟩ := hrel
      by_cases hgo : k < l ∧ nn < 20000
      · obtain ⟨hlt, hn2⟩ := hgo
        obtain ⟨s, hs⟩ : ∃ s, rs[k]? = some s := ⟨_, List.getElem?_eq_getElem (by rw [Hl.out]; exact hlt)⟩
        have HS := Lib.hid hs
        obtain ⟨ad, rfl, hcell, hss⟩ := (HX.out.below HB2.out) k s hs
        unfold maxLen at hss
        have hsz : (strB s).size = s.length := strB_size s
        have hss1 : (strB s).size ≤ 9223372036854775807 := by omega
        have hd : decide ((nn : Int) < 20000) = true := by simp; omega
        have hT0 : (0 : Int) ≤ min ((strB s).size : Int) 20000 := by omega
        have hT1 : min ((strB s).size : Int) 20000 ≤ 20000 := by omega
        have hcast : ((nn : Int) + 1 + min ((strB s).size : Int) 20000) = ((nn + 1 + min (strB s).size 20000 : Nat) : Int) := by omega
        have Hcast := Lib.hid hcast
        clear hs hsz hcast
        go_wp2
        go_round
        case rel =>
          refine ⟨k + 1, nn + 1 + min (strB s).size 20000, by omega, by go_num, by rw [Hcast.out], by omega, fun i s2 hi hs2 => ?_⟩
          by_cases hik : i < k
          · have := HM.out i s2 hik hs2
            omega
          · obtain rfl : i = k := by omega
            rw [HS.out] at hs2
            injection hs2 with hs2
            subst hs2
            rw [strB_size]
            omega
        case measure => simp [intOf]; omega
      · by_cases hbg : 20000 ≤ nn
        · have hd2 : decide ((nn : Int) < 20000) = false := by simp; omega
          by_cases hlt : k < l
          all_goals
            go_wp2
            go_ret
            exact ⟨rfl, HB2.out⟩
        · have hlt : ¬ k < l := by omega
          obtain rfl : k = l := by omega
          go_wp2
          go_ret
          exact ⟨rfl, HB2.out⟩
  · have HW2 : Hid (Below w1.heap.size w1 w2) := step_low H2.out.st
    have HB2 : Hid (Below w.heap.size w w2) := HB1.out.trans (HW2.out.mono HB1.out.size)
    have HLS2 := Lib.hid (HLS.out.below HB2.out)
    go_wp2_with fail
    go_loop [7, 8] (fun n i => ∃ k nn : Nat, k ≤ l ∧ i = .int .i64 k ∧ n = .int .i64 nn ∧ nn ≤ 40001 ∧ Hid (∀ i s, i < k → rs[i]? = some s → min s.length 20000 ≤ nn)) (fun _ i => l - (intOf i).toNat)
    case atStart => exact ⟨0, 0, Nat.zero_le _, rfl, rfl, by omega, fun i s h _ => absurd h (Nat.not_lt_zero _)⟩
    case round =>
      obtain ⟨k, nn, hk, rfl, rfl, hnb, HM⟩ := hrel
      by_cases hgo : k < l ∧ nn < 20000
      · obtain ⟨hlt, hn2⟩ := hgo
        obtain ⟨s, hs⟩ : ∃ s, rs[k]? = some s := ⟨_, List.getElem?_eq_getElem (by rw [Hl.out]; exact hlt)⟩
        have HS := Lib.hid hs
        obtain ⟨ad, rfl, hcell, hss⟩ := (HX.out.below HB2.out) k s hs
        unfold maxLen at hss
        have hsz : (strB s).size = s.length := strB_size s
        have hss1 : (strB s).size ≤ 9223372036854775807 := by omega
        have hd : decide ((nn : Int) < 20000) = true := by simp; omega
        have hT0 : (0 : Int) ≤ min ((strB s).size : Int) 20000 := by omega
        have hT1 : min ((strB s).size : Int) 20000 ≤ 20000 := by omega
        have hcast : ((nn : Int) + 1 + min ((strB s).size : Int) 20000) = ((nn + 1 + min (strB s).size 20000 : Nat) : Int) := by omega
        have Hcast := Lib.hid hcast
        clear hs hsz hcast
        go_wp2
        go_round
        case rel =>
          refine ⟨k + 1, nn + 1 + min (strB s).size 20000, by omega, by go_num, by rw [Hcast.out], by omega, fun i s2 hi hs2 => ?_⟩
          by_cases hik : i < k
          · have := HM.out i s2 hik hs2
            omega
          · obtain rfl : i = k := by omega
            rw [HS.out] at hs2
            injection hs2 with hs2
            subst hs2
            rw [strB_size]
            omega
        case measure => simp [intOf]; omega
      · by_cases hbg : 20000 ≤ nn
        · have hd2 : decide ((nn : Int) < 20000) = false := by simp; omega
          have hd3 : decide ((20000 : Int) ≤ (nn : Int)) = true := by simp; omega
          by_cases hlt : k < l
          all_goals
            go_wp2_with fail
            refine (HGL.out w2 HLS2.out).mono ?_
            rintro e w3 ⟨g, rfl, _, hb3⟩
            have HB3 := Lib.hid (HB2.out.trans (hb3.mono HB2.out.size))
            clear hb3
            cases g with
            | true =>
              go_wp2_with fail
              go_ret
              exact ⟨rfl, HB3.out⟩
            | false =>
              go_wp2_with fail
              go_ret
              exact ⟨rfl, HB3.out⟩
        · have hlt : ¬ k < l := by omega
          obtain rfl : k = l := by omega
          have hd3 : decide ((20000 : Int) ≤ (nn : Int)) = false := by simp; omega
          have HM4 : Hid (∀ i s, i < k → rs[i]? = some s → s.length ≤ 20000) := fun i s hi hs => by have := HM.out i s hi hs; omega
          clear HM
          go_wp2_with fail
          refine (HGL.out w2 HLS2.out).mono ?_
          rintro e w3 ⟨g, rfl, hg, hb3⟩
          have HB3 := Lib.hid (HB2.out.trans (hb3.mono HB2.out.size))
          have H3 := Lib.hid (H2.out.below hb3)
          clear hb3
          cases g with
          | true =>
            go_wp2_with fail
            go_ret
            exact ⟨rfl, HB3.out⟩
          | false =>
            have hsum := hg rfl
            clear hg
            by_cases h100 : 100 < k
            · have hd4 : decide ((100 : Int) < (k : Int)) = true := by simp; omega
              go_wp2_with fail
              go_ret
              exact ⟨rfl, HB3.out⟩
            have hd4 : decide ((100 : Int) < (k : Int)) = false := by simp; omega
            by_cases h30 : 30 < fl
            · have hd5 : decide ((30 : Int) < (fl : Int)) = true := by simp; omega
              go_wp2_with fail
              go_ret
              exact ⟨rfl, HB3.out⟩
            have hd5 : decide ((30 : Int) < (fl : Int)) = false := by simp; omega
            have HO1 := Lib.hid (H3.out.openRow (U := 100000) (by omega) HBIG.out (ofRM_on _ _) HU.out.2 (by have := HU.out.1; show usedL L ≤ _; omega) rfl)
            clear hsum
            go_wp2_with fail
            refine HO1.out.mono ?_
            rintro e w4 ⟨jb1, ra1, rc1, r1, l1, pre, rfl, hbase, hrecs, hl1, hpl, hpn, HJ4⟩
            have HBASE := Lib.hid hbase
            have HRECS := Lib.hid hrecs
            have HPL := Lib.hid hpl
            obtain ⟨pb, hpb⟩ : ∃ pb, decide (0 < (lastP r1).1) = pb := ⟨_, rfl⟩
            obtain ⟨pt, hpt⟩ : ∃ pt, strB (lastP r1).2 = pt := ⟨_, rfl⟩
            have hnb2 : (pb != pb) = false := by simp
            have hnb3 : (pt.toList != pt.toList) = false := by simp
            have HO2 := Lib.hid (HJ4.out.opens hbase hrecs (by omega))
            rw [hpb, hpt] at HO2 ⊢
            have HPB := Lib.hid hpb
            have HPT := Lib.hid hpt
            clear HO1 hbase hrecs hpl hpb hpt
            go_wp2_with fail
            refine HO2.out.mono ?_
            rintro e w5 ⟨jb2, ra2, rc2, r2, l2, rfl, hb5, hl5, hr5, hk5, hm5, hn5, ⟨own5, t5, u5⟩, HJ5⟩
            have hmm : ∀ x ∈ pre, x.length ≤ maxLen := fun x hx => by have := hm5 x hx; unfold maxLen; omega
            have hl5a : (lastP r2) = lastP r1 := hl5
            have HBASE2 : Hid (Base r2 l2 ∧ recsR r2 (behindL r2 (lastP r2).1) = pre ∧ lastP r2 = lastP r1) := ⟨hb5, hr5, hl5⟩
            have HL2 : Hid (l2 ≤ l1 + 0) := hk5
            obtain ⟨pl, hpl2⟩ : ∃ pl, pre.length = pl := ⟨_, rfl⟩
            have HPLEN := Lib.hid hpl2
            have HS : Hid (Calls Tryz.prog 17 #[.slice ra1 pl rc1, .slice ra2 pl rc2] w5 fun e w' => e = .returned (.bool true) ∧ ∃ n, w' = w5.drewN n) := by
              have hs := same_calls w5 ra1 ra2 rc1 rc2 pre pre (u5.trow hmm) (t5.trow hmm) (by unfold maxLen; omega) (by unfold maxLen; omega)
              rw [hpl2] at hs
              exact hs.mono fun e w' h => ⟨by rw [h.1]; simp, h.2⟩
            rw [hpl2] at hpn ⊢
            clear hb5 hl5 hl5a hr5 hm5 hn5 t5 u5 hmm hpl2 HO2 hk5 HJ4 HRECS HBASE HPL
            go_wp2_with (go_at_call 17; refine HS.out.mono ?_; rintro e w6 ⟨rfl, nq, rfl⟩)
            have HI6 := Lib.hid (HJ5.out.below (below_drewN (Below.refl _ _) nq))
            rw [HPLEN.out] at HI6
            clear HJ5 HS
            go_loopw [12, 19] (fun v i wr => ∃ (A K U q : Nat) (xs : List (List UInt8)) (vv : Value), vv = v ∧ i = .int .i64 q ∧ q ≤ k ∧ A ≤ 402 + 2 * q ∧ K ≤ q ∧ U ≤ 100000 + 20005 * q ∧ xs.length ≤ 53000000 + q ∧ Hid (RowJ True r2 l2 pre w1 wr jb2 db fb gb A K U vv 0 xs)) (fun _ i _ => k - (intOf i).toNat)
            case atStart => exact ⟨_, 0, _, 0, pre, _, rfl, rfl, Nat.zero_le _, by omega, Nat.zero_le _, by omega, by rw [HPLEN.out]; exact hpn, HI6⟩
            case round =>
              clear HI6
              obtain ⟨A, K, U, q, xs, vv, rfl, rfl, hq, hA, hK, hU, hxs, HI⟩ := hrel
              have HL2b := HL2.out
              by_cases hlt2 : q < k
              · obtain ⟨s, hs⟩ : ∃ s, rs[q]? = some s := ⟨_, List.getElem?_eq_getElem (by rw [Hl.out]; exact hlt2)⟩
                obtain ⟨ad, rfl, hcell, hss⟩ := (HX.out.below (HB1.out.trans (HI.out.low.mono HB1.out.size))) q s hs
                have HADD := Lib.hid (HI.out.add HBASE2.out.1 (x := s) (by omega) (by omega) hss)
                have HSL : Hid (s.length ≤ 20000) := HM4.out q s hlt2 hs
                have HLEN : Hid (xs.length ≤ 53001000) := by show _ ≤ _; omega
                have HCELL : Hid (∀ wz, Below w1.heap.size w1 wz → wz.cell? (ad.add q) = some (.string (strB s))) := fun wz hz => by
                  obtain ⟨ad2, e, hc, _⟩ := (HX.out.below (HB1.out.trans (hz.mono HB1.out.size))) q s hs
                  injection e with e
                  rw [e]
                  exact hc
                have hszm : (strB s).size ≤ 9223372036854775807 := by rw [strB_size]; unfold maxLen at hss; omega
                have HLB : Hid (l2 ≤ 10000000000000000) := by show _ ≤ _; omega
                clear hs hss HL2b
                go_wp2_with fail
                refine HADD.out.mono ?_
                rintro e w7 ⟨ec, rfl, hcase⟩
                clear HADD HI
                rcases hcase with ⟨rfl, hlen, HA3⟩ | ⟨hne, hcode, HJ3⟩
                · have hc3 := HCELL.out w7 HA3.out.low
                  have g4 : decide (((strB s).size : Int) ≤ 4096) = true := by rw [strB_size]; simp; omega
                  have HO3 : Hid ((w7.alloc (.cells #[.string (strB s)] 9)).ownsRow w1.heap.size 9 1 vv xs.length (recCells xs)) := by
                    obtain ⟨_, _, _, _, _, _, t1, _⟩ := HA3.out
                    exact t1.1.alloc _
                  have HA4 := Lib.hid (HA3.out.below ((Below.refl _ _).alloc (Nat.le_refl _) (.cells #[.string (strB s)] 9)))
                  have hbz : Hid (w1.heap.size ≤ (w7.alloc (.cells #[.string (strB s)] 9)).heap.size) := HA4.out.low.size
                  clear HA3
                  go_wp2_with (first
                    | (at_builtin; refine wpList_append_own_at _ rfl (.tmp 139) (.tmp 144) 32 rfl w1.heap.size 9 i0 (.string .empty) 1 16 Tryz.underlying32 hi hi0 hi1 hi2 rfl (by decide) _ _ _ rfl HO3.out ⟨w7.heap.size, 0, none⟩ 1 1 (recCells [s]) rfl rfl (vals_new w7 _ _ _ _ rfl) (recCells_one _) (by have := HLEN.out; unfold maxLen; omega) (by have := HLEN.out; omega) hbz.out ?_; intro v4 w8 hown4 hgrow4 _ hat4; have HJ4 := Lib.hid (RowA.append HA4.out hown4 hgrow4 hat4); clear hown4 hgrow4 hat4))
                  go_roundw
                  case rel =>
                    have h1 := HSL.out
                    exact ⟨_, _, _, q + 1, xs ++ [s], _, rfl, by go_num, by omega, by omega, by omega, by omega, by rw [List.length_append]; show _ + 1 ≤ _; omega, HJ4⟩
                  case measure => simp [intOf]; omega
                · have hc3 := HCELL.out w7 HJ3.out.low
                  have h2 := hcode trivial (by have := HSL.out; omega)
                  clear hcode hne
                  by_cases h4 : (strB s).size ≤ 4096
                  · have g4 : decide (((strB s).size : Int) ≤ 4096) = true := by simp; omega
                    rcases h2 with rfl | rfl
                    all_goals
                      go_wp2_with fail
                      go_roundw
                      case rel =>
                        have h1 := HSL.out
                        exact ⟨_, _, _, q + 1, xs, _, rfl, by go_num, by omega, by omega, by omega, by omega, by omega, HJ3⟩
                      case measure => simp [intOf]; omega
                  · have g4 : decide (((strB s).size : Int) ≤ 4096) = false := by simp; omega
                    rcases h2 with rfl | rfl
                    all_goals
                      go_wp2_with fail
                      go_roundw
                      case rel =>
                        have h1 := HSL.out
                        exact ⟨_, _, _, q + 1, xs, _, rfl, by go_num, by omega, by omega, by omega, by omega, by omega, HJ3⟩
                      case measure => simp [intOf]; omega
              · have HOP := Lib.hid (HI.out.opens HBASE2.out.1 HBASE2.out.2.1 (by omega))
                obtain ⟨va, vc, rfl⟩ := HI.out.form
                rw [HBASE2.out.2.2, HPB.out, HPT.out] at HOP
                clear HI
                go_wp2_with fail
                refine HOP.out.mono ?_
                rintro e w9 ⟨jb9, ra9, rc9, r9, l9, rfl, hb9, hl9, hr9, hk9, hm9, hn9, ⟨own9, t9, u9⟩, HJ9⟩
                have hmm : ∀ x ∈ xs, x.length ≤ maxLen := fun x hx => by have := hm9 x hx; unfold maxLen; omega
                have HS9 : Hid (Calls Tryz.prog 17 #[.slice ra9 xs.length rc9, .slice va xs.length vc] w9 fun e w' => e = .returned (.bool true) ∧ ∃ n, w' = w9.drewN n) :=
                  (same_calls w9 ra9 va rc9 vc xs xs (t9.trow hmm) (u9.trow hmm) (by unfold maxLen; omega) (by unfold maxLen; omega)).mono fun e w' h => ⟨by rw [h.1]; simp, h.2⟩
                have HB9 := Lib.hid (HB1.out.trans (HJ9.out.low.mono HB1.out.size))
                obtain ⟨xl, hxl⟩ : ∃ xl, xs.length = xl := ⟨_, rfl⟩
                rw [hxl] at HS9 hxs ⊢
                clear hb9 hl9 hr9 hk9 hm9 hn9 t9 u9 hmm HJ9 HOP hxl
                go_wp2_with (go_at_call 17; refine HS9.out.mono ?_; rintro e w10 ⟨rfl, nq2, rfl⟩)
                go_ret
                exact ⟨rfl, HB9.out.trans (below_drewN (Below.refl _ _) _ |>.mono HB9.out.size)⟩

end Go.Proofs.YtdpbnacabinlgaaGreatDoor
namespace Go.Proofs.YtdpbnacabinlgaaGreatDoor
open Go.ChangeShapes Go.WideShapes Go.ChangeAt Go.RowKit Go.Lib Go.Deep Go.Joins
open Go.ChangeMaps (open_string shut_string)

namespace journalAgain
set_option maxRecDepth 100000 in
theorem lifted (os : Os) (started : os.Started) (H : Type) (enc : TypeId × Value → H) :
    ReturnsInHanded {} Tryz.checked os 5 .any (fun w args => (Rows.journalAgainSpec.pre enc Tryz.prog Tryz.f5 [] false w args ∧ laidMetH Tryz.prog laidX w) ∧ sizedMet enc Tryz.prog Tryz.f5 (OpenSpec.ofChange Rows.journalAgainSpec) false w args)
      (Rows.journalAgainSpec.post enc Tryz.prog Tryz.f5 false true false false) := by
  refine returnsInHanded_of_change_and (C := Tryz.checked) (X := fun w _ => laidMetH Tryz.prog laidX w) (fun _ _ _ hh h => h.of_heap hh) xown_ started (by kernel_rfl) Tryz.func5
    (ChangeSpec.witness_shaped (enc := enc) (C := Tryz.checked) (os := os) (X := fun w _ => laidMetH Tryz.prog laidX w) false (World.doorLaid Tryz.prog 62 os) #[.slice none 0 0, .slice none 0 0] 8 rfl (World.shaped_of_RefB (by kernel_rfl) (by kernel_rfl)) (by kernel_rfl) (by kernel_rfl) (by kernel_rfl) (xdoor_met os _)) ?_
  intro W base args ds gs before hval0 hW _ _ hL _
  have hT := vars_of_laid hL
  have hval : ∀ (j : Nat) t v, Tryz.f5.params[j]? = some t → args[j]? = some v → Value.okWide Tryz.prog W .any base t v := hval0
  have hW' := hW
  obtain ⟨p, q, hA0, hV, rfl, _, _⟩ := hW
  have hA : DataW.TrodAll enc Tryz.prog W 0 (fun _ => true) true Tryz.f5.params.toList args.toList ds p := hA0
  rw [Tryz.params5] at hA hval
  obtain ⟨v0, vs0, d0, ds0, p0, q0, hargs, rfl, rfl, h0, r0⟩ := trodAll_cons hA
  obtain ⟨v1, vs1, d1, ds1, p1, q1, rfl, rfl, rfl, h1, r1⟩ := trodAll_cons r0
  obtain ⟨rfl, rfl, rfl⟩ := trodAll_nil r1
  obtain rfl : args = #[v0, v1] := by cases args; simp_all
  obtain ⟨rfl, rfl⟩ := trodVars_none hV
  have lt0 : ∀ x ∈ p0, x.block < W.heap.size := by obtain ⟨m, hm⟩ := h0; exact DataW.trod_lt m _ _ _ hm
  have lt1 : ∀ x ∈ p1, x.block < W.heap.size := by obtain ⟨m, hm⟩ := h1; exact DataW.trod_lt m _ _ _ hm
  have k_0 := h0
  have k_1 := h1
  obtain ⟨a0, l0, c0, rfl⟩ := okWide_slice Tryz.underlying22 (hval 0 22 v0 rfl rfl)
  obtain ⟨m0, hm0⟩ := h0
  obtain ⟨ls0, rfl, hll0, hls0⟩ := open_logs hm0
  obtain ⟨a1, l1, c1, rfl⟩ := okWide_slice Tryz.underlying32 (hval 1 32 v1 rfl rfl)
  obtain ⟨m1, hm1⟩ := h1
  obtain ⟨rs1, rfl, hrs1, hl1⟩ := open_texts hm1
  clear hA0 hval0
  refine (again_walk hT a0 c0 ls0 hls0 hll0 a1 c1 rs1 hrs1 hl1).mono fun e W' ⟨he, bel⟩ => ?_
  subst he
  exact ⟨_, rfl, _, _, _, [], _, [], hW', trodAll_mk1 (shut_bool Tryz.underlying4 _), (trodAll_cons_mk (Below.trod xlaidOut (by kernel_rfl) (of_decide_eq_true (by kernel_rfl)) k_0 bel lt0) (trodAll_cons_mk (Below.trod xlaidOut (by kernel_rfl) (of_decide_eq_true (by kernel_rfl)) k_1 bel lt1) trodAll_mk0)), rfl, bel.frame _, fun h => by cases h⟩

theorem row_holds : Rows.JournalAgainSaid :=
  OpenClaim.holds_of_wide 5 Tryz.f5 rfl rfl rfl rfl rfl rfl rfl ⟨rfl, rfl, rfl, rfl, rfl⟩ rfl rfl rfl rfl rfl (by kernel_rfl) Tryz.func5 (by kernel_rfl)
    (of_decide_eq_true (by kernel_rfl)) (by unfold Func.isWrapper; first | (rw [if_pos (by decide +kernel)]; kernel_rfl) | (rw [if_neg (by decide +kernel)]; exact ⟨rfl, rfl⟩))
    (fun os started H enc _ => lifted os started H enc)

theorem holds : Rows.JournalAgainCardSaid :=
  Claim7.holds_tied_plain_at .later [] [.data, .data, .data, .sentinel, .sentinel] true _ true row_holds (fun _ h => by cases h) (by kernel_rfl) (fun _ h => by cases h) journalAgain_row_tie rfl ⟨rfl, rfl⟩ (by kernel_rfl) rfl
    (fun f fn hf hfn => by
      obtain rfl : f = 5 := Option.some.inj ((show Tryz.prog.funcNamed "augury/augurylaw03.JournalAgain" = some 5 by kernel_rfl).symm.trans hf) |>.symm
      obtain rfl : fn = Tryz.f5 := (Option.some.inj (Tryz.func5.symm.trans hfn)).symm
      exact ⟨by kernel_rfl, fun j t ht => by
        rw [Tryz.params5] at ht
        have hm : t ∈ [22, 32] := by simpa using Array.mem_of_getElem? ht
        have hall : ([22, 32].all fun u => !Tryz.prog.wantsStandIn u) = true := by kernel_rfl
        exact (show Tryz.prog.wantsStandIn t = false by simpa using List.all_eq_true.1 hall t hm)⟩)
    (by kernel_rfl)
end journalAgain
end Go.Proofs.YtdpbnacabinlgaaGreatDoor

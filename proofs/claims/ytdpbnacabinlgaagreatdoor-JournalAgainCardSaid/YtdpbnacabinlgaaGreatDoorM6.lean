/- The document's own device: files but for one; files with one in its place. | The document's own device: files with one more, in its place. | The document's own device: put. | The document's own device: in memory; its small functions. | The document's own device: power, did, Fuse, New, Used; how many bytes of a file are kept. -/
import Derived.Test.YtdpbnacabinlgaaGreatDoorM5
import Derived.Sort.Walk0
namespace Go.Proofs.YtdpbnacabinlgaaGreatDoor
open Go.RowKit Go.Lib Go.Maps Go.ChangeMaps Go.Sort

theorem rf_new (w : World) (f : RF) : ∀ j u, f.cells[j]? = some u → (w.alloc (.cells #[.string f.name, .slice f.da f.data.length f.dc, .int .i64 f.done, .bool f.there] 87)).cell? ((⟨w.heap.size, 0, none⟩ : Addr).add j) = some u := by
  intro j u hu
  have hadd : (⟨w.heap.size, 0, none⟩ : Addr).add j = ⟨w.heap.size, j, none⟩ := by unfold Addr.add; split <;> simp_all
  rw [hadd]
  refine cell_of_blk (heap_alloc_new w _) ?_
  simpa [RF.cells] using hu

def withoutL (fs : List RF) (nm : List UInt8) : List RF := fs.filter fun f => !(f.nm == nm)

theorem withoutL_take {fs : List RF} {nm : List UInt8} {k : Nat} {f : RF} (h : fs[k]? = some f) : withoutL (fs.take (k + 1)) nm = if f.nm = nm then withoutL (fs.take k) nm else withoutL (fs.take k) nm ++ [f] := by
  rw [List.take_add_one, h]
  simp only [withoutL, List.filter_append, Option.toList_some]
  by_cases e : f.nm = nm <;> simp [e]

/-- Files in new memory. -/
def FilesPost (w : World) (own : Owner) (fs : List RF) (e : Ending) (w' : World) : Prop := ∃ a c, e = .returned (.slice a fs.length c) ∧ FRow w' own a fs ∧ Below w.heap.size w w'

set_option maxHeartbeats 2000000 in
set_option maxRecDepth 100000 in
theorem rwithout_calls (w : World) (own : Owner) (a : Option Addr) (c : Nat) (fs : List RF) (name : ByteArray) (h : FRow w own a fs) (hl : fs.length ≤ 1000000) (ho : ∀ b, w.heap.size ≤ b → own b = none) :
    Calls Tryz.prog 85 #[.slice a fs.length c, .string name] w (FilesPost w own (withoutL fs name.data.toList)) := by
  obtain ⟨i0, hi, hz0, hz1, hz2⟩ := info_parts infoRF
  have H := Lib.hid h
  have Ho := Lib.hid ho
  obtain ⟨l, hll⟩ : ∃ l, fs.length = l := ⟨_, rfl⟩
  rw [hll] at hl ⊢
  have Hl := Lib.hid hll
  clear h ho hll
  go_enter Tryz.func85, Tryz.ntmps85
  go_wp2
  go_loopw [5, 6] (fun v i wr => ∃ k : Nat, k ≤ l ∧ i = .int .i64 k ∧ Hid (wr.ownsRow w.heap.size 87 4 v (withoutL (fs.take k) name.data.toList).length (rfCells (withoutL (fs.take k) name.data.toList))) ∧ Hid (Below w.heap.size w wr)) (fun _ i _ => l - (intOf i).toNat)
  case atStart => exact ⟨0, Nat.zero_le _, rfl, World.ownsRow_nil _ _ _ _, Below.refl _ _⟩
  case round =>
    obtain ⟨k, hk, rfl, Hown, Hb⟩ := hrel
    by_cases hlt : k < l
    · obtain ⟨f, hf⟩ : ∃ f, fs[k]? = some f := ⟨_, List.getElem?_eq_getElem (by rw [Hl.out]; exact hlt)⟩
      obtain ⟨A, rfl, _, hat⟩ := (H.out.below Hb.out) k f hf
      have hw := withoutL_take (nm := name.data.toList) hf
      have c0 := hat.c0
      by_cases he : f.nm = name.data.toList
      · have ht : (f.name.toList == name.toList) = true := by rw [toL_eq', toL_eq']; exact beq_iff_eq.2 he
        rw [if_pos he] at hw
        have Hw := Lib.hid hw
        clear hf hat he hw
        go_wp2
        go_roundw
        case rel => exact ⟨k + 1, by omega, by go_num, by rw [Hw.out]; exact Hown, Hb⟩
        case measure => simp [intOf]; omega
      · have ht : (f.name.toList == name.toList) = false := by rw [toL_eq', toL_eq']; exact beq_eq_false_iff_ne.2 he
        rw [if_neg he] at hw
        have Hw := Lib.hid hw
        have c1 := hat.c1
        have c2 := hat.c2
        have c3 := hat.c3
        unfold fld at c1 c2 c3
        have hcnt : (withoutL (fs.take k) name.data.toList).length + 1 ≤ 1000001 := by
          have h1 : (withoutL (fs.take k) name.data.toList).length ≤ (fs.take k).length := List.length_filter_le _ _
          have h2 := List.length_take_le k fs
          omega
        have HO2 := Lib.hid (Hown.out.alloc (.cells #[.string f.name, .slice f.da f.data.length f.dc, .int .i64 f.done, .bool f.there] 87))
        have HB2 := Lib.hid (Hb.out.alloc Hb.out.size (.cells #[.string f.name, .slice f.da f.data.length f.dc, .int .i64 f.done, .bool f.there] 87))
        clear hf hat he hw
        go_wp2_with (first
          | (at_builtin; refine wpList_append_own _ rfl (.tmp 20) (.tmp 25) 82 rfl w.heap.size 87 i0 (.agg #[.string .empty, .slice none 0 0, .int .i64 0, .bool false]) 4 56 Tryz.underlying82 hi hz0 hz1 hz2 rfl (by decide) _ _ _ rfl HO2.out ⟨wr.heap.size, 0, none⟩ 1 1 f.cells rfl rfl (rf_new wr f) (rf_oneCell f) (by unfold maxLen; omega) (by omega) HB2.out.size ?_; intro v3 w3 hown3 hgrow3 hnil3))
        have HB3 := Lib.hid (HB2.out.grown hgrow3 HB2.out.size (fun q hq => (HO2.out.lt q hq).1))
        have hown4 : w3.ownsRow w.heap.size 87 4 v3 (withoutL (fs.take (k + 1)) name.data.toList).length (rfCells (withoutL (fs.take (k + 1)) name.data.toList)) := by
          rw [Hw.out, List.length_append, rfCells_append, rfCells_one]
          exact hown3
        have HO4 := Lib.hid hown4
        clear hown3 hgrow3 hnil3 hown4
        go_wp2_with fail
        go_roundw
        case rel => exact ⟨k + 1, by omega, by go_num, HO4, HB3⟩
        case measure => simp [intOf]; omega
    · have hfin : fs.take k = fs := by rw [show k = l by omega, ← Hl.out]; exact List.take_length
      have h1 := Hown.out
      rw [hfin] at h1
      have hgood := (H.out.below Hb.out).good
      obtain ⟨a1, c1, hv, hrow, _⟩ := FRow.of_owns (own := own) h1 Ho.out (fun f hf => hgood f (List.mem_filter.1 hf).1)
      subst hv
      have Hrow := Lib.hid hrow
      clear h1 hgood hrow hfin
      go_wp2
      go_ret
      exact ⟨a1, c1, rfl, Hrow.out, Hb.out⟩

end Go.Proofs.YtdpbnacabinlgaaGreatDoor
namespace Go.Proofs.YtdpbnacabinlgaaGreatDoor
open Go.RowKit Go.Lib Go.Maps Go.ChangeMaps Go.Sort

def stepP (x : RF) (p : List RF × Bool) (f : RF) : List RF × Bool :=
  let q : List RF × Bool := if !p.2 && !decide (f.nm < x.nm) then (p.1 ++ [x], true) else p
  if f.nm = x.nm then q else (q.1 ++ [f], q.2)
def putP (x : RF) (fs : List RF) : List RF × Bool := fs.foldl (stepP x) ([], false)
def putL (fs : List RF) (x : RF) : List RF := if (putP x fs).2 then (putP x fs).1 else (putP x fs).1 ++ [x]

theorem putP_take {x : RF} {fs : List RF} {k : Nat} {f : RF} (h : fs[k]? = some f) : putP x (fs.take (k + 1)) = stepP x (putP x (fs.take k)) f := by
  rw [List.take_add_one, h]
  simp [putP, List.foldl_append]

theorem stepP_len (x : RF) (p : List RF × Bool) (f : RF) : (stepP x p f).1.length ≤ p.1.length + 2 := by
  unfold stepP
  split
  · split <;> simp
  · split <;> simp
theorem putP_len (x : RF) (fs : List RF) : ∀ k, (putP x (fs.take k)).1.length ≤ 2 * k
  | 0 => by simp [putP]
  | k + 1 => by
    have ih := putP_len x fs k
    cases h : fs[k]? with
    | none =>
      have : fs.take (k + 1) = fs.take k := by rw [List.take_add_one, h]; simp
      rw [this]
      omega
    | some f =>
      rw [putP_take h]
      have := stepP_len x (putP x (fs.take k)) f
      omega

theorem stepP_mem (x : RF) (p : List RF × Bool) (f : RF) : ∀ g ∈ (stepP x p f).1, g ∈ p.1 ∨ g = x ∨ g = f := by
  intro g hg
  unfold stepP at hg
  dsimp only at hg
  by_cases h1 : (!p.2 && !decide (f.nm < x.nm)) = true
  · rw [if_pos h1] at hg
    by_cases h2 : f.nm = x.nm
    · rw [if_pos h2] at hg
      rcases List.mem_append.1 hg with h | h
      · exact Or.inl h
      · exact Or.inr (Or.inl (by simpa using h))
    · rw [if_neg h2] at hg
      rcases List.mem_append.1 hg with h | h
      · rcases List.mem_append.1 h with h | h
        · exact Or.inl h
        · exact Or.inr (Or.inl (by simpa using h))
      · exact Or.inr (Or.inr (by simpa using h))
  · rw [if_neg h1] at hg
    by_cases h2 : f.nm = x.nm
    · rw [if_pos h2] at hg
      exact Or.inl hg
    · rw [if_neg h2] at hg
      rcases List.mem_append.1 hg with h | h
      · exact Or.inl h
      · exact Or.inr (Or.inr (by simpa using h))

theorem putP_mem (x : RF) : ∀ (fs : List RF) (p : List RF × Bool), ∀ g ∈ (fs.foldl (stepP x) p).1, g ∈ p.1 ∨ g = x ∨ g ∈ fs
  | [], p, g, hg => Or.inl hg
  | f :: fs, p, g, hg => by
    rcases putP_mem x fs (stepP x p f) g hg with h | h | h
    · rcases stepP_mem x p f g h with h | h | h
      · exact Or.inl h
      · exact Or.inr (Or.inl h)
      · exact Or.inr (Or.inr (by simp [h]))
    · exact Or.inr (Or.inl h)
    · exact Or.inr (Or.inr (by simp [h]))

theorem putL_mem {x : RF} {fs : List RF} : ∀ g ∈ putL fs x, g = x ∨ g ∈ fs := by
  intro g hg
  unfold putL at hg
  have h0 : ∀ g ∈ (putP x fs).1, g = x ∨ g ∈ fs := fun g hg => by
    rcases putP_mem x fs ([], false) g hg with h | h | h
    · cases h
    · exact Or.inl h
    · exact Or.inr h
  split at hg
  · exact h0 g hg
  · rcases List.mem_append.1 hg with h | h
    · exact h0 g h
    · exact Or.inl (by simpa using h)

def rfVal (f : RF) : Value := .agg #[.string f.name, .slice f.da f.data.length f.dc, .int .i64 f.done, .bool f.there]
def rfObj (f : RF) : Obj := .cells #[.string f.name, .slice f.da f.data.length f.dc, .int .i64 f.done, .bool f.there] 87

/-- A file in a block of its own. -/
structure BoxAt (w : World) (b : Nat) (x : RF) : Prop where
  b0 : w.cell? ⟨b, 0, none⟩ = some (.string x.name)
  b1 : w.cell? ⟨b, 1, none⟩ = some (.slice x.da x.data.length x.dc)
  b2 : w.cell? ⟨b, 2, none⟩ = some (.int .i64 x.done)
  b3 : w.cell? ⟨b, 3, none⟩ = some (.bool x.there)

theorem BoxAt.new (w : World) (x : RF) : BoxAt (w.alloc (rfObj x)) w.heap.size x := ⟨cell_of_blk (heap_alloc_new w _) rfl, cell_of_blk (heap_alloc_new w _) rfl, cell_of_blk (heap_alloc_new w _) rfl, cell_of_blk (heap_alloc_new w _) rfl⟩
theorem BoxAt.below {w w' : World} {B b : Nat} {x : RF} (h : BoxAt w b x) (hb : Below B w w') (hlt : b < B) : BoxAt w' b x :=
  ⟨(hb.cell (p := ⟨b, 0, none⟩) hlt).trans h.b0, (hb.cell (p := ⟨b, 1, none⟩) hlt).trans h.b1, (hb.cell (p := ⟨b, 2, none⟩) hlt).trans h.b2, (hb.cell (p := ⟨b, 3, none⟩) hlt).trans h.b3⟩

theorem FRow.at {w : World} {own : Owner} {A : Addr} {fs : List RF} (h : FRow w own (some A) fs) {k : Nat} {f : RF} (hf : fs[k]? = some f) : FAt w own A k f := by
  obtain ⟨A', e, _, h1⟩ := h k f hf
  injection e with e
  rw [e]
  exact h1

theorem stepP_keep {x : RF} {p : List RF × Bool} {f : RF} (h : p.2 = true ∨ f.nm < x.nm) : stepP x p f = if f.nm = x.nm then p else (p.1 ++ [f], p.2) := by
  have hq : (!p.2 && !decide (f.nm < x.nm)) = false := by rcases h with h | h <;> simp [h]
  unfold stepP
  rw [hq]
  rfl
theorem stepP_ins {x : RF} {p : List RF × Bool} {f : RF} (h : p.2 = false) (h2 : ¬ f.nm < x.nm) : stepP x p f = if f.nm = x.nm then (p.1 ++ [x], true) else (p.1 ++ [x] ++ [f], true) := by
  have hq : (!p.2 && !decide (f.nm < x.nm)) = true := by simp [h, h2]
  unfold stepP
  rw [hq]
  rfl

theorem FGood.below {w w' : World} {own : Owner} {f : RF} (h : FGood w own f) (hb : Below w.heap.size w w') : FGood w' own f := h.step (below_step own hb)

theorem drew_owns {w w1 : World} {n B t s c : Nat} {v : Value} {cs : List Value} (h : Hid (w.ownsRow B t s v c cs)) (hw : w1 = w.drewN n) : Hid (w1.ownsRow B t s v c cs) := by
  rw [hw]
  exact h
theorem drew_belowH {w0 w w1 : World} {n B : Nat} (h : Hid (Below B w0 w)) (hw : w1 = w.drewN n) : Hid (Below B w0 w1) := by
  rw [hw]
  exact below_drewN h.out _

end Go.Proofs.YtdpbnacabinlgaaGreatDoor
namespace Go.Proofs.YtdpbnacabinlgaaGreatDoor
open Go.RowKit Go.Lib Go.Maps Go.ChangeMaps Go.Sort

set_option maxHeartbeats 8000000 in
set_option maxRecDepth 100000 in
theorem rput_calls (w : World) (own : Owner) (a : Option Addr) (c : Nat) (fs : List RF) (x : RF) (h : FRow w own a fs) (hl : fs.length ≤ 1000000) (hx : FGood w own x) (ho : ∀ b, w.heap.size ≤ b → own b = none) :
    Calls Tryz.prog 42 #[.slice a fs.length c, rfVal x] w (FilesPost w own (putL fs x)) := by
  obtain ⟨i0, hi, hz0, hz1, hz2⟩ := info_parts infoRF
  have H := Lib.hid h
  have Hx := Lib.hid hx
  have Ho := Lib.hid ho
  obtain ⟨l, hll⟩ : ∃ l, fs.length = l := ⟨_, rfl⟩
  rw [hll] at hl ⊢
  have Hl := Lib.hid hll
  obtain ⟨w0, hw0⟩ : ∃ w0, w0 = w.alloc (rfObj x) := ⟨_, rfl⟩
  have hbox : BoxAt w0 w.heap.size x := by rw [hw0]; exact BoxAt.new w x
  have hb0 : Below w.heap.size w w0 := by rw [hw0]; exact (Below.refl _ _).alloc (Nat.le_refl _) _
  have hlt0 : w.heap.size < w0.heap.size := by rw [hw0]; simp
  have Hbox := Lib.hid hbox
  have HB0 := Lib.hid hb0
  have Hlt0 := Lib.hid hlt0
  have Hw0 : Hid (w.alloc (.cells #[.string x.name, .slice x.da x.data.length x.dc, .int .i64 x.done, .bool x.there] 87) = w0) := hw0.symm
  unfold rfVal
  clear h hx ho hll hbox hb0 hlt0 hw0
  go_enter Tryz.func42, Tryz.ntmps42
  go_wp2
  rw [Hw0.out]
  go_loopw [5, 6, 7] (fun v dn i wr => ∃ (k : Nat) (g : Bool), k ≤ l ∧ i = .int .i64 k ∧ dn = .bool g ∧ Hid ((putP x (fs.take k)).2 = g) ∧ Hid (wr.ownsRow w0.heap.size 87 4 v (putP x (fs.take k)).1.length (rfCells (putP x (fs.take k)).1)) ∧ Hid (Below w0.heap.size w0 wr)) (fun _ _ i _ => l - (intOf i).toNat)
  case atStart => exact ⟨0, false, Nat.zero_le _, rfl, rfl, rfl, World.ownsRow_nil _ _ _ _, Below.refl _ _⟩
  case round =>
    obtain ⟨k, g, hk, rfl, rfl, Hg, Hown, Hb⟩ := hrel
    by_cases hlt : k < l
    · obtain ⟨f, hf⟩ : ∃ f, fs[k]? = some f := ⟨_, List.getElem?_eq_getElem (by rw [Hl.out]; exact hlt)⟩
      have hbw : Below w.heap.size w wr := HB0.out.trans (Hb.out.mono (by have := Hlt0.out; omega))
      obtain ⟨A, rfl, _, hat⟩ := (H.out.below hbw) k f hf
      have hbox := Hbox.out.below Hb.out Hlt0.out
      have hstep := putP_take (x := x) hf
      have hlen := putP_len x fs k
      obtain ⟨P, hP⟩ : ∃ P, putP x (fs.take k) = P := ⟨_, rfl⟩
      rw [hP] at Hg Hown hstep hlen
      have hg2 : P.2 = g := Hg.out
      have hbl : Op.bytesLess f.name.toList x.name.toList = decide (f.nm < x.nm) := by rw [bytesLess_eq, toL_eq', toL_eq']; rfl
      have hlen2 : P.1.length ≤ 2000000 := by omega
      have c0 := hat.c0
      have c1 := hat.c1
      have c2 := hat.c2
      have c3 := hat.c3
      unfold fld at c1 c2 c3
      have b0 := hbox.b0
      have b1 := hbox.b1
      have b2 := hbox.b2
      have b3 := hbox.b3
      have hk1 : (k : Int) < (l : Int) := by omega
      have hk0 : (0 : Int) ≤ (k : Int) := by omega
      have Hf := Lib.hid hf
      clear hf hP hlen hat hbox
      by_cases hq2 : f.nm = x.nm
      · cases g with
        | true =>
          have hq1 : True := trivial
          have Hst : Hid (putP x (fs.take (k + 1)) = (P.1, true)) := by
            show _ = _
            rw [hstep, stepP_keep (Or.inl hg2), if_pos hq2]
            exact Prod.ext rfl hg2
          have hte : (f.name.toList == x.name.toList) = true := by rw [toL_eq', toL_eq']; exact beq_iff_eq.2 hq2
          clear hstep hbl hg2 hq1 hq2
          go_wp2_with fail
          go_quiet (fail)
          obtain ⟨w1, hw1⟩ : ∃ w1, w1 = wr.drewN nq := ⟨_, rfl⟩
          rw [← hw1]
          have HB1 := drew_belowH Hb hw1
          have HO1 := drew_owns Hown hw1
          clear c0 c1 c2 c3 b0 b1 b2 b3 hw1
          have hat1 := (H.out.below (HB0.out.trans (HB1.out.mono (Nat.le_of_lt Hlt0.out)))).at Hf.out
          have hbox1 := Hbox.out.below HB1.out Hlt0.out
          have c0 := hat1.c0
          have c1 := hat1.c1
          have c2 := hat1.c2
          have c3 := hat1.c3
          unfold fld at c1 c2 c3
          have b0 := hbox1.b0
          have b1 := hbox1.b1
          have b2 := hbox1.b2
          have b3 := hbox1.b3
          clear hat1 hbox1
          go_wp2_with fail
          go_quiet (fail)
          obtain ⟨w3, hw3⟩ : ∃ w3, w3 = w1.drewN nq := ⟨_, rfl⟩
          rw [← hw3]
          have HB3 := drew_belowH HB1 hw3
          have HO3 := drew_owns HO1 hw3
          clear c0 c1 c2 c3 b0 b1 b2 b3 hw3
          go_wp2_with fail
          go_roundw
          case rel => exact ⟨k + 1, true, by omega, by go_num, rfl, by rw [Hst.out]; rfl, by rw [Hst.out]; first | exact HO3 | (rw [List.length_append]; exact HO3), HB3⟩
          case measure => simp [intOf]; omega
        | false =>
          by_cases hq1 : f.nm < x.nm
          · have htl : Op.bytesLess f.name.toList x.name.toList = true := by rw [hbl]; simpa using hq1
            have Hst : Hid (putP x (fs.take (k + 1)) = (P.1, false)) := by
              show _ = _
              rw [hstep, stepP_keep (Or.inr hq1), if_pos hq2]
              exact Prod.ext rfl hg2
            have hte : (f.name.toList == x.name.toList) = true := by rw [toL_eq', toL_eq']; exact beq_iff_eq.2 hq2
            clear hstep hbl hg2 hq1 hq2
            go_wp2_with fail
            go_quiet (fail)
            obtain ⟨w1, hw1⟩ : ∃ w1, w1 = wr.drewN nq := ⟨_, rfl⟩
            rw [← hw1]
            have HB1 := drew_belowH Hb hw1
            have HO1 := drew_owns Hown hw1
            clear c0 c1 c2 c3 b0 b1 b2 b3 hw1
            have hat1 := (H.out.below (HB0.out.trans (HB1.out.mono (Nat.le_of_lt Hlt0.out)))).at Hf.out
            have hbox1 := Hbox.out.below HB1.out Hlt0.out
            have c0 := hat1.c0
            have c1 := hat1.c1
            have c2 := hat1.c2
            have c3 := hat1.c3
            unfold fld at c1 c2 c3
            have b0 := hbox1.b0
            have b1 := hbox1.b1
            have b2 := hbox1.b2
            have b3 := hbox1.b3
            clear hat1 hbox1
            go_wp2_with fail
            go_quiet (fail)
            obtain ⟨w3, hw3⟩ : ∃ w3, w3 = w1.drewN nq := ⟨_, rfl⟩
            rw [← hw3]
            have HB3 := drew_belowH HB1 hw3
            have HO3 := drew_owns HO1 hw3
            clear c0 c1 c2 c3 b0 b1 b2 b3 hw3
            go_wp2_with fail
            go_roundw
            case rel => exact ⟨k + 1, false, by omega, by go_num, rfl, by rw [Hst.out]; rfl, by rw [Hst.out]; first | exact HO3 | (rw [List.length_append]; exact HO3), HB3⟩
            case measure => simp [intOf]; omega
          · have htl : Op.bytesLess f.name.toList x.name.toList = false := by rw [hbl]; simpa using hq1
            have Hst : Hid (putP x (fs.take (k + 1)) = (P.1 ++ [x], true)) := by
              show _ = _
              rw [hstep, stepP_ins hg2 hq1, if_pos hq2]
            have hte : (f.name.toList == x.name.toList) = true := by rw [toL_eq', toL_eq']; exact beq_iff_eq.2 hq2
            clear hstep hbl hg2 hq1 hq2
            go_wp2_with fail
            go_quiet (fail)
            obtain ⟨w1, hw1⟩ : ∃ w1, w1 = wr.drewN nq := ⟨_, rfl⟩
            rw [← hw1]
            have HB1 := drew_belowH Hb hw1
            have HO1 := drew_owns Hown hw1
            clear c0 c1 c2 c3 b0 b1 b2 b3 hw1
            have hat1 := (H.out.below (HB0.out.trans (HB1.out.mono (Nat.le_of_lt Hlt0.out)))).at Hf.out
            have hbox1 := Hbox.out.below HB1.out Hlt0.out
            have c0 := hat1.c0
            have c1 := hat1.c1
            have c2 := hat1.c2
            have c3 := hat1.c3
            unfold fld at c1 c2 c3
            have b0 := hbox1.b0
            have b1 := hbox1.b1
            have b2 := hbox1.b2
            have b3 := hbox1.b3
            clear hat1 hbox1
            have HA1 := Lib.hid (HO1.out.alloc (rfObj x))
            have HBA1 := Lib.hid (HB1.out.alloc HB1.out.size (rfObj x))
            unfold rfObj at HA1 HBA1
            go_wp2_with (first
              | (at_builtin; refine wpList_append_own _ rfl (.tmp 26) (.tmp 28) 82 rfl w0.heap.size 87 i0 (.agg #[.string .empty, .slice none 0 0, .int .i64 0, .bool false]) 4 56 Tryz.underlying82 hi hz0 hz1 hz2 rfl (by decide) _ _ _ rfl HA1.out ⟨w1.heap.size, 0, none⟩ 1 1 x.cells rfl rfl (rf_new w1 x) (rf_oneCell x) (by unfold maxLen; omega) (by omega) HBA1.out.size ?_; intro v2 w2 hown2 hgrow2 hnil2))
            have HB2 := Lib.hid (HBA1.out.grown hgrow2 HBA1.out.size (fun q hq => (HA1.out.lt q hq).1))
            have HO2 : Hid (w2.ownsRow w0.heap.size 87 4 v2 (P.1.length + 1) (rfCells (P.1 ++ [x]))) := by rw [rfCells_append, rfCells_one]; exact hown2
            clear hown2 hgrow2 hnil2 c0 c1 c2 c3 b0 b1 b2 b3
            have hat2 := (H.out.below (HB0.out.trans (HB2.out.mono (Nat.le_of_lt Hlt0.out)))).at Hf.out
            have hbox2 := Hbox.out.below HB2.out Hlt0.out
            have c0 := hat2.c0
            have c1 := hat2.c1
            have c2 := hat2.c2
            have c3 := hat2.c3
            unfold fld at c1 c2 c3
            have b0 := hbox2.b0
            have b1 := hbox2.b1
            have b2 := hbox2.b2
            have b3 := hbox2.b3
            clear hat2 hbox2
            go_wp2_with fail
            go_quiet (fail)
            obtain ⟨w3, hw3⟩ : ∃ w3, w3 = w2.drewN nq := ⟨_, rfl⟩
            rw [← hw3]
            have HB3 := drew_belowH HB2 hw3
            have HO3 := drew_owns HO2 hw3
            clear c0 c1 c2 c3 b0 b1 b2 b3 hw3
            go_wp2_with fail
            go_roundw
            case rel => exact ⟨k + 1, true, by omega, by go_num, rfl, by rw [Hst.out]; rfl, by rw [Hst.out]; first | exact HO3 | (rw [List.length_append]; exact HO3), HB3⟩
            case measure => simp [intOf]; omega
      · cases g with
        | true =>
          have hq1 : True := trivial
          have Hst : Hid (putP x (fs.take (k + 1)) = (P.1 ++ [f], true)) := by
            show _ = _
            rw [hstep, stepP_keep (Or.inl hg2), if_neg hq2, hg2]
          have hte : (f.name.toList == x.name.toList) = false := by rw [toL_eq', toL_eq']; exact beq_eq_false_iff_ne.2 hq2
          clear hstep hbl hg2 hq1 hq2
          go_wp2_with fail
          go_quiet (fail)
          obtain ⟨w1, hw1⟩ : ∃ w1, w1 = wr.drewN nq := ⟨_, rfl⟩
          rw [← hw1]
          have HB1 := drew_belowH Hb hw1
          have HO1 := drew_owns Hown hw1
          clear c0 c1 c2 c3 b0 b1 b2 b3 hw1
          have hat1 := (H.out.below (HB0.out.trans (HB1.out.mono (Nat.le_of_lt Hlt0.out)))).at Hf.out
          have hbox1 := Hbox.out.below HB1.out Hlt0.out
          have c0 := hat1.c0
          have c1 := hat1.c1
          have c2 := hat1.c2
          have c3 := hat1.c3
          unfold fld at c1 c2 c3
          have b0 := hbox1.b0
          have b1 := hbox1.b1
          have b2 := hbox1.b2
          have b3 := hbox1.b3
          clear hat1 hbox1
          go_wp2_with fail
          go_quiet (fail)
          obtain ⟨w3, hw3⟩ : ∃ w3, w3 = w1.drewN nq := ⟨_, rfl⟩
          rw [← hw3]
          have HB3 := drew_belowH HB1 hw3
          have HO3 := drew_owns HO1 hw3
          clear c0 c1 c2 c3 b0 b1 b2 b3 hw3
          have hat3 := (H.out.below (HB0.out.trans (HB3.out.mono (Nat.le_of_lt Hlt0.out)))).at Hf.out
          have hbox3 := Hbox.out.below HB3.out Hlt0.out
          have c0 := hat3.c0
          have c1 := hat3.c1
          have c2 := hat3.c2
          have c3 := hat3.c3
          unfold fld at c1 c2 c3
          have b0 := hbox3.b0
          have b1 := hbox3.b1
          have b2 := hbox3.b2
          have b3 := hbox3.b3
          clear hat3 hbox3
          have HA3 := Lib.hid (HO3.out.alloc (rfObj f))
          have HBA3 := Lib.hid (HB3.out.alloc HB3.out.size (rfObj f))
          unfold rfObj at HA3 HBA3
          go_wp2_with (first
            | (at_builtin; refine wpList_append_own _ rfl (.tmp 38) (.tmp 43) 82 rfl w0.heap.size 87 i0 (.agg #[.string .empty, .slice none 0 0, .int .i64 0, .bool false]) 4 56 Tryz.underlying82 hi hz0 hz1 hz2 rfl (by decide) _ _ _ rfl HA3.out ⟨w3.heap.size, 0, none⟩ 1 1 f.cells rfl rfl (rf_new w3 f) (rf_oneCell f) (by unfold maxLen; omega) (by omega) HBA3.out.size ?_; intro v4 w4 hown4 hgrow4 hnil4))
          have HB4 := Lib.hid (HBA3.out.grown hgrow4 HBA3.out.size (fun q hq => (HA3.out.lt q hq).1))
          have HO4 : Hid (w4.ownsRow w0.heap.size 87 4 v4 (P.1.length + 1) (rfCells (P.1 ++ [f]))) := by rw [rfCells_append, rfCells_one]; exact hown4
          clear hown4 hgrow4 hnil4 c0 c1 c2 c3 b0 b1 b2 b3
          go_wp2_with fail
          go_roundw
          case rel => exact ⟨k + 1, true, by omega, by go_num, rfl, by rw [Hst.out]; rfl, by rw [Hst.out]; first | exact HO4 | (simp only [List.length_append]; exact HO4), HB4⟩
          case measure => simp [intOf]; omega
        | false =>
          by_cases hq1 : f.nm < x.nm
          · have htl : Op.bytesLess f.name.toList x.name.toList = true := by rw [hbl]; simpa using hq1
            have Hst : Hid (putP x (fs.take (k + 1)) = (P.1 ++ [f], false)) := by
              show _ = _
              rw [hstep, stepP_keep (Or.inr hq1), if_neg hq2, hg2]
            have hte : (f.name.toList == x.name.toList) = false := by rw [toL_eq', toL_eq']; exact beq_eq_false_iff_ne.2 hq2
            clear hstep hbl hg2 hq1 hq2
            go_wp2_with fail
            go_quiet (fail)
            obtain ⟨w1, hw1⟩ : ∃ w1, w1 = wr.drewN nq := ⟨_, rfl⟩
            rw [← hw1]
            have HB1 := drew_belowH Hb hw1
            have HO1 := drew_owns Hown hw1
            clear c0 c1 c2 c3 b0 b1 b2 b3 hw1
            have hat1 := (H.out.below (HB0.out.trans (HB1.out.mono (Nat.le_of_lt Hlt0.out)))).at Hf.out
            have hbox1 := Hbox.out.below HB1.out Hlt0.out
            have c0 := hat1.c0
            have c1 := hat1.c1
            have c2 := hat1.c2
            have c3 := hat1.c3
            unfold fld at c1 c2 c3
            have b0 := hbox1.b0
            have b1 := hbox1.b1
            have b2 := hbox1.b2
            have b3 := hbox1.b3
            clear hat1 hbox1
            go_wp2_with fail
            go_quiet (fail)
            obtain ⟨w3, hw3⟩ : ∃ w3, w3 = w1.drewN nq := ⟨_, rfl⟩
            rw [← hw3]
            have HB3 := drew_belowH HB1 hw3
            have HO3 := drew_owns HO1 hw3
            clear c0 c1 c2 c3 b0 b1 b2 b3 hw3
            have hat3 := (H.out.below (HB0.out.trans (HB3.out.mono (Nat.le_of_lt Hlt0.out)))).at Hf.out
            have hbox3 := Hbox.out.below HB3.out Hlt0.out
            have c0 := hat3.c0
            have c1 := hat3.c1
            have c2 := hat3.c2
            have c3 := hat3.c3
            unfold fld at c1 c2 c3
            have b0 := hbox3.b0
            have b1 := hbox3.b1
            have b2 := hbox3.b2
            have b3 := hbox3.b3
            clear hat3 hbox3
            have HA3 := Lib.hid (HO3.out.alloc (rfObj f))
            have HBA3 := Lib.hid (HB3.out.alloc HB3.out.size (rfObj f))
            unfold rfObj at HA3 HBA3
            go_wp2_with (first
              | (at_builtin; refine wpList_append_own _ rfl (.tmp 38) (.tmp 43) 82 rfl w0.heap.size 87 i0 (.agg #[.string .empty, .slice none 0 0, .int .i64 0, .bool false]) 4 56 Tryz.underlying82 hi hz0 hz1 hz2 rfl (by decide) _ _ _ rfl HA3.out ⟨w3.heap.size, 0, none⟩ 1 1 f.cells rfl rfl (rf_new w3 f) (rf_oneCell f) (by unfold maxLen; omega) (by omega) HBA3.out.size ?_; intro v4 w4 hown4 hgrow4 hnil4))
            have HB4 := Lib.hid (HBA3.out.grown hgrow4 HBA3.out.size (fun q hq => (HA3.out.lt q hq).1))
            have HO4 : Hid (w4.ownsRow w0.heap.size 87 4 v4 (P.1.length + 1) (rfCells (P.1 ++ [f]))) := by rw [rfCells_append, rfCells_one]; exact hown4
            clear hown4 hgrow4 hnil4 c0 c1 c2 c3 b0 b1 b2 b3
            go_wp2_with fail
            go_roundw
            case rel => exact ⟨k + 1, false, by omega, by go_num, rfl, by rw [Hst.out]; rfl, by rw [Hst.out]; first | exact HO4 | (simp only [List.length_append]; exact HO4), HB4⟩
            case measure => simp [intOf]; omega
          · have htl : Op.bytesLess f.name.toList x.name.toList = false := by rw [hbl]; simpa using hq1
            have Hst : Hid (putP x (fs.take (k + 1)) = (P.1 ++ [x] ++ [f], true)) := by
              show _ = _
              rw [hstep, stepP_ins hg2 hq1, if_neg hq2]
            have hte : (f.name.toList == x.name.toList) = false := by rw [toL_eq', toL_eq']; exact beq_eq_false_iff_ne.2 hq2
            clear hstep hbl hg2 hq1 hq2
            go_wp2_with fail
            go_quiet (fail)
            obtain ⟨w1, hw1⟩ : ∃ w1, w1 = wr.drewN nq := ⟨_, rfl⟩
            rw [← hw1]
            have HB1 := drew_belowH Hb hw1
            have HO1 := drew_owns Hown hw1
            clear c0 c1 c2 c3 b0 b1 b2 b3 hw1
            have hat1 := (H.out.below (HB0.out.trans (HB1.out.mono (Nat.le_of_lt Hlt0.out)))).at Hf.out
            have hbox1 := Hbox.out.below HB1.out Hlt0.out
            have c0 := hat1.c0
            have c1 := hat1.c1
            have c2 := hat1.c2
            have c3 := hat1.c3
            unfold fld at c1 c2 c3
            have b0 := hbox1.b0
            have b1 := hbox1.b1
            have b2 := hbox1.b2
            have b3 := hbox1.b3
            clear hat1 hbox1
            have HA1 := Lib.hid (HO1.out.alloc (rfObj x))
            have HBA1 := Lib.hid (HB1.out.alloc HB1.out.size (rfObj x))
            unfold rfObj at HA1 HBA1
            go_wp2_with (first
              | (at_builtin; refine wpList_append_own _ rfl (.tmp 26) (.tmp 28) 82 rfl w0.heap.size 87 i0 (.agg #[.string .empty, .slice none 0 0, .int .i64 0, .bool false]) 4 56 Tryz.underlying82 hi hz0 hz1 hz2 rfl (by decide) _ _ _ rfl HA1.out ⟨w1.heap.size, 0, none⟩ 1 1 x.cells rfl rfl (rf_new w1 x) (rf_oneCell x) (by unfold maxLen; omega) (by omega) HBA1.out.size ?_; intro v2 w2 hown2 hgrow2 hnil2))
            have HB2 := Lib.hid (HBA1.out.grown hgrow2 HBA1.out.size (fun q hq => (HA1.out.lt q hq).1))
            have HO2 : Hid (w2.ownsRow w0.heap.size 87 4 v2 (P.1.length + 1) (rfCells (P.1 ++ [x]))) := by rw [rfCells_append, rfCells_one]; exact hown2
            clear hown2 hgrow2 hnil2 c0 c1 c2 c3 b0 b1 b2 b3
            have hat2 := (H.out.below (HB0.out.trans (HB2.out.mono (Nat.le_of_lt Hlt0.out)))).at Hf.out
            have hbox2 := Hbox.out.below HB2.out Hlt0.out
            have c0 := hat2.c0
            have c1 := hat2.c1
            have c2 := hat2.c2
            have c3 := hat2.c3
            unfold fld at c1 c2 c3
            have b0 := hbox2.b0
            have b1 := hbox2.b1
            have b2 := hbox2.b2
            have b3 := hbox2.b3
            clear hat2 hbox2
            go_wp2_with fail
            go_quiet (fail)
            obtain ⟨w3, hw3⟩ : ∃ w3, w3 = w2.drewN nq := ⟨_, rfl⟩
            rw [← hw3]
            have HB3 := drew_belowH HB2 hw3
            have HO3 := drew_owns HO2 hw3
            clear c0 c1 c2 c3 b0 b1 b2 b3 hw3
            have hat3 := (H.out.below (HB0.out.trans (HB3.out.mono (Nat.le_of_lt Hlt0.out)))).at Hf.out
            have hbox3 := Hbox.out.below HB3.out Hlt0.out
            have c0 := hat3.c0
            have c1 := hat3.c1
            have c2 := hat3.c2
            have c3 := hat3.c3
            unfold fld at c1 c2 c3
            have b0 := hbox3.b0
            have b1 := hbox3.b1
            have b2 := hbox3.b2
            have b3 := hbox3.b3
            clear hat3 hbox3
            have HA3 := Lib.hid (HO3.out.alloc (rfObj f))
            have HBA3 := Lib.hid (HB3.out.alloc HB3.out.size (rfObj f))
            unfold rfObj at HA3 HBA3
            go_wp2_with (first
              | (at_builtin; refine wpList_append_own _ rfl (.tmp 38) (.tmp 43) 82 rfl w0.heap.size 87 i0 (.agg #[.string .empty, .slice none 0 0, .int .i64 0, .bool false]) 4 56 Tryz.underlying82 hi hz0 hz1 hz2 rfl (by decide) _ _ _ rfl HA3.out ⟨w3.heap.size, 0, none⟩ 1 1 f.cells rfl rfl (rf_new w3 f) (rf_oneCell f) (by unfold maxLen; omega) (by omega) HBA3.out.size ?_; intro v4 w4 hown4 hgrow4 hnil4))
            have HB4 := Lib.hid (HBA3.out.grown hgrow4 HBA3.out.size (fun q hq => (HA3.out.lt q hq).1))
            have HO4 : Hid (w4.ownsRow w0.heap.size 87 4 v4 (P.1.length + 1 + 1) (rfCells (P.1 ++ [x] ++ [f]))) := by rw [rfCells_append, rfCells_one]; exact hown4
            clear hown4 hgrow4 hnil4 c0 c1 c2 c3 b0 b1 b2 b3
            go_wp2_with fail
            go_roundw
            case rel => exact ⟨k + 1, true, by omega, by go_num, rfl, by rw [Hst.out]; rfl, by rw [Hst.out]; first | exact HO4 | (simp only [List.length_append]; exact HO4), HB4⟩
            case measure => simp [intOf]; omega
    · have hfin : fs.take k = fs := by rw [show k = l by omega, ← Hl.out]; exact List.take_length
      rw [hfin] at Hg Hown
      have hlen := putP_len x fs l
      rw [show fs.take l = fs by rw [← Hl.out]; exact List.take_length] at hlen
      have hgood : ∀ f ∈ fs, FGood w0 own f := (H.out.below HB0.out).good
      have hxg : FGood w0 own x := Hx.out.below HB0.out
      have Hgood := Lib.hid hgood
      have Hxg := Lib.hid hxg
      clear hgood hxg hfin
      cases g with
      | true =>
        have hput : putL fs x = (putP x fs).1 := by unfold putL; rw [if_pos Hg.out]
        have h1 := Hown.out
        rw [← hput] at h1
        obtain ⟨a1, c1, hv, hrow, _⟩ := FRow.of_owns (own := own) h1 (fun b hb => Ho.out b (by have := Hlt0.out; omega)) (fun f hf => ((putL_mem f hf).elim (fun e => e ▸ Hxg.out) (fun e => Hgood.out f e)).below Hb.out)
        subst hv
        have Hrow := Lib.hid hrow
        clear h1 hrow hput
        go_wp2
        go_ret
        exact ⟨a1, c1, rfl, Hrow.out, HB0.out.trans (Hb.out.mono (Nat.le_of_lt Hlt0.out))⟩
      | false =>
        have Hput : Hid (putL fs x = (putP x fs).1 ++ [x]) := by show _ = _; unfold putL; rw [if_neg (by rw [Hg.out]; simp)]
        obtain ⟨P, hP⟩ : ∃ P, (putP x fs).1 = P := ⟨_, rfl⟩
        rw [hP] at Hput Hown hlen
        clear hP Hg
        have hbox := Hbox.out.below Hb.out Hlt0.out
        have b0 := hbox.b0
        have b1 := hbox.b1
        have b2 := hbox.b2
        have b3 := hbox.b3
        have HA1 := Lib.hid (Hown.out.alloc (rfObj x))
        have HBA1 := Lib.hid (Hb.out.alloc Hb.out.size (rfObj x))
        unfold rfObj at HA1 HBA1
        clear hbox
        go_wp2_with (first
          | (at_builtin; refine wpList_append_own _ rfl (.tmp 47) (.tmp 49) 82 rfl w0.heap.size 87 i0 (.agg #[.string .empty, .slice none 0 0, .int .i64 0, .bool false]) 4 56 Tryz.underlying82 hi hz0 hz1 hz2 rfl (by decide) _ _ _ rfl HA1.out ⟨wr.heap.size, 0, none⟩ 1 1 x.cells rfl rfl (rf_new wr x) (rf_oneCell x) (by unfold maxLen; omega) (by omega) HBA1.out.size ?_; intro v2 w2 hown2 hgrow2 hnil2))
        have HB2 := Lib.hid (HBA1.out.grown hgrow2 HBA1.out.size (fun q hq => (HA1.out.lt q hq).1))
        have h1 : w2.ownsRow w0.heap.size 87 4 v2 (putL fs x).length (rfCells (putL fs x)) := by rw [Hput.out, List.length_append, rfCells_append, rfCells_one]; exact hown2
        obtain ⟨a1, c1, hv, hrow, _⟩ := FRow.of_owns (own := own) h1 (fun b hb => Ho.out b (by have := Hlt0.out; omega)) (fun f hf => ((putL_mem f hf).elim (fun e => e ▸ Hxg.out) (fun e => Hgood.out f e)).below HB2.out)
        subst hv
        have Hrow := Lib.hid hrow
        clear h1 hrow hown2 hgrow2 hnil2 b0 b1 b2 b3
        go_wp2_with fail
        go_ret
        exact ⟨a1, c1, rfl, Hrow.out, HB0.out.trans (HB2.out.mono (Nat.le_of_lt Hlt0.out))⟩

end Go.Proofs.YtdpbnacabinlgaaGreatDoor
namespace Go.Proofs.YtdpbnacabinlgaaGreatDoor
open Go.RowKit Go.Lib Go.Maps Go.ChangeMaps Go.Sort

/-- The document's own device. -/
structure RDm where
  L : List RF
  Gone : List RF
  room : Int
  acts : Int
  fused : Bool
  left : Int
  off : Bool

/-- What either owns. -/
def both (a b : Owner) : Owner := fun k => (b k).or (a k)
theorem both_none {a b : Owner} {k : Nat} : both a b k = none ↔ a k = none ∧ b k = none := by
  unfold both
  cases b k <;> simp

/-- A call on the document's device: it writes blocks that it owns, and new ones. -/
structure RStep (o o' : Owner) (w w' : World) : Prop where
  fr : Fr (fun k => o k ≠ none) w w'
  own : ∀ b, b < w.heap.size → o' b = o b

theorem RStep.refl (o : Owner) (w : World) : RStep o o w w := ⟨Fr.refl _ _, fun _ _ => rfl⟩
theorem RStep.both {o o' : Owner} {w w' : World} (d : Owner) (h : RStep o o' w w') : Step (both d o) (both d o') w w' :=
  ⟨h.fr.mono (fun _k hk e => hk (both_none.1 e).2), fun b hb e => both_none.2 ⟨(both_none.1 e).1, (h.own b hb).trans (both_none.1 e).2⟩⟩
theorem RStep.trans {o o' o'' : Owner} {a b c : World} (h : RStep o o' a b) (k : RStep o' o'' b c) : RStep o o'' a c :=
  ⟨⟨k.fr.os.trans h.fr.os, k.fr.tape.trans h.fr.tape, k.fr.output.trans h.fr.output, Nat.le_trans h.fr.size k.fr.size, fun i hi hn => by
      have hi' := Nat.lt_of_lt_of_le hi h.fr.size
      exact (k.fr.block i hi' (by rw [h.own i hi]; exact hn)).trans (h.fr.block i hi hn)⟩,
    fun i hi => (k.own i (Nat.lt_of_lt_of_le hi h.fr.size)).trans (h.own i hi)⟩
theorem RStep.below {o : Owner} {w w' : World} (h : Below w.heap.size w w') : RStep o o w w' := ⟨Fr.of_below h, fun _ _ => rfl⟩

/-- The document's device in memory. -/
structure RDev (w : World) (d o : Owner) (rb : Nat) (la : Option Addr) (lc : Nat) (gv : Value) (n : Nat) (r : RDm) : Prop where
  blk : w.heap[rb]? = some (.cells #[.slice la r.L.length lc, gv, .int .i64 r.room, .int .i64 r.acts, .bool r.fused, .int .i64 r.left, .bool r.off] 84 (0, 0))
  rowL : FRow w (both d o) la r.L
  rowG : w.ownsRow 0 87 4 gv r.Gone.length (rfCells r.Gone)
  good : ∀ f ∈ r.Gone, FGood w (both d o) f
  orb : o rb = some (9, [])
  og : ∀ g, gv.ownBlock = some g → o g = some (10, [])
  old : ∀ b, w.heap.size ≤ b → d b = none ∧ o b = none
  cnt : r.L.length + r.Gone.length ≤ n
  rroom : -9223372036854775808 ≤ r.room ∧ r.room ≤ 9223372036854775807
  rleft : 0 ≤ r.left ∧ r.left ≤ 9223372036854775807
  racts : 0 ≤ r.acts

def RD (w : World) (d o : Owner) (rb n : Nat) (r : RDm) : Prop := ∃ la lc gv, RDev w d o rb la lc gv n r

section
variable {w w' : World} {d d' o o' : Owner} {rb n lc : Nat} {la : Option Addr} {gv : Value} {r : RDm}

theorem RDev.lt (h : RDev w d o rb la lc gv n r) {b : Nat} (hb : o b ≠ none) : b < w.heap.size := by
  rcases Nat.lt_or_ge b w.heap.size with h1 | h1
  · exact h1
  · exact absurd (h.old b h1).2 hb
theorem RDev.c0 (h : RDev w d o rb la lc gv n r) : w.cell? ⟨rb, 0, none⟩ = some (.slice la r.L.length lc) := cell_of_blk h.blk rfl
theorem RDev.c1 (h : RDev w d o rb la lc gv n r) : w.cell? ⟨rb, 1, none⟩ = some gv := cell_of_blk h.blk rfl
theorem RDev.c2 (h : RDev w d o rb la lc gv n r) : w.cell? ⟨rb, 2, none⟩ = some (.int .i64 r.room) := cell_of_blk h.blk rfl
theorem RDev.c3 (h : RDev w d o rb la lc gv n r) : w.cell? ⟨rb, 3, none⟩ = some (.int .i64 r.acts) := cell_of_blk h.blk rfl
theorem RDev.c4 (h : RDev w d o rb la lc gv n r) : w.cell? ⟨rb, 4, none⟩ = some (.bool r.fused) := cell_of_blk h.blk rfl
theorem RDev.c5 (h : RDev w d o rb la lc gv n r) : w.cell? ⟨rb, 5, none⟩ = some (.int .i64 r.left) := cell_of_blk h.blk rfl
theorem RDev.c6 (h : RDev w d o rb la lc gv n r) : w.cell? ⟨rb, 6, none⟩ = some (.bool r.off) := cell_of_blk h.blk rfl
theorem RDev.f (h : RDev w d o rb la lc gv n r) (k : Nat) : w.frozen? ⟨rb, k, none⟩ = false := frozen_of_blk h.blk

/-- Blocks that it doesn't own are written, by whoever owns them, or new. -/
theorem RDev.step (h : RDev w d o rb la lc gv n r) (hs : Step (both d o) (both d' o) w w') (hk : ∀ b, o b ≠ none → w'.heap[b]? = w.heap[b]?) (ho : ∀ b, w'.heap.size ≤ b → d' b = none) : RDev w' d' o rb la lc gv n r where
  blk := (hk rb (by simp [h.orb])).trans h.blk
  rowL := h.rowL.step hs
  rowG := ownsRow_of_block h.rowG (fun g hg => hk g (by simp [h.og g hg]))
  good f hf := (h.good f hf).step hs
  orb := h.orb
  og := h.og
  old b hb := ⟨ho b hb, (h.old b (Nat.le_trans hs.fr.size hb)).2⟩
  cnt := h.cnt
  rroom := h.rroom
  rleft := h.rleft
  racts := h.racts

theorem RDev.below (h : RDev w d o rb la lc gv n r) (hb : Below w.heap.size w w') : RDev w' d o rb la lc gv n r :=
  h.step (below_step _ hb) (fun b hb' => hb.block b (h.lt hb')) (fun b hb' => (h.old b (Nat.le_trans hb.size hb')).1)

theorem RD.below (h : RD w d o rb n r) (hb : Below w.heap.size w w') : RD w' d o rb n r := by
  obtain ⟨la, lc, gv, h⟩ := h
  exact ⟨la, lc, gv, h.below hb⟩

/-- A call on the program's device. -/
theorem RD.dstep (h : RD w d o rb n r) (hs : Step d d' w w') (hdj : ∀ b, o b ≠ none → d b = none) (ho : ∀ b, w'.heap.size ≤ b → d' b = none) : RD w' d' o rb n r := by
  obtain ⟨la, lc, gv, h⟩ := h
  exact ⟨la, lc, gv, h.step ⟨hs.fr.mono (fun k hk e => hk (both_none.1 e).1), fun b hb e => both_none.2 ⟨hs.own b hb (both_none.1 e).1, (both_none.1 e).2⟩⟩ (fun b hb => hs.fr.block b (h.lt hb) (by simp [hdj b hb])) ho⟩

/-- The device's own block is written. -/
theorem RDev.setBlk (h : RDev w d o rb la lc gv n r) (hs : Fr (fun b => b = rb) w w') {acts left : Int} {fused off : Bool}
    (hb : w'.heap[rb]? = some (.cells #[.slice la r.L.length lc, gv, .int .i64 r.room, .int .i64 acts, .bool fused, .int .i64 left, .bool off] 84 (0, 0))) (ha : 0 ≤ acts) (hl : 0 ≤ left ∧ left ≤ 9223372036854775807) :
    RDev w' d o rb la lc gv n { r with acts := acts, fused := fused, left := left, off := off } ∧ RStep o o w w' := by
  have hst : RStep o o w w' := ⟨hs.mono (fun b e => by subst e; simp [h.orb]), fun _ _ => rfl⟩
  exact ⟨{
    blk := hb
    rowL := h.rowL.step (hst.both d)
    rowG := ownsRow_of_block h.rowG (fun g hg => hs.block g (h.lt (by simp [h.og g hg])) (fun e => by have := h.og g hg; rw [e, h.orb] at this; simp at this))
    good := fun f hf => (h.good f hf).step (hst.both d)
    orb := h.orb
    og := h.og
    old := fun b hb => h.old b (Nat.le_trans hs.size hb)
    cnt := h.cnt
    rroom := h.rroom
    rleft := hl
    racts := ha }, hst⟩
end

set_option maxHeartbeats 400000 in
theorem rpower_calls (rb : Nat) (fused off : Bool) (left : Int) (w : World) (c4 : w.cell? ⟨rb, 4, none⟩ = some (.bool fused)) (c5 : w.cell? ⟨rb, 5, none⟩ = some (.int .i64 left)) (c6 : w.cell? ⟨rb, 6, none⟩ = some (.bool off)) (f6 : w.frozen? ⟨rb, 6, none⟩ = false) :
    Calls Tryz.prog 84 #[.pointer (some ⟨rb, 0, none⟩)] w fun e w' => e = .returned (.bool !(off || (fused && left == 0))) ∧ (if fused && left == 0 then w.setCell ⟨rb, 6, none⟩ (.bool true) else w) = w' := by
  cases fused
  · simp only [Bool.false_and, Bool.or_false]
    cases off
    · go_enter Tryz.func84, Tryz.ntmps84
      go_wp2
      go_ret
      exact ⟨rfl, rfl⟩
    · go_enter Tryz.func84, Tryz.ntmps84
      go_wp2
      go_ret
      exact ⟨rfl, rfl⟩
  · by_cases h : left = 0
    · subst h
      go_enter Tryz.func84, Tryz.ntmps84
      go_wp2
      go_ret
      exact ⟨by cases off <;> rfl, rfl⟩
    · have hb : (left == 0) = false := by simpa using h
      simp only [hb, Bool.and_false, Bool.or_false]
      cases off
      · go_enter Tryz.func84, Tryz.ntmps84
        go_wp2
        go_ret
        exact ⟨rfl, rfl⟩
      · go_enter Tryz.func84, Tryz.ntmps84
        go_wp2
        go_ret
        exact ⟨rfl, rfl⟩

set_option maxHeartbeats 400000 in
theorem rdid_calls (rb : Nat) (fused : Bool) (acts left : Int) (w : World) (c3 : w.cell? ⟨rb, 3, none⟩ = some (.int .i64 acts)) (c4 : w.cell? ⟨rb, 4, none⟩ = some (.bool fused)) (c5 : w.cell? ⟨rb, 5, none⟩ = some (.int .i64 left)) (f3 : w.frozen? ⟨rb, 3, none⟩ = false) (f5 : w.frozen? ⟨rb, 5, none⟩ = false)
    (ha : 0 ≤ acts) (ha2 : acts ≤ 9223372036854775000) (hf : 0 ≤ left) (hf2 : left ≤ 9223372036854775807) :
    Calls Tryz.prog 86 #[.pointer (some ⟨rb, 0, none⟩)] w fun e w' => e = .returned (.int .i64 0) ∧ (if fused then (w.setCell ⟨rb, 3, none⟩ (.int .i64 (acts + 1))).setCell ⟨rb, 5, none⟩ (.int .i64 (left - 1)) else w.setCell ⟨rb, 3, none⟩ (.int .i64 (acts + 1))) = w' := by
  cases fused
  · go_enter Tryz.func86, Tryz.ntmps86
    go_wp2
    go_ret
    exact ⟨rfl, rfl⟩
  · go_enter Tryz.func86, Tryz.ntmps86
    go_wp2
    go_ret
    exact ⟨rfl, rfl⟩

set_option maxHeartbeats 400000 in
theorem rfuse_calls (rb : Nat) (n : Int) (w : World) (fused : Bool) (left : Int) (c4 : w.cell? ⟨rb, 4, none⟩ = some (.bool fused)) (c5 : w.cell? ⟨rb, 5, none⟩ = some (.int .i64 left)) (f4 : w.frozen? ⟨rb, 4, none⟩ = false) (f5 : w.frozen? ⟨rb, 5, none⟩ = false) :
    Calls Tryz.prog 20 #[.pointer (some ⟨rb, 0, none⟩), .int .i64 n] w fun e w' => e = .returned (.tuple #[]) ∧ (w.setCell ⟨rb, 4, none⟩ (.bool (decide (0 ≤ n)))).setCell ⟨rb, 5, none⟩ (.int .i64 (max n 0)) = w' := by
  by_cases h : 0 ≤ n
  · have e1 : decide (0 ≤ n) = true := by simpa using h
    have e2 : max n 0 = n := by omega
    rw [e1, e2]
    go_enter Tryz.func20, Tryz.ntmps20
    go_wp2
    go_end0
    exact ⟨rfl, rfl⟩
  · have e1 : decide (0 ≤ n) = false := by simpa using h
    have e2 : max n 0 = 0 := by omega
    rw [e1, e2]
    go_enter Tryz.func20, Tryz.ntmps20
    go_wp2
    go_end0
    exact ⟨rfl, rfl⟩

set_option maxHeartbeats 400000 in
theorem rnew_calls (room : Int) (w : World) :
    Calls Tryz.prog 39 #[.int .i64 room] w fun e w' => e = .returned (.pointer (some ⟨w.heap.size, 0, none⟩)) ∧
      w.alloc (.cells #[.slice none 0 0, .slice none 0 0, .int .i64 room, .int .i64 0, .bool false, .int .i64 0, .bool false] 84) = w' := by
  go_enter Tryz.func39, Tryz.ntmps39
  go_wp2
  go_ret
  exact ⟨rfl, rfl⟩

end Go.Proofs.YtdpbnacabinlgaaGreatDoor
namespace Go.Proofs.YtdpbnacabinlgaaGreatDoor
open Go.RowKit Go.Lib Go.Maps Go.ChangeMaps Go.Sort

section
variable {w w' : World} {d d' o o' : Owner} {rb n lc : Nat} {la : Option Addr} {gv : Value} {r : RDm}

theorem RD.orb (h : RD w d o rb n r) : o rb = some (9, []) := by obtain ⟨_, _, _, h⟩ := h; exact h.orb
theorem RD.lt (h : RD w d o rb n r) {b : Nat} (hb : o b ≠ none) : b < w.heap.size := by obtain ⟨_, _, _, h⟩ := h; exact h.lt hb
theorem RD.old (h : RD w d o rb n r) : ∀ b, w.heap.size ≤ b → both d o b = none := fun b hb => by obtain ⟨_, _, _, h⟩ := h; exact both_none.2 (h.old b hb)
theorem RD.mono {n' : Nat} (h : RD w d o rb n r) (hn : n ≤ n') : RD w d o rb n' r := by
  obtain ⟨la, lc, gv, h⟩ := h
  exact ⟨la, lc, gv, h.blk, h.rowL, h.rowG, h.good, h.orb, h.og, h.old, Nat.le_trans h.cnt hn, h.rroom, h.rleft, h.racts⟩

def isOff (r : RDm) : Bool := r.off || (r.fused && r.left == 0)
/-- Behind 'power'. -/
def powerR (r : RDm) : RDm := { r with off := isOff r }

theorem RD.power (h : RD w d o rb n r) : Calls Tryz.prog 84 #[.pointer (some ⟨rb, 0, none⟩)] w fun e w' => e = .returned (.bool !(isOff r)) ∧ RD w' d o rb n (powerR r) ∧ RStep o o w w' := by
  obtain ⟨la, lc, gv, h⟩ := h
  refine (rpower_calls rb r.fused r.off r.left w h.c4 h.c5 h.c6 (h.f 6)).mono ?_
  rintro e w' ⟨he, rfl⟩
  refine ⟨he, ?_⟩
  by_cases hc : (r.fused && r.left == 0) = true
  · rw [if_pos hc]
    obtain ⟨h1, h2⟩ := h.setBlk (w' := w.setCell ⟨rb, 6, none⟩ (.bool true)) (acts := r.acts) (left := r.left) (fused := r.fused) (off := true) ((Fr.refl _ _).setCell _ _ (fun _ => rfl)) (setCell_blk h.blk _) h.racts h.rleft
    refine ⟨⟨la, lc, gv, ?_⟩, h2⟩
    have e1 : isOff r = true := by unfold isOff; rw [hc]; simp
    unfold powerR
    rw [e1]
    exact h1
  · rw [if_neg hc]
    have e1 : isOff r = r.off := by unfold isOff; rw [Bool.eq_false_iff.2 hc]; simp
    refine ⟨⟨la, lc, gv, ?_⟩, RStep.refl _ _⟩
    unfold powerR
    rw [e1]
    exact h

/-- Behind an act. -/
def didR (r : RDm) : RDm := { r with acts := r.acts + 1, left := if r.fused then r.left - 1 else r.left }

theorem RD.did (h : RD w d o rb n r) (ha : r.acts ≤ 9223372036854775000) (hl : r.fused = true → 0 < r.left) : Calls Tryz.prog 86 #[.pointer (some ⟨rb, 0, none⟩)] w fun e w' => e = .returned (.int .i64 0) ∧ RD w' d o rb n (didR r) ∧ RStep o o w w' := by
  obtain ⟨la, lc, gv, h⟩ := h
  have h0 := h.rleft
  have ha0 := h.racts
  refine (rdid_calls rb r.fused r.acts r.left w h.c3 h.c4 h.c5 (h.f 3) (h.f 5) h.racts ha h.rleft.1 h.rleft.2).mono ?_
  rintro e w' ⟨he, rfl⟩
  refine ⟨he, ?_⟩
  unfold didR
  by_cases hc : r.fused = true
  · rw [if_pos hc, if_pos hc]
    have := hl hc
    obtain ⟨h1, h2⟩ := h.setBlk (w' := (w.setCell ⟨rb, 3, none⟩ (.int .i64 (r.acts + 1))).setCell ⟨rb, 5, none⟩ (.int .i64 (r.left - 1))) (acts := r.acts + 1) (left := r.left - 1) (fused := r.fused) (off := r.off) (((Fr.refl (fun b => b = rb) w).setCell _ _ (fun _ => rfl)).setCell _ _ (fun _ => rfl)) (setCell_blk (setCell_blk h.blk _) _) (by omega) (by omega)
    exact ⟨⟨la, lc, gv, h1⟩, h2⟩
  · rw [if_neg hc, if_neg hc]
    obtain ⟨h1, h2⟩ := h.setBlk (w' := w.setCell ⟨rb, 3, none⟩ (.int .i64 (r.acts + 1))) (acts := r.acts + 1) (left := r.left) (fused := r.fused) (off := r.off) ((Fr.refl _ _).setCell _ _ (fun _ => rfl)) (setCell_blk h.blk _) (by omega) h.rleft
    exact ⟨⟨la, lc, gv, h1⟩, h2⟩

def fuseR (r : RDm) (x : Int) : RDm := { r with fused := decide (0 ≤ x), left := max x 0 }

theorem RD.fuse (h : RD w d o rb n r) {x : Int} (hx : x ≤ 9223372036854775807) : Calls Tryz.prog 20 #[.pointer (some ⟨rb, 0, none⟩), .int .i64 x] w fun e w' => e = .returned (.tuple #[]) ∧ RD w' d o rb n (fuseR r x) ∧ RStep o o w w' := by
  obtain ⟨la, lc, gv, h⟩ := h
  refine (rfuse_calls rb x w r.fused r.left h.c4 h.c5 (h.f 4) (h.f 5)).mono ?_
  rintro e w' ⟨he, rfl⟩
  obtain ⟨h1, h2⟩ := h.setBlk (w' := (w.setCell ⟨rb, 4, none⟩ (.bool (decide (0 ≤ x)))).setCell ⟨rb, 5, none⟩ (.int .i64 (max x 0))) (acts := r.acts) (left := max x 0) (fused := decide (0 ≤ x)) (off := r.off) (((Fr.refl (fun b => b = rb) w).setCell _ _ (fun _ => rfl)).setCell _ _ (fun _ => rfl)) (setCell_blk (setCell_blk h.blk _) _) h.racts (by omega)
  exact ⟨he, ⟨la, lc, gv, h1⟩, h2⟩

def newR (room : Int) : RDm := { L := [], Gone := [], room := room, acts := 0, fused := false, left := 0, off := false }

theorem RD.new (w : World) (d : Owner) (room : Int) (hr : -9223372036854775808 ≤ room ∧ room ≤ 9223372036854775807) (ho : ∀ b, w.heap.size ≤ b → d b = none) :
    Calls Tryz.prog 39 #[.int .i64 room] w fun e w' => e = .returned (.pointer (some ⟨w.heap.size, 0, none⟩)) ∧ ∃ o, RD w' d o w.heap.size 0 (newR room) ∧ (∀ b, b < w.heap.size → o b = none) ∧ Below w.heap.size w w' := by
  refine (rnew_calls room w).mono ?_
  rintro e w' ⟨rfl, rfl⟩
  refine ⟨rfl, fun b => if b = w.heap.size then some (9, []) else none, ⟨none, 0, .slice none 0 0, ?_⟩, fun b hb => if_neg (by omega), (Below.refl _ _).alloc (Nat.le_refl _) _⟩
  exact {
    blk := heap_alloc_new w _
    rowL := fun j f hj => by simp [newR] at hj
    rowG := World.ownsRow_nil _ _ _ _
    good := fun f hf => by simp [newR] at hf
    orb := if_pos rfl
    og := fun g hg => by simp [Value.ownBlock] at hg
    old := fun b hb => by
      simp at hb
      exact ⟨ho b (by omega), if_neg (by omega)⟩
    cnt := by simp [newR]
    rroom := hr
    rleft := by simp [newR]
    racts := by simp [newR] }
end

/-- All bytes of all files. -/
def usedL (fs : List RF) : Nat := (fs.map fun f => f.data.length).sum

theorem usedL_take {fs : List RF} {k : Nat} {f : RF} (h : fs[k]? = some f) : usedL (fs.take (k + 1)) = usedL (fs.take k) + f.data.length := by
  rw [List.take_add_one, h]
  simp [usedL]

set_option maxHeartbeats 2000000 in
set_option maxRecDepth 100000 in
theorem rused_calls (w : World) (own : Owner) (rb : Nat) (a : Option Addr) (c : Nat) (fs : List RF) (h : FRow w own a fs) (c0 : w.cell? ⟨rb, 0, none⟩ = some (.slice a fs.length c)) (hl : fs.length ≤ 1000000) :
    Calls Tryz.prog 58 #[.pointer (some ⟨rb, 0, none⟩)] w fun e w' => e = .returned (.int .i64 (usedL fs : Nat)) ∧ w = w' := by
  have H := Lib.hid h
  obtain ⟨l, hll⟩ : ∃ l, fs.length = l := ⟨_, rfl⟩
  rw [hll] at hl c0
  have Hl := Lib.hid hll
  clear h hll
  go_enter Tryz.func58, Tryz.ntmps58
  go_wp2
  go_loop [3, 4] (fun u i => ∃ (k t : Nat), k ≤ l ∧ i = .int .i64 k ∧ u = .int .i64 t ∧ t ≤ k * 262144 ∧ Hid (usedL (fs.take k) = t)) (fun _ i => l - (intOf i).toNat)
  case atStart => exact ⟨0, 0, Nat.zero_le _, rfl, rfl, Nat.zero_le _, rfl⟩
  case round =>
    obtain ⟨k, t, hk, rfl, rfl, ht, HT⟩ := hrel
    by_cases hlt : k < l
    · obtain ⟨f, hf⟩ : ∃ f, fs[k]? = some f := ⟨_, List.getElem?_eq_getElem (by rw [Hl.out]; exact hlt)⟩
      obtain ⟨A, rfl, _, hat⟩ := H.out k f hf
      have c1 := hat.c1
      unfold fld at c1
      have hfl := hat.hl
      have HT2 : Hid (usedL (fs.take (k + 1)) = t + f.data.length) := by show _ = _; rw [usedL_take hf, HT.out]
      clear hf hat
      go_wp2
      go_round
      case rel => exact ⟨k + 1, t + f.data.length, by omega, by go_num, by go_num, by omega, HT2⟩
      case measure => simp [intOf]; omega
    · have hfin : fs.take k = fs := by rw [show k = l by omega, ← Hl.out]; exact List.take_length
      obtain rfl : usedL fs = t := by rw [← HT.out, hfin]
      clear hfin
      go_wp2
      go_ret
      exact ⟨rfl, rfl⟩

set_option maxHeartbeats 2000000 in
set_option maxRecDepth 100000 in
theorem rmany_some (w : World) (A : Addr) (c : Nat) (ks : List (ByteArray × Int)) (name : ByteArray) (hk : KRow w A ks) (hl : ks.length ≤ 1000000000000) :
    Calls Tryz.prog 61 #[.slice (some A) ks.length c, .string name] w fun e w' => e = .returned (.tuple #[.int .i64 (max (manyK ks name.data.toList) 0), .bool (decide (0 ≤ manyK ks name.data.toList))]) ∧ Below w.heap.size w w' := by
  have H := Lib.hid hk
  obtain ⟨z, hz⟩ : ∃ z, manyK ks name.data.toList = z := ⟨_, rfl⟩
  rw [hz]
  have Hz := Lib.hid hz
  obtain ⟨l, hll⟩ : ∃ l, ks.length = l := ⟨_, rfl⟩
  rw [hll] at hl ⊢
  have Hl := Lib.hid hll
  clear hk hz hll
  go_enter Tryz.func61, Tryz.ntmps61
  go_wp2
  go_loop [6] (fun i => ∃ k : Nat, k ≤ l ∧ i = .int .i64 k ∧ Hid (firstK (ks.take k) name.data.toList = none)) (fun i => l - (intOf i).toNat)
  case atStart => exact ⟨0, Nat.zero_le _, rfl, rfl⟩
  case round =>
    obtain ⟨k, hk, rfl, HF⟩ := hrel
    by_cases hlt : k < l
    · obtain ⟨⟨s, v⟩, hks⟩ : ∃ x, ks[k]? = some x := ⟨_, List.getElem?_eq_getElem (by rw [Hl.out]; exact hlt)⟩
      obtain ⟨e0, e1, hss, hwv⟩ := H.out k s v hks
      rw [← add_add', add_one'] at e1
      have hK1 : ks.take (k + 1) = ks.take k ++ [(s, v)] := by
        rw [List.take_add_one, hks]
        rfl
      by_cases he : s.data.toList = name.data.toList
      · have ht : (s.toList == name.toList) = true := by rw [toL_eq', toL_eq']; exact beq_iff_eq.2 he
        have hv : z = v := by
          have h1 : ks = ks.take (k + 1) ++ ks.drop (k + 1) := (List.take_append_drop _ _).symm
          have h2 : firstK (ks.take (k + 1)) name.data.toList = some v := by
            rw [hK1, ← he, firstK_snoc_new (he ▸ HF.out), if_pos rfl]
          rw [← Hz.out, manyK, h1]
          unfold firstK at h2 ⊢
          rw [List.find?_append]
          cases h3 : (ks.take (k + 1)).find? fun x => x.1.data.toList == name.data.toList with
          | none => rw [h3] at h2; cases h2
          | some y => rw [h3] at h2; simp at h2 ⊢; exact h2
        subst hv
        clear hks hK1 he
        by_cases h0 : 0 ≤ z
        · have d1 : decide (0 ≤ z) = true := by simpa using h0
          have d2 : max z 0 = z := by omega
          go_wp2
          go_quiet (fail)
          go_wp2
          go_ret2
          exact ⟨by simp [d1, d2], below_drewN (Below.refl _ _) _⟩
        · have d1 : decide (0 ≤ z) = false := by simpa using h0
          have d2 : max z 0 = 0 := by omega
          go_wp2
          go_quiet (fail)
          go_wp2
          go_ret2
          exact ⟨by simp [d1, d2], below_drewN (Below.refl _ _) _⟩
      · have ht : (s.toList == name.toList) = false := by rw [toL_eq', toL_eq']; exact beq_eq_false_iff_ne.2 he
        have HF2 : Hid (firstK (ks.take (k + 1)) name.data.toList = none) := by
          show _ = _
          have h3 := HF.out
          rw [hK1]
          unfold firstK at h3 ⊢
          rw [Option.map_eq_none_iff] at h3 ⊢
          rw [List.find?_append, h3]
          simp only [List.find?_cons, beq_eq_false_iff_ne.2 he, List.find?_nil]
          simp
        clear hks hK1 he
        go_wp2
        go_round
        case rel => exact ⟨k + 1, by omega, by go_num, HF2⟩
        case measure => simp [intOf]; omega
    · have hfin : ks.take k = ks := by rw [show k = l by omega, ← Hl.out]; exact List.take_length
      obtain rfl : z = -1 := by rw [← Hz.out, manyK, ← hfin, HF.out]; rfl
      clear hfin
      go_wp2
      go_ret2
      exact ⟨rfl, Below.refl _ _⟩

end Go.Proofs.YtdpbnacabinlgaaGreatDoor

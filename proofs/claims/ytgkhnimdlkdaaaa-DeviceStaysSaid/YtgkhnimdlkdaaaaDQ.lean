/- Of. -/
import Derived.Test.YtgkhnimdlkdaaaaDP
namespace Go.Proofs.Ytgkhnimdlkdaaaa
open Go.RowKit Go.Lib Go.Maps Go.ChangeMaps

/-- The files of the first k of a list. -/
def ofF (ls : List LogV) (k : Nat) : List UInt8 → Option FileM := fun key => ((ls.take k).find? fun o => o.name.data.toList == key).map fun o => ⟨o.ds, 0, true⟩
def ofMk (room : Int) (ls : List LogV) (k : Nat) : DevM := { room := room, acts := 0, fuse := -1, down := false, files := ofF ls k, gone := fun _ => none }
/-- Is it right, what stands at place k? -/
def OfAt (ls : List LogV) (k : Nat) (o : LogV) : Prop := nameOk o.name.data.toList = true ∧ ofF ls k o.name.data.toList = none ∧ o.ds.length ≤ 262144
def OfOk (ls : List LogV) : Prop := ls.length ≤ 64 ∧ ∀ k o, ls[k]? = some o → OfAt ls k o
def ofM (room : Int) (ls : List LogV) : DevM := settleM (ofMk room ls ls.length)

theorem ofF_zero (ls : List LogV) : ofF ls 0 = fun _ => none := rfl
theorem ofF_succ {ls : List LogV} {k : Nat} {o : LogV} (h : ls[k]? = some o) (hn : ofF ls k o.name.data.toList = none) :
    ofF ls (k + 1) = setF (ofF ls k) o.name.data.toList (some ⟨o.ds, 0, true⟩) := by
  funext key
  by_cases e : key = o.name.data.toList
  · subst e
    rw [setF_same]
    have h1 : ((ls.take k).find? fun p => p.name.data.toList == o.name.data.toList) = none := by
      cases h2 : (ls.take k).find? fun p => p.name.data.toList == o.name.data.toList with
      | none => rfl
      | some p => unfold ofF at hn; rw [h2] at hn; cases hn
    simp only [ofF, List.take_add_one, h, Option.toList_some, List.find?_append, h1]
    simp
  · rw [setF_other _ _ e]
    have h3 : (o.name.data.toList == key) = false := by simpa using fun e' => e e'.symm
    simp only [ofF, List.take_add_one, h, Option.toList_some, List.find?_append]
    simp [h3]
    
section
variable {S : Prop} {w w' : World} {own own' : Owner} {db fb rb : Nat} {D D' E E' : DataW Unit} {n n' : Nat} {m : DevM}

/-- A file has got a row of bytes in new memory. -/
theorem Dev.filled (h : Dev S w own db fb rb D E n m) {k : List UInt8} {f : FileM} {p : Nat} {dv v : Value} {bs : List UInt8} (hat : ∀ z, D.atKey (.string k) z = .lit (.int .u64 p))
    (hfa : FileAt w p dv f) (hp : own p = some (3, k)) (hb : Below w.heap.size w w') (hrow : w'.ownsRow w.heap.size 5 1 v bs.length (byteCells bs)) (hs : f.synced ≤ bs.length) (hl : bs.length ≤ 262144) :
    ∃ own', Dev S (w'.setCell ⟨p, 0, none⟩ v) own' db fb rb D E n { m with files := setF m.files k (some ⟨bs, f.synced, f.fresh⟩) } ∧ Step own own' w (w'.setCell ⟨p, 0, none⟩ v) := by
  have hplt := h.lt (b := p) (by simp [hp])
  have hnew : ∀ b, b < w.heap.size → v.ownBlock ≠ some b := fun b hb' e => by have := (hrow.lt b e).1; omega
  have hpblk : w'.heap[p]? = some (.cells #[dv, .int .i64 f.synced, .bool f.fresh] 68 (0, 0)) := (hb.block p hplt).trans hfa.1
  refine ⟨fun b => if v.ownBlock = some b then some (4, k) else own b, ?_, ?_⟩
  · refine h.setFile (p := p) (dv := v) (by simpa [World.setCell] using hb.size) (fun b hb' _ h3 _ => ?_) (fun b hb' => ?_) (fun b hb' => ?_) ?_ h.cnt hat (fun _ _ => rfl) (fun _ _ _ => rfl) ?_ ?_ (fun g hg' => by simp [hg'])
    · rw [Below.heap_setCell _ _ _ _ (fun e => h3 (by rw [e]; exact hp))]
      exact hb.block b (h.lt hb')
    · show (if v.ownBlock = some b then some (4, k) else own b) = own b
      rw [if_neg (hnew b (h.lt hb'))]
    · have hb2 : w'.heap.size ≤ b := by simpa [World.setCell] using hb'
      have hne : v.ownBlock ≠ some b := fun e => by have := (hrow.lt b e).2; omega
      simp only [hne, if_false]
      exact h.old b (Nat.le_trans hb.size hb2)
    · obtain ⟨c, hc⟩ := h.fmap
      refine ⟨c, ownsMap_of_block hc ?_⟩
      rw [Below.heap_setCell _ _ _ _ (fun e => by have := h.ofb; rw [e] at this; change own p = _ at this; rw [hp] at this; simp at this)]
      exact hb.block fb hc.lt
    · refine ⟨by rw [setCell_blk hpblk]; rfl, ?_, hs, hl⟩
      exact ownsRow_of_block (ownsRow_base hrow (Nat.zero_le _)) (fun g hg' => Below.heap_setCell _ _ _ _ (fun e => hnew p hplt (by rw [hg', e])))
    · simp only [hnew p hplt, if_false]; exact hp
  · refine ⟨(Fr.of_below hb).setCell _ _ (fun _ => by simp [hp]), fun b hb' hb2 => ?_⟩
    simp only [hnew b hb', if_false]
    exact hb2

theorem bclone_arg {bv : Value} {bs : List UInt8} (h : BArg w own bv bs) (hl : bs.length ≤ 262144) :
    Calls Try.prog 37 #[bv] w fun e w' => ∃ v, e = .returned v ∧ w'.ownsRow w.heap.size 5 1 v bs.length (byteCells bs) ∧ Below w.heap.size w w' := by
  rcases h with ⟨rfl, rfl⟩ | ⟨A, c, rfl, _, hc⟩
  · refine (bclone_nil w).mono ?_
    rintro e w' ⟨rfl, rfl⟩
    exact ⟨_, rfl, ⟨rfl, .inl ⟨rfl, rfl⟩⟩, Below.refl _ _⟩
  · refine (bclone_some A c bs w (by omega) hc).mono ?_
    rintro e w' ⟨v, rfl, h1, h2, _⟩
    exact ⟨v, rfl, h1, h2⟩

end

/-- Between the two calls of Of's round. -/
def OfMid (w : World) (room : Int) (ls : List LogV) (k : Nat) (nm : List UInt8) (db fb rb p : Nat) (w2 : World) : Prop :=
  ∃ (own' : Owner) (D' : DataW Unit) (a l c : _), Dev True w2 own' db fb rb D' (.map []) (k + 1) { ofMk room ls k with files := setF (ofF ls k) nm (some ⟨[], 0, true⟩) } ∧ (∀ z, D'.atKey (.string nm) z = .lit (.int .u64 p)) ∧ FileAt w2 p (.slice a l c) ⟨[], 0, true⟩ ∧
    own' p = some (3, nm) ∧ Step (fun _ => none) own' w w2
/-- Behind Of's round. -/
def OfNext (w : World) (room : Int) (ls : List LogV) (k : Nat) (db fb rb : Nat) (w2 : World) : Prop :=
  ∃ (own' : Owner) (D' : DataW Unit), Dev True w2 own' db fb rb D' (.map []) k (ofMk room ls k) ∧ Step (fun _ => none) own' w w2

theorem of_file {w wr : World} {ow : Owner} {db fb rb k : Nat} {D : DataW Unit} {room : Int} {ls : List LogV} {name : ByteArray} {x : Value} (HD : Dev True wr ow db fb rb D (.map []) k (ofMk room ls k)) (HS : Step (fun _ => none) ow w wr) (hk : k ≤ 64) (hnm : name.size ≤ 281474976710656) (hf : ofF ls k name.data.toList = none)
    {W : World} (hb : Below wr.heap.size wr W) (hnew : W.heap[wr.heap.size]? = some (.cells #[.string name, x] 55)) :
    Calls Try.prog 38 #[.pointer (some ⟨db, 0, none⟩), .string name] W fun e w2 => ∃ p, e = .returned (.pointer (some ⟨p, 0, none⟩)) ∧ p ≠ wr.heap.size ∧ w2.cell? ⟨wr.heap.size, 0, none⟩ = some (.string name) ∧ w2.cell? ⟨wr.heap.size, 1, none⟩ = some x ∧ Hid (OfMid w room ls k name.data.toList db fb rb p w2) := by
  refine ((HD.below hb).file (by omega) hnm).mono ?_
  rintro e w2 ⟨own', D', p, dv, f, rfl, h2, hfe, hat, hfa, hp, hg, st⟩
  have hfe' : f = ⟨[], 0, true⟩ := by rw [hfe]; show (ofF ls k name.data.toList).getD _ = _; rw [hf]; rfl
  subst hfe'
  obtain ⟨a, l, c, rfl⟩ : ∃ a l c, dv = .slice a l c := by
    obtain ⟨a, c, h⟩ := row_slice hfa.2.1
    exact ⟨_, _, _, h⟩
  have ho := HD.old wr.heap.size (Nat.le_refl _)
  have hpw : p ≠ wr.heap.size := fun e => by
    have h5 := st.own wr.heap.size (Array.getElem?_eq_some_iff.1 hnew).1 ho
    rw [← e, hp] at h5
    cases h5
  exact ⟨p, rfl, hpw, st.fr.cell (cell_of_blk hnew rfl) (by simp [ho]), st.fr.cell (cell_of_blk hnew rfl) (by simp [ho]), own', D', a, l, c, h2, hat, hfa, hp, (HS.trans (below_step ow hb)).trans st⟩

theorem of_clone {w w2 : World} {db fb rb k p : Nat} {room : Int} {ls : List LogV} {A : Addr} {o : LogV} (h : OfMid w room ls k o.name.data.toList db fb rb p w2) (ho : ls[k]? = some o) (hat : LAt w A k o) (hok : OfAt ls k o)
    {b : Nat} {x y : Value} (hpb : p ≠ b) (c0 : w2.cell? ⟨b, 0, none⟩ = some x) (c1 : w2.cell? ⟨b, 1, none⟩ = some y) :
    Calls Try.prog 37 #[.slice o.da o.ds.length o.dc] w2 fun e w3 => ∃ a l c a' l' c', e = .returned (.slice a' l' c') ∧ w3.cell? ⟨p, 0, none⟩ = some (.slice a l c) ∧ w3.frozen? ⟨p, 0, none⟩ = false ∧ w3.cell? ⟨b, 0, none⟩ = some x ∧ w3.cell? ⟨b, 1, none⟩ = some y ∧ (w3.setCell ⟨p, 0, none⟩ (.slice a' l' c')).cell? ⟨b, 0, none⟩ = some x ∧ (w3.setCell ⟨p, 0, none⟩ (.slice a' l' c')).cell? ⟨b, 1, none⟩ = some y ∧ Hid (OfNext w room ls (k + 1) db fb rb (w3.setCell ⟨p, 0, none⟩ (.slice a' l' c'))) := by
  obtain ⟨own', D', a, l, c, h2, hz, hfa, hp, st⟩ := h
  refine (bclone_arg (hat.hb.step st) hok.2.2).mono ?_
  rintro e w3 ⟨v, rfl, hrow, hb⟩
  obtain ⟨own3, h3, st3⟩ := h2.filled hz hfa hp hb hrow (Nat.zero_le _) hok.2.2
  obtain ⟨a', c', rfl⟩ := row_slice hrow
  have hplt := h2.lt (b := p) (by simp [hp])
  have hblk := (hb.block p hplt).trans hfa.1
  have d0 := (hb.cell (World.block_lt_of_cell? _ _ c0)).trans c0
  have d1 := (hb.cell (World.block_lt_of_cell? _ _ c1)).trans c1
  have e1 : ofMk room ls (k + 1) = { { ofMk room ls k with files := setF (ofF ls k) o.name.data.toList (some ⟨[], 0, true⟩) } with files := setF (setF (ofF ls k) o.name.data.toList (some ⟨[], 0, true⟩)) o.name.data.toList (some ⟨o.ds, 0, true⟩) } := by
    simp only [ofMk, ofF_succ ho hok.2.1, setF_twice]
  refine ⟨a, l, c, a', _, c', rfl, cell_of_blk hblk rfl, frozen_of_blk hblk, d0, d1, (World.cell?_of_block (Below.heap_setCell _ _ _ _ (Ne.symm hpb))).trans d0, (World.cell?_of_block (Below.heap_setCell _ _ _ _ (Ne.symm hpb))).trans d1, own3, D', ?_, st.trans st3⟩
  rw [e1]
  exact h3

/-- What Of leaves. -/
def OfPost (w : World) (room : Int) (ls : List LogV) (e : Ending) (w' : World) : Prop :=
  (e = .returned (.pointer none) ∧ Below w.heap.size w w' ∧ ¬ OfOk ls) ∨
  (∃ (db fb rb : Nat) (own : Owner) (D : DataW Unit) (n : Nat), e = .returned (.pointer (some ⟨db, 0, none⟩)) ∧ OfOk ls ∧ Dev True w' own db fb rb D (.map []) n (ofM room ls) ∧ n ≤ 64 ∧ Step (fun _ => none) own w w')

set_option maxHeartbeats 4000000 in
set_option maxRecDepth 100000 in
theorem of_calls (room : Int) (a : Option Addr) (c : Nat) (ls : List LogV) (w : World) (hr : -9223372036854775808 ≤ room ∧ room ≤ 9223372036854775807) (hls : LRow w a ls) (hl : ls.length ≤ maxLen) :
    Calls Try.prog 14 #[.int .i64 room, .slice a ls.length c] w (OfPost w room ls) := by
  have Hls := Lib.hid hls
  obtain ⟨l, hll⟩ : ∃ l, ls.length = l := ⟨_, rfl⟩
  rw [hll] at hl ⊢
  have Hl := Lib.hid hll
  unfold maxLen at hl
  clear hls hll
  by_cases h64 : 64 < l
  · have Hbad : Hid (¬ OfOk ls) := fun h => by have := h.1; rw [Hl.out] at this; omega
    have hd : decide ((64 : Int) < (l : Int)) = true := by simp; omega
    go_enter Try.func14, Try.ntmps14
    go_wp2_with fail
    go_ret
    exact Or.inl ⟨rfl, Below.refl _ _, Hbad.out⟩
  · have hd : decide ((64 : Int) < (l : Int)) = false := by simp; omega
    go_enter Try.func14, Try.ntmps14
    go_wp2_with fail
    refine (Dev.new True w room hr).mono ?_
    rintro e w1 ⟨rfl, own1, h1, st1⟩
    have H1 : Hid (Dev True w1 own1 (w.heap.size + 2) w.heap.size (w.heap.size + 1) (.map []) (.map []) 0 (ofMk room ls 0)) := h1
    have ST1 := Lib.hid st1
    clear h1 st1 hd hr
    go_wp2_with fail
    go_loopw [15] (fun i wr => ∃ (k : Nat) (ow : Owner) (D : DataW Unit), k ≤ l ∧ i = .int .i64 k ∧ Hid (∀ j o, j < k → ls[j]? = some o → OfAt ls j o) ∧ Hid (Dev True wr ow (w.heap.size + 2) w.heap.size (w.heap.size + 1) D (.map []) k (ofMk room ls k)) ∧ Hid (Step (fun _ => none) ow w wr)) (fun i _ => l - (intOf i).toNat)
    case atStart => exact ⟨0, own1, _, Nat.zero_le _, rfl, (fun j o h _ => absurd h (Nat.not_lt_zero j)), H1.out, ST1.out⟩
    case round =>
      obtain ⟨k, ow, D, hk, rfl, Hok, HD, HS⟩ := hrel
      by_cases hlt : k < l
      · obtain ⟨o, ho⟩ : ∃ o, ls[k]? = some o := ⟨_, List.getElem?_eq_getElem (by rw [Hl.out]; exact hlt)⟩
        have Ho := Lib.hid ho
        obtain ⟨A, rfl, hat⟩ := Hls.out.below HS.out.below k _ ho
        have c0 := hat.c0
        have c1 := hat.c1
        have hnm := hat.hname
        unfold fld at c1
        unfold maxLen at hnm
        have Hat := Lib.hid hat
        clear ho hat
        have hd : decide ((k : Int) < (l : Int)) = true := by simpa using hlt
        obtain ⟨name, da, dc, ds⟩ := o
        dsimp only at c0 c1 hnm
        cases hnk : nameOk name.data.toList with
        | false =>
          have Hbad : Hid (¬ OfOk ls) := fun h => by have := (h.2 k _ Ho.out).1; rw [hnk] at this; cases this
          have Hnk : Hid (∀ w, Calls Try.prog 36 #[.string name] w fun e w' => e = .returned (.bool false) ∧ w' = w) := fun w => (isName_calls name w (by unfold maxLen; omega)).mono fun e w' h => ⟨by rw [h.1, hnk], h.2.symm⟩
          clear hnk
          go_wp2_with fail
          go_quiet ((go_at_call 36; refine Calls.quiet_of_same (Hnk.out _)))
          go_wp2_with fail
          go_ret
          exact Or.inl ⟨rfl, below_drewN (HS.out.below.alloc HS.out.fr.size _) _, Hbad.out⟩
        | true =>
          have Hnk : Hid (∀ w, Calls Try.prog 36 #[.string name] w fun e w' => e = .returned (.bool true) ∧ w' = w) := fun w => (isName_calls name w (by unfold maxLen; omega)).mono fun e w' h => ⟨by rw [h.1, hnk], h.2.symm⟩
          have HNK := Lib.hid hnk
          clear hnk
          have HD1 := Lib.hid (HD.out.alloc (.cells #[.string name, .slice da ds.length dc] 55))
          have HDn : Hid (∀ q, Dev True ((wr.alloc (.cells #[.string name, .slice da ds.length dc] 55)).drewN q) ow (w.heap.size + 2) w.heap.size (w.heap.size + 1) D (.map []) k (ofMk room ls k)) := fun q => HD1.out.below (below_drewN (Below.refl _ _) q)
          cases hf : ofF ls k name.data.toList with
          | some f =>
            have Hbad : Hid (¬ OfOk ls) := fun h => by have := (h.2 k _ Ho.out).2.1; rw [hf] at this; cases this
            have hlk : ∃ p, ∀ q, (Instr.lookup 62 (.map (some w.heap.size)) (.string name) false).run Try.prog ((wr.alloc (.cells #[.string name, .slice da ds.length dc] 55)).drewN q) = .ok (.pointer (some ⟨p, 0, none⟩)) ((wr.alloc (.cells #[.string name, .slice da ds.length dc] 55)).drewN q) := by
              obtain ⟨p, _, _, hat, _⟩ := (HDn.out 0).look_some (by unfold maxLen; omega) hf
              refine ⟨p, fun q => ?_⟩
              obtain ⟨p', _, h5, hat', _⟩ := (HDn.out q).look_some (by unfold maxLen; omega) hf
              have := (hat .nil).symm.trans (hat' .nil)
              simp at this
              obtain rfl : p' = p := by omega
              exact h5
            obtain ⟨p, hlk⟩ := hlk
            have hlk0 := hlk 0
            have c2 := HD1.out.c1
            clear hf
            go_wp2_with fail
            go_quiet ((go_at_call 36; refine Calls.quiet_of_same (Hnk.out _)))
            go_wp2_with fail
            go_ret
            exact Or.inl ⟨rfl, below_drewN (HS.out.below.alloc HS.out.fr.size _) _, Hbad.out⟩
          | none =>
            have hlk : ∀ q, (Instr.lookup 62 (.map (some w.heap.size)) (.string name) false).run Try.prog ((wr.alloc (.cells #[.string name, .slice da ds.length dc] 55)).drewN q) = .ok (.pointer none) ((wr.alloc (.cells #[.string name, .slice da ds.length dc] 55)).drewN q) := fun q => (HDn.out q).look_none (by unfold maxLen; omega) hf
            have hlk0 := hlk 0
            have c2 := HD1.out.c1
            by_cases hlong : 262144 < ds.length
            · have Hbad : Hid (¬ OfOk ls) := fun h => by have := (h.2 k _ Ho.out).2.2; simp only at this; omega
              have hd4 : decide ((262144 : Int) < (ds.length : Int)) = true := by simp; omega
              clear hf
              go_wp2_with fail
              go_quiet ((go_at_call 36; refine Calls.quiet_of_same (Hnk.out _)))
              go_wp2_with fail
              go_ret
              exact Or.inl ⟨rfl, below_drewN (HS.out.below.alloc HS.out.fr.size _) _, Hbad.out⟩
            · have hd4 : decide ((262144 : Int) < (ds.length : Int)) = false := by simp; omega
              have Hf := Lib.hid hf
              clear hf
              go_wp2_with fail
              go_quiet ((go_at_call 36; refine Calls.quiet_of_same (Hnk.out _)))
              go_wp2_with fail
              have hblk : (((wr.alloc (.cells #[.string name, .slice da ds.length dc] 55)).drewN nq).drew).heap[wr.heap.size]? = some (.cells #[.string name, .slice da ds.length dc] 55) :=
                ((below_drewN (Below.refl (wr.heap.size + 1) (wr.alloc (.cells #[.string name, .slice da ds.length dc] 55))) nq).block wr.heap.size (by omega)).trans (heap_alloc_new wr _)
              have hfl := of_file HD.out HS.out (by omega) (by have h9 := (nameOk_len HNK.out).2; simp at h9; omega) Hf.out ((below_drewN ((Below.refl _ wr).alloc (Nat.le_refl _) (.cells #[.string name, .slice da ds.length dc] 55)) nq).drew) hblk
              have Hfl := Lib.hid hfl
              have hok : OfAt ls k ⟨name, da, dc, ds⟩ := ⟨HNK.out, Hf.out, by show ds.length ≤ 262144; omega⟩
              obtain ⟨A0, hA0, hat0⟩ := Hls.out k _ Ho.out
              injection hA0 with hA0
              subst hA0
              have Hcl : Hid (∀ p w2, OfMid w room ls k name.data.toList (w.heap.size + 2) w.heap.size (w.heap.size + 1) p w2 → p ≠ wr.heap.size → w2.cell? ⟨wr.heap.size, 0, none⟩ = some (.string name) → w2.cell? ⟨wr.heap.size, 1, none⟩ = some (.slice da ds.length dc) → _) := fun p w2 hm hp c0 c1 => of_clone (p := p) (w2 := w2) hm Ho.out hat0 hok hp c0 c1
              dsimp only at Hcl
              have b0 : (((wr.alloc (.cells #[.string name, .slice da ds.length dc] 55)).drewN nq).drew).cell? ⟨wr.heap.size, 0, none⟩ = some (.string name) := cell_of_blk hblk rfl
              have b1 : (((wr.alloc (.cells #[.string name, .slice da ds.length dc] 55)).drewN nq).drew).cell? ⟨wr.heap.size, 1, none⟩ = some (.slice da ds.length dc) := cell_of_blk hblk rfl
              clear hfl hok hat0 hlk hlk0 c2 hd4 hblk
              go_region_held3 (fun W => W.cell? ⟨wr.heap.size, 0, none⟩ = some (.string name) ∧ W.cell? ⟨wr.heap.size, 1, none⟩ = some (.slice da ds.length dc))
                ((refine ⟨?_, ?_⟩ <;> assumption))
                (first
                  | (go_at_call 38; refine Hfl.out.mono ?_; rintro e w2 ⟨p, rfl, hpw, r0, r1, hmid⟩)
                  | (go_at_call 37; refine (Hcl.out _ _ hmid.out hpw r0 r1).mono ?_; rintro e w3 ⟨a, l', c, a', l'', c', rfl, s0, s1, t0, t1, t2, t3, hnext⟩))
              all_goals
                obtain ⟨own5, D5, h5, st5⟩ := hnext.out
                have H5 := Lib.hid h5
                have ST5 := Lib.hid st5
                have Hok1 : Hid (∀ j o, j < k + 1 → ls[j]? = some o → OfAt ls j o) := fun j o hj hjo => by
                  by_cases e : j = k
                  · subst e
                    rw [Ho.out] at hjo
                    injection hjo with hjo
                    subst hjo
                    exact ⟨HNK.out, Hf.out, by show ds.length ≤ 262144; omega⟩
                  · exact Hok.out j o (by omega) hjo
                clear h5 st5 hnext t0 t1 t2 t3 s0 s1 r0 r1 hmid b0 b1 Hcl Hfl
                go_wp2_with fail
                go_roundw
                case rel => exact ⟨k + 1, own5, D5, by omega, by go_num, Hok1, H5, ST5⟩
                case measure => simp [intOf]; omega
      · obtain rfl : k = l := by omega
        have hd : decide ((k : Int) < (k : Int)) = false := by simp
        go_wp2_with fail
        refine (HD.out.settle (S' := True)).mono ?_
        rintro e w2 ⟨rfl, h2, st2⟩
        have H2 := Lib.hid h2
        have ST2 := Lib.hid st2
        clear h2 st2
        go_wp2_with fail
        go_ret
        have hok : OfOk ls := ⟨by rw [Hl.out]; omega, fun j o hj => Hok.out j o (by have := (List.getElem?_eq_some_iff.1 hj).1; rw [Hl.out] at this; exact this) hj⟩
        have e2 : settleM (ofMk room ls k) = ofM room ls := by unfold ofM; rw [Hl.out]
        have h3 := H2.out
        rw [e2] at h3
        exact Or.inr ⟨_, _, _, ow, D, k, rfl, hok, h3, by omega, HS.out.trans ST2.out⟩

end Go.Proofs.Ytgkhnimdlkdaaaa

/- The statement FrameJoin, its walk. | A journal: Open. | A journal: Compact. | A journal: Compact, its walk. | A journal in a law's world: each call of it and of its device, with what it leaves. -/
import Derived.Test.YtdpbnacabinlgaaGreatDoorME
namespace Go.Proofs.YtdpbnacabinlgaaGreatDoor
open Go.RowKit Go.Lib

set_option maxRecDepth 100000 in
/-- The builtin append of texts onto a row that is owned. -/
theorem run_append_trow {w : World} {B : Nat} {a : Option Addr} {c : Nat} {rs : List (List UInt8)} (ht : TRow w a rs) (hn : a = none → c = 0) {v : Value} {l : Nat} {xs : List (List UInt8)} (hown : w.ownsRow B 9 1 v l (recCells xs)) (h63 : (l + rs.length) * 16 ≤ 140737488355328) (hB : B ≤ w.heap.size) (ty : TypeId) :
    ∃ v' w', (Builtin.append_ #[32, 32] ty #[v, .slice a rs.length c]).run Tryz.prog w = .ok v' w' ∧ w'.ownsRow B 9 1 v' (l + rs.length) (recCells (xs ++ rs)) ∧ w.grownBy w' v.ownBlock := by
  obtain ⟨i0, hi, hz0, hz1, hz2⟩ := info_parts infoS16
  have hap : recCells (xs ++ rs) = recCells xs ++ recCells rs := by simp [recCells]
  rw [hap]
  cases a with
  | none =>
    obtain rfl : rs = [] := by
      cases rs with
      | nil => rfl
      | cons x l =>
        obtain ⟨A, e, _⟩ := ht 0 x rfl
        cases e
    have hc := hn rfl
    subst hc
    refine ⟨v, w, run_append_owned_none w B 32 ty 9 i0 1 Tryz.underlying32 hi v l _ hown, ?_, ⟨rfl, rfl, rfl, Nat.le_refl _, fun _ _ _ => rfl⟩⟩
    simpa [recCells] using hown
  | some A =>
    obtain ⟨v', w', h4, h5, h6, _⟩ := run_append_own (P := Tryz.prog) w B 32 ty 9 i0 (.string .empty) 1 16 Tryz.underlying32 hi hz0 hz1 hz2 rfl (by decide) v l _ hown A rs.length c (recCells rs) (by simp [recCells_length])
      (fun j u hu => by
        simp only [recCells, List.getElem?_map, Option.map_eq_some_iff] at hu
        obtain ⟨x, hx1, rfl⟩ := hu
        obtain ⟨A', e, h, _⟩ := ht j x hx1
        injection e with e
        rw [e]
        exact h) (recCells_one rs) (by unfold maxLen; omega) (by omega) hB
    exact ⟨v', w', h4, h5, h6⟩

theorem wpList_append_trow {w : World} {ops : Array Oper} {rest : List Oper} {o : Oper} {ac : Act} {Q : Exit → Act → World → Prop} (hgd : o.guard = none) (s x : Operand)
    (ho : o.op = .call { callee := .builtin .append, args := #[s, x], argTypes := #[32, 32] })
    {B : Nat} {a : Option Addr} {n c : Nat} {rs : List (List UInt8)} (ht : TRow w a rs) (hna : a = none → c = 0) (hn : n = rs.length) {v : Value} {l : Nat} {xs : List (List UInt8)} (hown : w.ownsRow B 9 1 v l (recCells xs)) (h63 : (l + n) * 16 ≤ 140737488355328) (hB : B ≤ w.heap.size)
    (hs : ac.eval s = v) (hx : ac.eval x = .slice a n c)
    (h : ∀ v' w', w'.ownsRow B 9 1 v' (l + n) (recCells (xs ++ rs)) → w.grownBy w' v.ownBlock → wpList Tryz.prog ops Q rest (ac.put o.dst v') w') :
    wpList Tryz.prog ops Q (o :: rest) ac w := by
  subst hn
  refine wpList_plain hgd fun K hK => ?_
  obtain ⟨v', w', hr, h2, h3⟩ := run_append_trow ht hna hown h63 hB o.type
  unfold Oper.wp execOp
  simp only [ho, resolve, invoke, builtin, Sem.run_bind, Sem.run_pure, Result.andThen_ok, List.map_toArray, List.map_cons, List.map_nil, hs, hx, hr]
  exact hK _ _ (h v' w' h2 h3)

theorem ownsRow_emptyT (w : World) (t : TypeId) {B : Nat} (hB : B ≤ w.heap.size) : (w.alloc (.cells #[] t)).ownsRow B t 1 (.slice (some ⟨w.heap.size, 0, none⟩) 0 0) 0 (recCells []) :=
  ⟨rfl, .inr ⟨w.heap.size, 0, #[], rfl, hB, by show (w.heap.push _)[w.heap.size]? = _; simp, Nat.le_refl _, by unfold maxLen; omega, rfl, rfl⟩⟩

/-- A row that is owned: its form, its texts, and no room without memory. -/
theorem TRow.form {w : World} {base : Nat} {v : Value} {n : Nat} {rs : List (List UInt8)} (h : w.ownsRow base 9 1 v n (recCells rs)) (hs : ∀ r ∈ rs, r.length ≤ maxLen) : ∃ a c, v = .slice a rs.length c ∧ TRow w a rs ∧ (a = none → c = 0) := by
  obtain ⟨a, c, rfl, ht, _⟩ := TRow.of_owns h hs
  refine ⟨a, c, rfl, ht, fun e => ?_⟩
  rcases h.2 with ⟨h1, _⟩ | ⟨g, cap, cur, h1, _⟩
  · injection h1
  · rw [e] at h1; injection h1 with h1; cases h1

theorem cutB_other {x : UInt8} {t : List UInt8} (hx : x ≠ 82) : cutB (x :: t) = [] := by
  refine cutB_none ?_
  by_cases h : (x :: t).length < 5
  · exact firstB_short h
  · refine firstB_mark h ?_
    show x.toNat ≠ 82
    intro e
    exact hx (UInt8.toNat_inj.1 e)

end Go.Proofs.YtdpbnacabinlgaaGreatDoor
namespace Go.Proofs.YtdpbnacabinlgaaGreatDoor
open Go.RowKit Go.Lib Go.Maps Go.ChangeMaps Go.Sort Go.Shelf

/-- A row of texts that no device owns. -/
def OwnT (B : Nat) (w : World) (own : Owner) (v : Value) (rs : List (List UInt8)) : Prop := w.ownsRow B 9 1 v rs.length (recCells rs) ∧ ∀ g, v.ownBlock = some g → own g = none
theorem OwnT.step {B : Nat} {w w' : World} {own own' : Owner} {v : Value} {rs : List (List UInt8)} (h : OwnT B w own v rs) (hs : Step own own' w w') : OwnT B w' own' v rs :=
  ⟨ownsRow_of_block h.1 (fun g hg => hs.fr.block g (h.1.lt g hg).2 (by simp [h.2 g hg])), fun g hg => hs.own g (h.1.lt g hg).2 (h.2 g hg)⟩
theorem OwnT.below {B : Nat} {w w' : World} {own : Owner} {v : Value} {rs : List (List UInt8)} (h : OwnT B w own v rs) (hb : Below w.heap.size w w') : OwnT B w' own v rs := h.step (below_step own hb)
theorem OwnT.base {B B' : Nat} {w : World} {own : Owner} {v : Value} {rs : List (List UInt8)} (h : OwnT B w own v rs) (hB : B' ≤ B) : OwnT B' w own v rs := ⟨⟨h.1.1, h.1.2.imp id (fun ⟨g, cap, cur, h1, h2, h3⟩ => ⟨g, cap, cur, h1, Nat.le_trans hB h2, h3⟩)⟩, h.2⟩

theorem IRow.step {w w' : World} {own own' : Owner} {a : Option Addr} {ns : List Nat} (h : IRow w a ns) (ha : ∀ A, a = some A → own A.block = none) (hs : Step own own' w w') : IRow w' a ns := fun j n hj => by
  obtain ⟨A, h1, h2⟩ := h j n hj
  exact ⟨A, h1, hs.fr.cell h2 (by rw [add_block]; simp [ha A h1])⟩

/-- What Open leaves of a device that is not down. -/
def OpenPost (w : World) (own : Owner) (db fb gb n : Nat) (r : RDm) (e : Ending) (w' : World) : Prop :=
  ((openS r).2 = 0 ∧ ∃ jb own' ra rc, e = .returned (.tuple #[.pointer (some ⟨jb, 0, none⟩), .string (strB (lastP r).2), .bool (decide (0 < (lastP r).1)), .slice ra (recsR (openS r).1 (behindL r (lastP r).1)).length rc, .int .i64 0]) ∧
    JDev w' own' jb db fb gb n ⟨(openS r).1, topR r, false⟩ ∧ w.heap.size ≤ jb ∧ Step own own' w w' ∧ OwnT w.heap.size w' own' (.slice ra (recsR (openS r).1 (behindL r (lastP r).1)).length rc) (recsR (openS r).1 (behindL r (lastP r).1)) ∧ (∀ g, (Value.slice ra (recsR (openS r).1 (behindL r (lastP r).1)).length rc).ownBlock = some g → g ≠ jb)) ∨
  ((openS r).2 ≠ 0 ∧ ∃ own', e = .returned (.tuple #[.pointer none, .string ⟨#[]⟩, .bool false, .slice none 0 0, .int .i64 (openS r).2]) ∧ LDev w' own' db fb gb n (openS r).1 ∧ Step own own' w w')

theorem cutB_len (bs : List UInt8) : (cutB bs).length ≤ bs.length := by
  have h1 := lensN_ge (cutB bs)
  have h2 := cutN_le _ bs rfl
  unfold cutN at h2
  omega

theorem cutB_each {bs r : List UInt8} (h : r ∈ cutB bs) : r.length ≤ bs.length := by
  have h1 : lensN (cutB bs) ≤ bs.length := cutN_le _ bs rfl
  have h2 : ∀ (rs : List (List UInt8)), r ∈ rs → r.length ≤ lensN rs := by
    intro rs
    induction rs with
    | nil => intro h; cases h
    | cons a rs ih =>
      intro h
      have e : lensN (a :: rs) = a.length + 5 + lensN rs := by simp [lensN]
      rcases List.mem_cons.1 h with rfl | h
      · omega
      · have := ih h
        omega
  exact Nat.le_trans (h2 _ h) h1

theorem recsR_take {r : RDm} {ns : List Nat} {k n : Nat} (h : ns[k]? = some n) : recsR r (ns.take (k + 1)) = recsR r (ns.take k) ++ cutB (bytesR r (numName logM n)) := by
  unfold recsR
  rw [List.take_add_one, h]
  simp
theorem recsR_len {w : World} {own : Owner} {db fb gb n : Nat} {r : RDm} (h : LDev w own db fb gb n r) (ns : List Nat) : (recsR r ns).length ≤ ns.length * 262144 := by
  induction ns with
  | nil => exact Nat.le_refl _
  | cons a ns ih =>
    have h1 := bytesR_le h (numName logM a)
    have h2 := cutB_len (bytesR r (numName logM a))
    have e : recsR r (a :: ns) = cutB (bytesR r (numName logM a)) ++ recsR r ns := by simp [recsR]
    rw [e, List.length_append, List.length_cons]
    omega

set_option maxRecDepth 100000 in
set_option maxHeartbeats 1000000 in
theorem open_up {w : World} {own : Owner} {db fb gb nn : Nat} {r : RDm} (h : LDev w own db fb gb nn r) (hv : Vars w own) (hnn : nn ≤ 9000) (hoff : r.off = false) (ha : r.acts ≤ 900000000000) (ha2 : (leaveR r (stR r)).1.acts ≤ 1000000000000) :
    Calls Tryz.prog 15 #[.pointer (some ⟨db, 0, none⟩)] w (OpenPost w own db fb gb nn r) := by
  have hd := h.down
  rw [hoff] at hd
  have HD := Lib.hid hd
  have HQ : Hid (∀ X, Below w.heap.size w X → Calls Tryz.prog 44 #[.pointer (some ⟨db, 0, none⟩)] X fun e w' => e = .returned (.tuple #[.int .i64 (lastP r).1, .string (strB (lastP r).2), .bool (decide (0 < (lastP r).1))]) ∧ Below w.heap.size w w') := fun X hX => (lastPicture_calls (h.below hX) (hv.below hX) (by omega)).mono fun e w' hh => ⟨hh.1, hX.trans (hh.2.mono hX.size)⟩
  have HL := Lib.hid h
  have HV := Lib.hid hv
  clear h hd hv
  go_enter Tryz.func15, Tryz.ntmps15
  go_wp2_with (go_at_call 43; refine HD.out.mono ?_; rintro e w1 ⟨rfl, hww⟩; rw [hww]; clear hww)
  refine (HQ.out w (Below.refl _ _)).mono ?_
  rintro e w1 ⟨rfl, hb1⟩
  have HB1 := Lib.hid hb1
  have HL1 := Lib.hid (logsBehind_calls (HL.out.below hb1) (HV.out.below hb1) (by omega) (lastP r).1)
  clear hb1
  go_wp2_with fail
  refine HL1.out.mono ?_
  rintro e w2 ⟨la, lc, rfl, hir, hla, hb2⟩
  have HB2 := Lib.hid (HB1.out.trans (hb2.mono HB1.out.size))
  have HIR := Lib.hid hir
  have HLA : Hid (∀ A, la = some A → own A.block = none) := fun A e => HL.out.old _ (Nat.le_trans HB1.out.size (hla A e))
  clear hb2 hir hla
  go_wp2_with fail
  have HS := Lib.hid (stays_calls (c := lc) (HV.out.below HB2.out) HIR.out (Nat.le_trans (behindL_len _ _) (Nat.le_trans HL.out.len_le hnn)) (fun n hn => (behindL_le hn).2) (lastP_le r))
  refine HS.out.mono ?_
  rintro e w3 ⟨sv, rfl, hsr, hb3⟩
  have HB3 := Lib.hid (HB2.out.trans (hb3.mono HB2.out.size))
  have HIR3 := Lib.hid (HIR.out.below hb3)
  obtain ⟨sa, sc, rfl, hnr⟩ := NameRow.of_owns (own := own) hsr (HL.out.below HB2.out).old
  have HNR := Lib.hid hnr
  clear hb3 hsr hnr
  go_wp2_with fail
  refine (jleave_calls sa _ sc).mono ?_
  rintro e w4 ⟨rfl, rfl⟩
  go_wp2_with fail
  have hold : ∀ b, w3.heap.size ≤ b → own b = none := (HL.out.below HB3.out).old
  have hb4 := allocs_below [.cells #[.pointer (some ⟨db, 0, none⟩)] 27, .cells #[.slice sa (staysL (lastP r).1 (behindL r (lastP r).1)).length sc] 32, .cells #[.func (.func 76) #[] #[.pointer (some ⟨w3.heap.size, 0, none⟩), .pointer (some ⟨w3.heap.size + 1, 0, none⟩)], .func (.func 49) #[.pointer (some ⟨db, 0, none⟩)] #[]] 47] w3
  have k0 := allocs_at [.cells #[.pointer (some ⟨db, 0, none⟩)] 27, .cells #[.slice sa (staysL (lastP r).1 (behindL r (lastP r).1)).length sc] 32, .cells #[.func (.func 76) #[] #[.pointer (some ⟨w3.heap.size, 0, none⟩), .pointer (some ⟨w3.heap.size + 1, 0, none⟩)], .func (.func 49) #[.pointer (some ⟨db, 0, none⟩)] #[]] 47] w3 0 _ rfl
  have k1 := allocs_at [.cells #[.pointer (some ⟨db, 0, none⟩)] 27, .cells #[.slice sa (staysL (lastP r).1 (behindL r (lastP r).1)).length sc] 32, .cells #[.func (.func 76) #[] #[.pointer (some ⟨w3.heap.size, 0, none⟩), .pointer (some ⟨w3.heap.size + 1, 0, none⟩)], .func (.func 49) #[.pointer (some ⟨db, 0, none⟩)] #[]] 47] w3 1 _ rfl
  have k2 := allocs_at [.cells #[.pointer (some ⟨db, 0, none⟩)] 27, .cells #[.slice sa (staysL (lastP r).1 (behindL r (lastP r).1)).length sc] 32, .cells #[.func (.func 76) #[] #[.pointer (some ⟨w3.heap.size, 0, none⟩), .pointer (some ⟨w3.heap.size + 1, 0, none⟩)], .func (.func 49) #[.pointer (some ⟨db, 0, none⟩)] #[]] 47] w3 2 _ rfl
  have hsl : (staysL (lastP r).1 (behindL r (lastP r).1)).length ≤ 1000000 := by
    have h1 := behindL_len r (lastP r).1
    have h2 := HL.out.len_le
    unfold staysL
    rw [List.length_append, List.length_map]
    split <;> simp <;> omega
  obtain ⟨W4, hW4⟩ : ∃ W4, W4 = allocs w3 [.cells #[.pointer (some ⟨db, 0, none⟩)] 27, .cells #[.slice sa (staysL (lastP r).1 (behindL r (lastP r).1)).length sc] 32, .cells #[.func (.func 76) #[] #[.pointer (some ⟨w3.heap.size, 0, none⟩), .pointer (some ⟨w3.heap.size + 1, 0, none⟩)], .func (.func 49) #[.pointer (some ⟨db, 0, none⟩)] #[]] 47] := ⟨_, rfl⟩
  rw [← hW4] at hb4 k0 k1 k2
  have hls := leave_sync (HL.out.below (HB3.out.trans (hb4.mono HB3.out.size))) (by omega) ha ha2 (by have := HL.out.len_le; omega) (cell_of_blk k0 rfl) (cell_of_blk k1 rfl) (hold _ (by omega)) (hold _ (by omega)) (hold (w3.heap.size + 2) (by omega)) (HNR.out.step (Step.of_fr (Fr.of_below hb4))) hsl (cell_of_blk k2 rfl) (cell_of_blk k2 rfl)
  change Calls _ _ _ (allocs w3 [.cells #[.pointer (some ⟨db, 0, none⟩)] 27, .cells #[.slice sa (staysL (lastP r).1 (behindL r (lastP r).1)).length sc] 32, .cells #[.func (.func 76) #[] #[.pointer (some ⟨w3.heap.size, 0, none⟩), .pointer (some ⟨w3.heap.size + 1, 0, none⟩)], .func (.func 49) #[.pointer (some ⟨db, 0, none⟩)] #[]] 47]) _
  rw [← hW4]
  refine hls.mono ?_
  rintro e w5 ⟨rfl, own5, hd5, hst5⟩
  have hst5w := hst5
  have hst5 : Step own own5 w w5 := (below_step own (HB3.out.trans (hb4.mono HB3.out.size))).trans hst5w
  have hz : seqS [fun r1 => leaveR r1 (stR r), syncR] r = openS r := rfl
  rw [hz] at hd5 ⊢
  obtain ⟨z, hz2⟩ : ∃ z, openS r = z := ⟨_, rfl⟩
  have HZ : Hid (openS r = z) := hz2
  rw [hz2] at hd5 ⊢
  obtain ⟨pn, hpn⟩ : ∃ pn, (lastP r).1 = pn := ⟨_, rfl⟩
  have HPN : Hid ((lastP r).1 = pn) := hpn
  obtain ⟨logs, hlogs⟩ : ∃ logs, behindL r pn = logs := ⟨_, rfl⟩
  have HLG : Hid (behindL r (lastP r).1 = logs) := by rw [hpn]; exact hlogs
  obtain ⟨q, hq⟩ : ∃ q, logs.length = q := ⟨_, rfl⟩
  have Hq := Lib.hid hq
  have hq1000 : q ≤ 9000 := by
    rw [← hq, ← hlogs]
    exact Nat.le_trans (behindL_len _ _) (Nat.le_trans HL.out.len_le hnn)
  have HLE : Hid (∀ n ∈ logs, n ≤ 9223372036854775807) := fun n hn => (behindL_le (r := r) (at_ := pn) (by rw [hlogs]; exact hn)).2
  have HIR5 : Hid (IRow w5 la logs) := by
    have h1 := IRow.step (HIR3.out.below hb4) HLA.out hst5w
    rw [hpn, hlogs] at h1
    exact h1
  have HD5 := Lib.hid hd5
  have HST5 := Lib.hid hst5
  have HV5 := Lib.hid (HV.out.step hst5)
  have HFAR : Hid (w.heap.size ≤ w5.heap.size) := hst5.fr.size
  rw [hpn, hlogs, hq]
  obtain ⟨pt, hpt⟩ : ∃ pt, (lastP r).2 = pt := ⟨_, rfl⟩
  have HPT : Hid ((lastP r).2 = pt) := hpt
  rw [hpt]
  clear hls hlogs hq hpn hpt hd5 hst5 hst5w hz hz2 hb4 k0 k1 k2 hsl hold hW4 HQ HS HL1 HD
  obtain ⟨zr, zc⟩ := z
  by_cases h0 : zc = 0
  · subst h0
    have hinv : Hid ((openS r).2 = 0) := by rw [HZ.out]; exact rfl
    go_wp2_with fail
    go_loopw [13, 47] (fun v i wr => ∃ k : Nat, k ≤ q ∧ i = .int .i64 k ∧ Hid (wr.ownsRow (w5.heap.size + 1) 9 1 v (recsR zr (logs.take k)).length (recCells (recsR zr (logs.take k)))) ∧ Hid (Below w5.heap.size w5 wr) ∧ Hid (JAt wr w5.heap.size db ((logs.take k).getLast?.getD pn) false)) (fun _ i _ => q - (intOf i).toNat)
    case atStart => exact ⟨0, Nat.zero_le _, rfl, by rw [List.take_zero]; exact World.ownsRow_nil _ _ _ _, (Below.refl _ _).alloc (Nat.le_refl _) _, heap_alloc_new w5 _⟩
    case round =>
      obtain ⟨k, hk, rfl, HO, HB, HJ⟩ := hrel
      by_cases hlt : k < q
      · obtain ⟨x, hx⟩ : ∃ x, logs[k]? = some x := ⟨_, List.getElem?_eq_getElem (by rw [Hq.out]; exact hlt)⟩
        have HX := Lib.hid hx
        obtain ⟨A, rfl, c0⟩ := (HIR5.out.below HB.out) k x hx
        have HBY := Lib.hid ((HD5.out.below HB.out).bytesOf (HV5.out.below HB.out) ⟨#[108, 111, 103, 45]⟩ x (by decide) (HLE.out x (List.mem_of_getElem? hx)))
        have hk0 : (0 : Int) ≤ (k : Int) := by omega
        have hk1 : (k : Int) < (q : Int) := by omega
        have HRL : Hid ((recsR zr (logs.take k)).length ≤ 9000 * 262144) := by
          have h1 := recsR_len HD5.out (logs.take k)
          rw [List.length_take] at h1
          show _ ≤ _
          have h2 : min k logs.length ≤ 9000 := by omega
          exact Nat.le_trans h1 (Nat.mul_le_mul_right _ h2)
        clear hx
        go_wp2_with fail
        refine HBY.out.mono ?_
        rintro e w6 ⟨ba, bc, rfl, hrow6, hb6⟩
        simp only [show numName (ByteArray.mk #[108, 111, 103, 45]).data.toList x = numName logM x from rfl] at hrow6 ⊢
        obtain ⟨bs, hbs⟩ : ∃ bs, bytesR zr (numName logM x) = bs := ⟨_, rfl⟩
        have hbl := bytesR_le HD5.out (numName logM x)
        rw [hbs] at hrow6 hbl ⊢
        have HBS : Hid (bytesR zr (numName logM x) = bs) := hbs
        have HB6 : Hid (Below wr.heap.size wr w6) := hb6
        have HCC := Lib.hid (cut_calls w6 _ bs (BRow.of_owns hrow6) (by omega))
        have HCL : Hid ((cutB bs).length ≤ 262144) := Nat.le_trans (cutB_len bs) hbl
        have HBL : Hid (bs.length ≤ 262144) := hbl
        clear hbs hb6 hrow6 hbl HBY
        go_wp2_with fail
        refine HCC.out.mono ?_
        rintro e w7 ⟨v7, rfl, hrow7, hb7⟩
        have hsm : ∀ r ∈ cutB bs, r.length ≤ maxLen := fun r hr => by
          have h1 : r.length ≤ bs.length := cutB_each hr
          have := HBL.out
          unfold maxLen
          omega
        obtain ⟨va, vc, rfl, ht7, hnil7⟩ := TRow.form hrow7 hsm
        have HT7 := Lib.hid ht7
        have HN7 := Lib.hid hnil7
        have HB7 : Hid (Below wr.heap.size wr w7) := HB6.out.trans (hb7.mono HB6.out.size)
        have HO7 := Lib.hid (ownsRow_of_block HO.out (fun g hg => HB7.out.block g (HO.out.lt g hg).2))
        obtain ⟨cl, hcl⟩ : ∃ cl, (cutB bs).length = cl := ⟨_, rfl⟩
        have HC : Hid ((cutB bs).length = cl) := hcl
        rw [hcl]
        clear hcl hrow7 ht7 hnil7 hb7 hsm HCC
        have HBB : Hid (w5.heap.size + 1 ≤ w7.heap.size) := by have := HJ.out.lt; have := HB7.out.size; show _ ≤ _; omega
        have HJ7 := Lib.hid (HJ.out.below HB7.out)
        go_wp2_with (first
          | (at_builtin; refine wpList_append_trow rfl (.tmp 58) (.tmp 59) rfl HT7.out HN7.out HC.out.symm HO7.out (by have := HRL.out; have := HCL.out; have := HC.out; omega) HBB.out (by simp [Act.eval]) (by simp [Act.eval]) ?_; intro v8 w8 hown8 hgrow8; have HJ8 : Hid (JAt w8 w5.heap.size db ((logs.take k).getLast?.getD pn) false) := Lib.hid ((hgrow8.block w5.heap.size HJ7.out.lt (fun e => by have := (HO7.out.lt _ e.symm).1; omega)).trans HJ7.out); have y1 := HJ8.out.c1; have y2 := HJ8.out.f 1; have HB8 : Hid (Below w5.heap.size w5 w8) := Lib.hid ((HB.out.trans (HB7.out.mono HB.out.size)).grown hgrow8 (Nat.le_trans HB.out.size HB7.out.size) (fun q hq => by have := (HO7.out.lt q hq).1; omega)); have HO8 := Lib.hid hown8; clear hown8 hgrow8))
        go_roundw
        case rel =>
          refine ⟨k + 1, by omega, by go_num, ?_, HB8.out.setCell (Nat.le_refl _) _, ?_⟩
          · have e1 : recsR zr (logs.take (k + 1)) = recsR zr (logs.take k) ++ cutB bs := by rw [recsR_take HX.out, HBS.out]
            have h8 := HO8.out
            rw [← HC.out, ← List.length_append, ← e1] at h8
            exact ownsRow_of_block h8 (fun g hg => Below.heap_setCell _ _ _ _ (fun e => by have := (h8.lt g hg).1; have e : g = w5.heap.size := e; omega))
          · have e2 : (logs.take (k + 1)).getLast?.getD pn = x := by rw [List.take_add_one, HX.out]; simp
            rw [e2]
            exact setCell_blk HJ8.out _
        case measure => simp [intOf]; omega
      · have hkq : k = q := by omega
        have hfin : logs.take k = logs := by rw [hkq, ← Hq.out]; exact List.take_length
        rw [hfin] at HO HJ
        have hsm : ∀ r ∈ recsR zr logs, r.length ≤ maxLen := fun r hr => by
          unfold recsR at hr
          obtain ⟨l, hl, hr⟩ := List.mem_flatten.1 hr
          obtain ⟨n, _, rfl⟩ := List.mem_map.1 hl
          have h1 := cutB_each hr
          have h2 := bytesR_le HD5.out (numName logM n)
          unfold maxLen
          omega
        obtain ⟨va, vc, hv8⟩ := row_slice HO.out
        subst hv8
        have HOT : Hid (OwnT w.heap.size wr own5 (.slice va (recsR zr logs).length vc) (recsR zr logs)) := ⟨⟨HO.out.1, HO.out.2.imp id (fun ⟨g, cap, cur, h1, h2, h3⟩ => ⟨g, cap, cur, h1, by have := HFAR.out; omega, h3⟩)⟩, fun g hg => HD5.out.old g (by have := (HO.out.lt g hg).1; omega)⟩
        have HNE : Hid (∀ g, (Value.slice va (recsR zr logs).length vc).ownBlock = some g → g ≠ w5.heap.size) := fun g hg e => by have := (HO.out.lt g hg).1; omega
        clear hsm hfin hkq
        go_wp2_with fail
        refine bodyPost_ret (v := .tuple #[.pointer (some ⟨w5.heap.size, 0, none⟩), .string (strB pt), .bool (decide (0 < pn)), .slice va (recsR zr logs).length vc, .int .i64 0]) (by simp [results, go_sem]) rfl ?_
        have hst : Step own own5 w wr := HST5.out.trans (below_step own5 HB.out)
        have htop : topR r = logs.getLast?.getD pn := by unfold topR; rw [HLG.out, HPN.out]
        refine .inl ⟨hinv.out, w5.heap.size, own5, va, vc, ?_, ⟨?_, ?_, ?_, ?_⟩, HFAR.out, hst, ?_, ?_⟩
        · rw [HLG.out, HPN.out, HPT.out, HZ.out]
        · rw [HZ.out]; exact HD5.out.below HB.out
        · exact HV5.out.below HB.out
        · rw [htop]; exact HJ.out
        · exact HD5.out.old _ (Nat.le_refl _)
        · rw [HLG.out, HZ.out]; exact HOT.out
        · rw [HLG.out, HZ.out]; exact HNE.out
  · have hne : (zc != 0) = true := by simpa using h0
    have hn0 : Hid ((openS r).2 ≠ 0) := by rw [HZ.out]; exact h0
    clear h0
    go_wp2_with fail
    refine bodyPost_ret (v := .tuple #[.pointer none, .string ⟨#[]⟩, .bool false, .slice none 0 0, .int .i64 zc]) (by simp [results, go_sem]) rfl ?_
    refine .inr ⟨hn0.out, own5, by rw [HZ.out], by rw [HZ.out]; exact HD5.out, HST5.out⟩

end Go.Proofs.YtdpbnacabinlgaaGreatDoor
namespace Go.Proofs.YtdpbnacabinlgaaGreatDoor
open Go.RowKit Go.Lib Go.Maps Go.ChangeMaps Go.Sort Go.Shelf

theorem removes_acts : ∀ (ns : List (List UInt8)) (r : RDm), (seqS (ns.map fun nm r => removeR r nm) r).1.acts ≤ r.acts + ns.length
  | [], r => by simp [seqS]
  | n :: ns, r => by
    rw [List.map_cons, seqS]
    have h1 := removeR_acts r n
    split
    · have := removes_acts ns (removeR r n).1
      rw [List.length_cons]
      omega
    · rw [List.length_cons]
      omega
theorem leaveR_acts (r : RDm) (st : List (List UInt8)) : (leaveR r st).1.acts ≤ r.acts + r.L.length := by
  have h1 := removes_acts (dropL r st) r
  have h2 : (dropL r st).length ≤ r.L.length := by
    unfold dropL
    refine Nat.le_trans (List.length_filter_le _ _) ?_
    rw [List.length_map]
    exact Nat.le_refl _
  show (seqS _ r).1.acts ≤ _
  omega

/-- A journal's state behind k steps of Compact's row. -/
def JC (jb db fb gb n : Nat) (a : Int) (k : Nat) (w : World) (own : Owner) (j : JM) : Prop := JDev w own jb db fb gb (n + k) j ∧ j.r.acts ≤ a + 1000000 * k

section
variable {w W : World} {own o : Owner} {jb db fb gb n k : Nat} {a : Int} {j y : JM}

theorem JC.up {k' : Nat} (h : JC jb db fb gb n a k w own j) (hk : k ≤ k') : JC jb db fb gb n a k' w own j := ⟨h.1.mono (by omega), by have := h.2; omega⟩
theorem JC.jk (h : JC jb db fb gb n a k w own j) : JK jb db fb gb n (a + 999999 * k) k w own j := ⟨h.1, by have := h.2; omega⟩
theorem JC.of_jk {z : JM × Int} {e : Ending} {W' : World} (h : SPost (JK jb db fb gb n (a + 999999 * k)) (JQ jb) (k + 1) o W z e W') : SPost (JC jb db fb gb n a) (JQ jb) (k + 1) o W z e W' := by
  obtain ⟨he, own', hp, hq⟩ := h
  exact ⟨he, own', ⟨hp.1, by have := hp.2; omega⟩, hq⟩

theorem JC.sync (h : JC jb db fb gb n a k W o y) (ha : a + 1000000 * k ≤ 1000000000000) :
    Calls Tryz.prog 49 #[.pointer (some ⟨db, 0, none⟩)] W (SPost (JC jb db fb gb n a) (JQ jb) (k + 1) o W (syncJ y)) := by
  have hac := h.2
  refine (h.1.dev.sync (by omega)).mono ?_
  intro e w' hp
  obtain ⟨he, own', hd, st⟩ := h.1.act hp
  refine ⟨he, own', ⟨hd.mono (by omega), ?_⟩, st⟩
  have := syncR_acts y.r
  show (syncR y.r).1.acts ≤ _
  omega

theorem JC.leave (h : JC jb db fb gb n a k W o y) (hq : JQ jb own o w W) (hn : n + k ≤ 100000) (ha : a + 1000000 * k ≤ 900000000000) {x0 x1 sc : Nat} {sa : Option Addr} {st : List (List UInt8)}
    (y0 : w.cell? ⟨x0, 0, none⟩ = some (.pointer (some ⟨db, 0, none⟩))) (y1 : w.cell? ⟨x1, 0, none⟩ = some (.slice sa st.length sc)) (o0 : jo own jb x0 = none) (o1 : jo own jb x1 = none) (hst : NameRow w (jo own jb) sa st) (hsl : st.length ≤ 1000000) :
    Calls Tryz.prog 76 #[.pointer (some ⟨x0, 0, none⟩), .pointer (some ⟨x1, 0, none⟩)] W (SPost (JC jb db fb gb n a) (JQ jb) (k + 1) o W (leaveJ st y)) := by
  have kp : ∀ {b : Nat} {v : Value}, jo own jb b = none → w.cell? ⟨b, 0, none⟩ = some v → W.cell? ⟨b, 0, none⟩ = some v := fun ho hv => hq.fr.cell hv (by simp [ho])
  have kn : ∀ {b : Nat} {v : Value}, jo own jb b = none → w.cell? ⟨b, 0, none⟩ = some v → o b = none := fun ho hv => (jo_none.1 (hq.own _ (World.block_lt_of_cell? _ _ hv) ho)).2
  have hac := h.2
  have hlen := h.1.dev.len_le
  have hst2 : NameRow W o sa st := by
    rcases hst.step hq with h1 | ⟨g, h1, h2, h3⟩
    · exact .inl h1
    · exact .inr ⟨g, h1, (jo_none.1 h2).2, h3⟩
  refine (h.1.dev.leave1 (by omega) (by omega) (by omega) (kp o0 y0) (kp o1 y1) (kn o0 y0) hst2 hsl).mono ?_
  intro e w' hp
  obtain ⟨he, own', hd, st'⟩ := h.1.act hp
  refine ⟨he, own', ⟨hd.mono (by omega), ?_⟩, st'⟩
  have := leaveR_acts y.r st
  show (leaveR y.r st).1.acts ≤ _
  omega

/-- The values that the steps are made of. -/
def C17 (own : Owner) (bs : List UInt8) (W : World) (v : Value) : Prop := ∃ ba c, v = .slice ba bs.length c ∧ BArg W own (.slice ba bs.length c) bs
def C18 (own : Owner) (B jb q : Nat) (bs : List UInt8) (W : World) (v : Value) : Prop := ∃ x0 x1 x2 x3 ba c, v = .func (.func 90) #[] #[.pointer (some ⟨x0, 0, none⟩), .pointer (some ⟨x1, 0, none⟩), .pointer (some ⟨x2, 0, none⟩), .pointer (some ⟨x3, 0, none⟩)] ∧ (B ≤ x0 ∧ B ≤ x1 ∧ B ≤ x2 ∧ B ≤ x3) ∧
  W.cell? ⟨x0, 0, none⟩ = some (.pointer (some ⟨jb, 0, none⟩)) ∧ W.cell? ⟨x1, 0, none⟩ = some (.string ⟨#[115, 110, 97, 112, 45]⟩) ∧ W.cell? ⟨x2, 0, none⟩ = some (.int .i64 q) ∧ W.cell? ⟨x3, 0, none⟩ = some (.slice ba bs.length c) ∧ BArg W own (.slice ba bs.length c) bs
def C26 (B jb q : Nat) (W : World) (v : Value) : Prop := ∃ x0 x1 x2, v = .func (.func 92) #[] #[.pointer (some ⟨x0, 0, none⟩), .pointer (some ⟨x1, 0, none⟩), .pointer (some ⟨x2, 0, none⟩)] ∧ (B ≤ x0 ∧ B ≤ x1 ∧ B ≤ x2) ∧
  W.cell? ⟨x0, 0, none⟩ = some (.int .i64 q) ∧ W.cell? ⟨x1, 0, none⟩ = some (.bool false) ∧ W.cell? ⟨x2, 0, none⟩ = some (.pointer (some ⟨jb, 0, none⟩))
def C32 (own : Owner) (st : List (List UInt8)) (W : World) (v : Value) : Prop := ∃ sa sc, v = .slice sa st.length sc ∧ NameRow W own sa st
def C33 (own : Owner) (B db : Nat) (st : List (List UInt8)) (W : World) (v : Value) : Prop := ∃ x0 x1 sa sc, v = .func (.func 76) #[] #[.pointer (some ⟨x0, 0, none⟩), .pointer (some ⟨x1, 0, none⟩)] ∧ (B ≤ x0 ∧ B ≤ x1) ∧
  W.cell? ⟨x0, 0, none⟩ = some (.pointer (some ⟨db, 0, none⟩)) ∧ W.cell? ⟨x1, 0, none⟩ = some (.slice sa st.length sc) ∧ NameRow W own sa st

theorem cell_below {W W' : World} {p : Addr} {v : Value} (hb : Below W.heap.size W W') (h : W.cell? p = some v) : W'.cell? p = some v := (hb.cell (World.block_lt_of_cell? _ _ h)).trans h

theorem C17.below {bs : List UInt8} {W W' : World} {v : Value} (h : Hid (C17 own bs W v)) (hb : Below W.heap.size W W') : Hid (C17 own bs W' v) := by
  obtain ⟨ba, c, h1, h2⟩ := h
  exact ⟨ba, c, h1, h2.step (below_step _ hb)⟩
theorem C18.below {B q : Nat} {bs : List UInt8} {W W' : World} {v : Value} (h : Hid (C18 own B jb q bs W v)) (hb : Below W.heap.size W W') : Hid (C18 own B jb q bs W' v) := by
  obtain ⟨x0, x1, x2, x3, ba, c, h1, hB, h2, h3, h4, h5, h6⟩ := h
  exact ⟨x0, x1, x2, x3, ba, c, h1, hB, cell_below hb h2, cell_below hb h3, cell_below hb h4, cell_below hb h5, h6.step (below_step _ hb)⟩
theorem C26.below {B q : Nat} {W W' : World} {v : Value} (h : Hid (C26 B jb q W v)) (hb : Below W.heap.size W W') : Hid (C26 B jb q W' v) := by
  obtain ⟨x0, x1, x2, h1, hB, h2, h3, h4⟩ := h
  exact ⟨x0, x1, x2, h1, hB, cell_below hb h2, cell_below hb h3, cell_below hb h4⟩
theorem C32.below {st : List (List UInt8)} {W W' : World} {v : Value} (h : Hid (C32 own st W v)) (hb : Below W.heap.size W W') : Hid (C32 own st W' v) := by
  obtain ⟨sa, sc, h1, h2⟩ := h
  exact ⟨sa, sc, h1, h2.step (below_step _ hb)⟩
theorem C33.below {B : Nat} {st : List (List UInt8)} {W W' : World} {v : Value} (h : Hid (C33 own B db st W v)) (hb : Below W.heap.size W W') : Hid (C33 own B db st W' v) := by
  obtain ⟨x0, x1, sa, sc, h1, hB, h2, h3, h4⟩ := h
  exact ⟨x0, x1, sa, sc, h1, hB, cell_below hb h2, cell_below hb h3, h4.step (below_step _ hb)⟩

theorem JDev.row_compact (h : JDev w own jb db fb gb n j) (hjb : 2 < jb) (hn : n ≤ 90000) (ha : j.r.acts ≤ 800000000000) {q : Nat} (hq : q ≤ 9223372036854775807) {bs : List UInt8} {st : List (List UInt8)} (hsl : st.length ≤ 1000000) {W : World} (hb : Below w.heap.size w W)
    {v18 v26 v33 : Value} (h18 : Hid (C18 (jo own jb) w.heap.size jb q bs W v18)) (h26 : Hid (C26 w.heap.size jb q W v26)) (h33 : Hid (C33 (jo own jb) w.heap.size db st W v33)) {W2 : World} {G : Nat} (hW2 : Below W.heap.size W W2) (hG : W.heap.size ≤ G) {t : TypeId} {fr : Nat × Nat}
    (hg : W2.heap[G]? = some (.cells #[v18, .func (.func 49) #[.pointer (some ⟨db, 0, none⟩)] #[], v26, v33, .func (.func 49) #[.pointer (some ⟨db, 0, none⟩)] #[]] t fr)) :
    Calls Tryz.prog 46 #[.slice (some ⟨G, 0, none⟩) 5 5] W2 (JPost w own jb db fb gb (n + 5) (seqS [putJ snapM q bs, syncJ, turnJ q false, leaveJ st, syncJ] j)) := by
  obtain ⟨x0, x1, x2, x3, ba, c, rfl, ⟨g0, g1, g2, g3⟩, p0, p1, p2, p3, pb⟩ := C18.below h18 hW2
  obtain ⟨y0, y1, y2, rfl, ⟨i0, i1, i2⟩, t0, t1, t2⟩ := C26.below h26 hW2
  obtain ⟨z0, z1, sa, sc, rfl, ⟨k0, k1⟩, l0, l1, ln⟩ := C33.below h33 hW2
  have hbl : Below w.heap.size w W2 := hb.trans (hW2.mono hb.size)
  have hst := steps_at (ps := [⟨90, #[], #[.pointer (some ⟨x0, 0, none⟩), .pointer (some ⟨x1, 0, none⟩), .pointer (some ⟨x2, 0, none⟩), .pointer (some ⟨x3, 0, none⟩)]⟩, ⟨49, #[.pointer (some ⟨db, 0, none⟩)], #[]⟩,
    ⟨92, #[], #[.pointer (some ⟨y0, 0, none⟩), .pointer (some ⟨y1, 0, none⟩), .pointer (some ⟨y2, 0, none⟩)]⟩, ⟨76, #[], #[.pointer (some ⟨z0, 0, none⟩), .pointer (some ⟨z1, 0, none⟩)]⟩, ⟨49, #[.pointer (some ⟨db, 0, none⟩)], #[]⟩]) hg rfl
  have hW := h.below hbl
  have hGn : jo own jb G = none := h.new (Nat.le_trans hb.size hG)
  refine (inRow_seq (JC jb db fb gb n j.r.acts) (JQ jb) (JQ.refl jb) JQ.trans W2 own j ⟨G, 0, none⟩ 5 5 _ [putJ snapM q bs, syncJ, turnJ q false, leaveJ st, syncJ] rfl rfl (by omega) ⟨hW, by omega⟩
    (fun W o hq j p hp => hq.fr.cell (hst j p hp) (by rw [add_block]; simp [hGn])) (fun p hp => by
      rcases List.mem_cons.1 hp with rfl | hp
      · exact ent_put1
      rcases List.mem_cons.1 hp with rfl | hp
      · exact ent_sync
      rcases List.mem_cons.1 hp with rfl | hp
      · exact ent_turn1
      rcases List.mem_cons.1 hp with rfl | hp
      · exact ent_leave1
      · obtain rfl := List.mem_singleton.1 hp; exact ent_sync) (fun k W o y hk hp => hp.up hk) ?_).mono (fun e w' hp => ?_)
  · rintro k p f W o y hp hf hQ hP
    have hac := hP.2
    match k, hp, hf with
    | 0, hp, hf =>
      injection hp with hp
      injection hf with hf
      subst hp
      subst hf
      exact (hP.jk.put hQ (by omega) (by omega) (s := ⟨#[115, 110, 97, 112, 45]⟩) (by decide) hq p0 p1 p2 p3 (h.new g0) (h.new g1) (h.new g2) (h.new g3) pb).mono fun _ _ hp => JC.of_jk hp
    | 1, hp, hf =>
      injection hp with hp
      injection hf with hf
      subst hp
      subst hf
      exact hP.sync (by omega)
    | 2, hp, hf =>
      injection hp with hp
      injection hf with hf
      subst hp
      subst hf
      exact (hP.jk.turn hQ hjb t0 t1 t2 (h.new i0) (h.new i1) (h.new i2)).mono fun _ _ hp => JC.of_jk hp
    | 3, hp, hf =>
      injection hp with hp
      injection hf with hf
      subst hp
      subst hf
      exact hP.leave hQ (by omega) (by omega) l0 l1 (h.new k0) (h.new k1) ln hsl
    | 4, hp, hf =>
      injection hp with hp
      injection hf with hf
      subst hp
      subst hf
      exact hP.sync (by omega)
    | k + 5, hp, _ => simp at hp
  · obtain ⟨he, own', hp, hq⟩ := hp
    exact ⟨he, own', hp.1, (below_step _ hbl).trans hq⟩
end

end Go.Proofs.YtdpbnacabinlgaaGreatDoor
namespace Go.Proofs.YtdpbnacabinlgaaGreatDoor
open Go.RowKit Go.Lib Go.Maps Go.ChangeMaps Go.Sort Go.Shelf

theorem below_next {w W W1 : World} (h : Below w.heap.size w W) (hb : Below W.heap.size W W1) : Below w.heap.size w W1 := h.trans (hb.mono h.size)
theorem below_made {w W : World} (h : Below w.heap.size w W) (o : Obj) : Below w.heap.size w (W.alloc o) := h.alloc h.size o
theorem cell_made {W : World} {p : Addr} {v : Value} (h : W.cell? p = some v) (o : Obj) : (W.alloc o).cell? p = some v := cell_below ((Below.refl _ _).alloc (Nat.le_refl _) o) h
theorem C18.shape {own : Owner} {B jb q : Nat} {bs : List UInt8} {W : World} {v : Value} (h : Hid (C18 own B jb q bs W v)) : ∃ f b c, v = .func f b c := by
  obtain ⟨x0, x1, x2, x3, ba, c, h1, _⟩ := h
  exact ⟨_, _, _, h1⟩
theorem C26.shape {B jb q : Nat} {W : World} {v : Value} (h : Hid (C26 B jb q W v)) : ∃ f b c, v = .func f b c := by
  obtain ⟨x0, x1, x2, h1, _⟩ := h
  exact ⟨_, _, _, h1⟩
theorem C33.shape {own : Owner} {B db : Nat} {st : List (List UInt8)} {W : World} {v : Value} (h : Hid (C33 own B db st W v)) : ∃ f b c, v = .func f b c := by
  obtain ⟨x0, x1, sa, sc, h1, _⟩ := h
  exact ⟨_, _, _, h1⟩

section
variable {w : World} {own : Owner} {jb db fb gb n : Nat} {j : JM}

theorem stays_one (hv : Vars w own) (k : Nat) (hk : k ≤ 9223372036854775807) :
    Calls Tryz.prog 48 #[.int .i64 k, .slice none 0 0] w fun e w' => ∃ v, e = .returned v ∧ w'.ownsRow w.heap.size 9 1 v (staysL k []).length (recCells (staysL k [])) ∧ Below w.heap.size w w' :=
  stays_calls (c := 0) hv (IRow.nil w none) (Nat.zero_le _) (fun n hn => by cases hn) hk

set_option maxHeartbeats 8000000 in
set_option maxRecDepth 100000 in
theorem JDev.compact (h : JDev w own jb db fb gb n j) (hjb : 2 < jb) (hn : n ≤ 90000) (ha : j.r.acts ≤ 800000000000) (hl : j.last ≤ 1000000000000000000) {s : ByteArray} (hs : s.size ≤ maxLen) :
    Calls Tryz.prog 27 #[.pointer (some ⟨jb, 0, none⟩), .string s] w (JPost w own jb db fb gb (n + 5) (compactJ j s.data.toList)) := by
  have hsl : s.data.toList.length = s.size := by simp
  by_cases hbig : 4096 < s.size
  · have e1 : compactJ j s.data.toList = (j, 1) := by unfold compactJ; rw [if_pos (by rw [hsl]; exact hbig)]
    rw [e1]
    have hd : decide ((4096 : Int) < (s.size : Int)) = true := by simp; omega
    have H := Lib.hid h
    clear h e1 hsl
    go_enter Tryz.func27, Tryz.ntmps27
    go_wp2_with fail
    go_ret
    exact ⟨rfl, own, H.out.mono (by omega), Step.refl _ _⟩
  have hd : decide ((4096 : Int) < (s.size : Int)) = false := by simp; omega
  have e0 : compactJ j s.data.toList = seqS [putJ snapM (j.last + 1) (frameB s.data.toList), syncJ, turnJ (j.last + 1) false, leaveJ (staysL (j.last + 1) []), syncJ] j := by
    unfold compactJ
    rw [if_neg (by rw [hsl]; exact hbig)]
  have hpb : putB s.data.toList = frameB s.data.toList := putJ_ok (by rw [hsl]; exact hbig)
  rw [e0]
  obtain ⟨bs, hbs⟩ : ∃ bs, frameB s.data.toList = bs := ⟨_, rfl⟩
  rw [hbs]
  obtain ⟨st, hst⟩ : ∃ st, staysL (j.last + 1) [] = st := ⟨_, rfl⟩
  rw [hst]
  have hstl : st.length ≤ 1000000 := by rw [← hst, staysL_one]; simp
  obtain ⟨q, hq⟩ : ∃ q, j.last + 1 = q := ⟨_, rfl⟩
  rw [hq]
  have hq2 : q ≤ 9223372036854775807 := by omega
  have HROW : Hid (∀ W W2 G v18 v26 v33 t fr, Below w.heap.size w W → Hid (C18 (jo own jb) w.heap.size jb q bs W v18) → Hid (C26 w.heap.size jb q W v26) → Hid (C33 (jo own jb) w.heap.size db st W v33) → Below W.heap.size W W2 → W.heap.size ≤ G →
      W2.heap[G]? = some (.cells #[v18, .func (.func 49) #[.pointer (some ⟨db, 0, none⟩)] #[], v26, v33, .func (.func 49) #[.pointer (some ⟨db, 0, none⟩)] #[]] t fr) →
      Calls Tryz.prog 46 #[.slice (some ⟨G, 0, none⟩) 5 5] W2 (JPost w own jb db fb gb (n + 5) (seqS [putJ snapM q bs, syncJ, turnJ q false, leaveJ st, syncJ] j))) :=
    fun W W2 G v18 v26 v33 t fr h1 h2 h3 h4 h5 h6 h7 => h.row_compact hjb hn ha hq2 hstl h1 h2 h3 h4 h5 h6 h7
  obtain ⟨z, hz⟩ : ∃ z, seqS [putJ snapM q bs, syncJ, turnJ q false, leaveJ st, syncJ] j = z := ⟨_, rfl⟩
  rw [hz] at HROW ⊢
  have H17 : Hid (∀ W, Below w.heap.size w W → Calls Tryz.prog 62 #[.string s] W fun e W' => ∃ v, e = .returned v ∧ Below W.heap.size W W' ∧ Hid (C17 (jo own jb) bs W' v)) := fun W hW => (put_calls s W hs).mono fun e W' ⟨v, he, hrow, hb⟩ => by
    rw [hpb, hbs] at hrow
    obtain ⟨ba, c, rfl⟩ := row_slice hrow
    exact ⟨_, he, hb, ba, c, rfl, BArg.of_row hrow (fun b hb2 => (h.below hW).new hb2)⟩
  have H18 : Hid (∀ W v, Below w.heap.size w W → Hid (C17 (jo own jb) bs W v) → Calls Tryz.prog 64 #[.pointer (some ⟨jb, 0, none⟩), .string ⟨#[115, 110, 97, 112, 45]⟩, .int .i64 q, v] W fun e W' => ∃ v, e = .returned v ∧ Below W.heap.size W W' ∧ Hid (C18 (jo own jb) w.heap.size jb q bs W' v)) := fun W v hW ⟨ba, c, he, hb⟩ => by
    subst he
    refine (jput_calls _ _ _ _ _).mono ?_
    rintro e W' ⟨rfl, rfl⟩
    have hbl := allocs_below [.cells #[.pointer (some ⟨jb, 0, none⟩)] 31, .cells #[.string ⟨#[115, 110, 97, 112, 45]⟩] 9, .cells #[.int .i64 q] 2, .cells #[.slice ba bs.length c] 49] W
    have hat := allocs_at [.cells #[.pointer (some ⟨jb, 0, none⟩)] 31, .cells #[.string ⟨#[115, 110, 97, 112, 45]⟩] 9, .cells #[.int .i64 q] 2, .cells #[.slice ba bs.length c] 49] W
    have hsz := hW.size
    exact ⟨_, rfl, hbl, _, _, _, _, ba, c, rfl, ⟨by omega, by omega, by omega, by omega⟩, cell_of_blk (hat 0 _ rfl) rfl, cell_of_blk (hat 1 _ rfl) rfl, cell_of_blk (hat 2 _ rfl) rfl, cell_of_blk (hat 3 _ rfl) rfl, hb.step (below_step _ hbl)⟩
  have H26 : Hid (∀ W, Below w.heap.size w W → Calls Tryz.prog 66 #[.pointer (some ⟨jb, 0, none⟩), .int .i64 q, .bool false] W fun e W' => ∃ v, e = .returned v ∧ Below W.heap.size W W' ∧ Hid (C26 w.heap.size jb q W' v)) := fun W hW => by
    refine (jturn_calls _).mono ?_
    rintro e W' ⟨rfl, rfl⟩
    have hbl := allocs_below [.cells #[.pointer (some ⟨jb, 0, none⟩)] 31, .cells #[.int .i64 q] 2, .cells #[.bool false] 4] W
    have hat := allocs_at [.cells #[.pointer (some ⟨jb, 0, none⟩)] 31, .cells #[.int .i64 q] 2, .cells #[.bool false] 4] W
    have hsz := hW.size
    exact ⟨_, rfl, hbl, _, _, _, rfl, ⟨by omega, by omega, by omega⟩, cell_of_blk (hat 1 _ rfl) rfl, cell_of_blk (hat 2 _ rfl) rfl, cell_of_blk (hat 0 _ rfl) rfl⟩
  have H32 : Hid (∀ W, Below w.heap.size w W → Calls Tryz.prog 48 #[.int .i64 q, .slice none 0 0] W fun e W' => ∃ v, e = .returned v ∧ Below W.heap.size W W' ∧ Hid (C32 (jo own jb) st W' v)) := fun W hW => (stays_one (h.below hW).vars q hq2).mono fun e W' ⟨v, he, hrow, hb⟩ => by
    rw [← hq, hst] at hrow
    obtain ⟨sa, sc, rfl, hnr⟩ := NameRow.of_owns (own := jo own jb) hrow (fun b hb2 => (h.below hW).new hb2)
    exact ⟨_, he, hb, sa, sc, rfl, hnr⟩
  have H33 : Hid (∀ W v, Below w.heap.size w W → Hid (C32 (jo own jb) st W v) → Calls Tryz.prog 47 #[.pointer (some ⟨db, 0, none⟩), v] W fun e W' => ∃ v, e = .returned v ∧ Below W.heap.size W W' ∧ Hid (C33 (jo own jb) w.heap.size db st W' v)) := fun W v hW ⟨sa, sc, he, hr⟩ => by
    subst he
    refine (jleave_calls _ _ _).mono ?_
    rintro e W' ⟨rfl, rfl⟩
    have hbl := allocs_below [.cells #[.pointer (some ⟨db, 0, none⟩)] 27, .cells #[.slice sa st.length sc] 32] W
    have hat := allocs_at [.cells #[.pointer (some ⟨db, 0, none⟩)] 27, .cells #[.slice sa st.length sc] 32] W
    have hsz := hW.size
    exact ⟨_, rfl, hbl, _, _, sa, sc, rfl, ⟨by omega, by omega⟩, cell_of_blk (hat 0 _ rfl) rfl, cell_of_blk (hat 1 _ rfl) rfl, hr.step (below_step _ hbl)⟩
  have HJ : Hid (∀ W, Below w.heap.size w W → W.cell? ⟨jb, 0, none⟩ = some (.pointer (some ⟨db, 0, none⟩))) := fun W hW => (h.jat.below hW).c0
  have c0 := h.jat.c0
  have c1 := h.jat.c1
  have hwr : IntKind.i64.wrap ((j.last : Int) + 1) = (q : Int) := by rw [← hq]; exact IntWalk.i64_in _ ⟨by omega, by omega⟩
  clear h e0 hpb hbs hst hz hsl hq
  go_enter Tryz.func27, Tryz.ntmps27
  go_wp2_with fail
  have hb0 : Below w.heap.size w w.drew := (Below.refl _ _).drew
  go_region_held3 (fun W => W.cell? ⟨jb, 0, none⟩ = some (.pointer (some ⟨db, 0, none⟩)))
    (first | assumption | exact cell_made (by assumption) _)
    (first
      | (go_at_call 62; refine (H17.out _ (by assumption)).mono ?_; rintro e w1 ⟨v17, rfl, hb1, h17⟩; have hbw : Below w.heap.size w w1 := below_next (by assumption) hb1; have hcj := HJ.out _ hbw; (try have h26 := C26.below h26 hb1); (try have h32 := C32.below h32 hb1); (try have h33 := C33.below h33 hb1))
      | (go_at_call 64; refine (H18.out _ _ (by assumption) (by assumption)).mono ?_; rintro e w1 ⟨v18, rfl, hb1, h18⟩; have hbw : Below w.heap.size w w1 := below_next (by assumption) hb1; have hcj := HJ.out _ hbw; (try have h26 := C26.below h26 hb1); (try have h32 := C32.below h32 hb1); (try have h33 := C33.below h33 hb1); obtain ⟨f18, b18, c18, rfl⟩ := C18.shape h18)
      | (go_at_call 66; refine (H26.out _ (by assumption)).mono ?_; rintro e w1 ⟨v26, rfl, hb1, h26⟩; have hbw : Below w.heap.size w w1 := below_next (by assumption) hb1; have hcj := HJ.out _ hbw; (try have h17 := C17.below h17 hb1); (try have h18 := C18.below h18 hb1); (try have h32 := C32.below h32 hb1); (try have h33 := C33.below h33 hb1); obtain ⟨f26, b26, c26, rfl⟩ := C26.shape h26)
      | (go_at_call 48; refine (H32.out _ (by assumption)).mono ?_; rintro e w1 ⟨v32, rfl, hb1, h32⟩; have hbw : Below w.heap.size w w1 := below_next (by assumption) hb1; have hcj := HJ.out _ hbw; (try have h17 := C17.below h17 hb1); (try have h18 := C18.below h18 hb1); (try have h26 := C26.below h26 hb1))
      | (go_at_call 47; refine (H33.out _ _ (by assumption) (by assumption)).mono ?_; rintro e w1 ⟨v33, rfl, hb1, h33⟩; have hbw : Below w.heap.size w w1 := below_next (by assumption) hb1; have hcj := HJ.out _ hbw; (try have h17 := C17.below h17 hb1); (try have h18 := C18.below h18 hb1); (try have h26 := C26.below h26 hb1); obtain ⟨f33, b33, c33, rfl⟩ := C33.shape h33)
      | (go_at_call 46; refine (HROW.out _ _ _ _ _ _ _ _ hbw h18 h26 h33 ((Below.refl _ _).alloc (Nat.le_refl _) _) (Nat.le_refl _) (heap_alloc_new _ _)).mono ?_; intro e w9 hp; have HP := Lib.hid hp; obtain ⟨rfl, o9, hj9, _⟩ := hp; have hc9 := hj9.jat.c0; clear hj9))
  all_goals
    go_wp2_with fail
    go_ret
    exact HP.out
end

end Go.Proofs.YtdpbnacabinlgaaGreatDoor
namespace Go.Proofs.YtdpbnacabinlgaaGreatDoor
open Go.RowKit Go.Lib Go.Maps Go.ChangeMaps Go.Sort Go.Shelf

theorem putL_count (fs : List RF) (x : RF) : (putL fs x).length = (withoutL fs x.nm).length + 1 := by
  rw [putL_eq, List.length_append, List.length_cons]
  have h1 : withoutL fs x.nm = fs.takeWhile (fun f => decide (f.nm < x.nm)) ++ (fs.dropWhile (fun f => decide (f.nm < x.nm))).filter (fun f => !(f.nm == x.nm)) := by
    have h2 : (fs.takeWhile (fun f => decide (f.nm < x.nm))).filter (fun f => !(f.nm == x.nm)) = fs.takeWhile (fun f => decide (f.nm < x.nm)) := takeWhile_all _ _ (fun a ha => by
      have ha : a.nm < x.nm := by simpa using ha
      have : a.nm ≠ x.nm := fun e => by rw [e] at ha; exact List.lt_irrefl _ ha
      simpa using this) fs
    rw [← h2, ← List.filter_append, List.takeWhile_append_dropWhile]
    rfl
  rw [h1, List.length_append]
  omega
theorem without_count {k : List UInt8} : ∀ {fs : List RF}, (fs.find? (fun f => f.nm == k)).isSome = true → (withoutL fs k).length + 1 ≤ fs.length
  | [], h => by cases h
  | f :: fs, h => by
    by_cases e : f.nm = k
    · have h1 : withoutL (f :: fs) k = withoutL fs k := by unfold withoutL; rw [List.filter_cons_of_neg (by simp [e])]
      rw [h1, List.length_cons]
      have := withoutL_len fs k
      omega
    · have h1 : withoutL (f :: fs) k = f :: withoutL fs k := by unfold withoutL; rw [List.filter_cons_of_pos (by simp [e])]
      rw [List.find?_cons_of_neg (by simp [e])] at h
      have := without_count h
      rw [h1, List.length_cons, List.length_cons]
      omega

section
variable {r : RDm}
theorem app_few (h : r.L.length ≤ 64) (s : ByteArray) (bs : List UInt8) : (appP r s bs).1.L.length ≤ 64 := by
  unfold appP appendR
  split
  · exact h
  split
  · exact h
  split
  · exact h
  rename_i h3
  split
  · exact h
  show (putL r.L _).length ≤ 64
  have hnm : ({ fileR r s with data := (fileR r s).data ++ bs } : RF).nm = s.data.toList := by
    show (fileR r s).nm = _
    unfold fileR
    cases hq : r.L.find? (fun f => f.nm == s.data.toList) with
    | none => rfl
    | some g => exact (find_name hq).1
  rw [putL_count, hnm]
  cases hq : r.L.find? (fun f => f.nm == s.data.toList) with
  | none =>
    have := withoutL_len r.L s.data.toList
    have : ¬ 64 ≤ r.L.length := fun e => h3 (.inl ⟨hq, e⟩)
    omega
  | some g =>
    have := without_count (k := s.data.toList) (fs := r.L) (by rw [hq]; rfl)
    omega
theorem sync_few : (syncR r).1.L.length = r.L.length := by
  unfold syncR
  split
  · rfl
  · exact List.length_map _
theorem app_gone (s : ByteArray) (bs : List UInt8) : (appP r s bs).1.Gone = r.Gone := by
  unfold appP appendR
  repeat' split
  all_goals rfl
theorem sync_gone (h : r.Gone = []) : (syncR r).1.Gone = [] := by
  unfold syncR
  split
  · exact h
  · rfl
theorem app_acts (s : ByteArray) (bs : List UInt8) : (appP r s bs).1.acts ≤ r.acts + 1 := appendR_acts r _ _ _
end

theorem add_few {j : JM} (h : j.r.L.length ≤ 64) (hg : j.r.Gone = []) (rec : List UInt8) : (addJ j rec).1.r.L.length ≤ 64 ∧ (addJ j rec).1.r.Gone = [] ∧ (addJ j rec).1.r.acts ≤ j.r.acts + 2 ∧ (addJ j rec).1.last ≤ j.last + 1 := by
  unfold addJ
  split
  · exact ⟨h, hg, by show j.r.acts ≤ _; omega, by show j.last ≤ _; omega⟩
  split
  · rw [seq_one]
    exact ⟨app_few h _ _, (app_gone _ _).trans hg, by have := app_acts (r := j.r) (nameB logM j.last) (frameB rec); show (appP j.r _ _).1.acts ≤ _; omega, by show j.last ≤ _; omega⟩
  · have hf : (finJ j).1.r.L.length ≤ 64 ∧ (finJ j).1.r.Gone = [] ∧ (finJ j).1.r.acts ≤ j.r.acts + 1 ∧ (finJ j).1.last = j.last := by
      refine ⟨?_, ?_, finR_acts _ _, rfl⟩
      · unfold finJ finR
        cases j.wr with
        | false => exact h
        | true => show (syncR j.r).1.L.length ≤ 64; rw [sync_few]; exact h
      · unfold finJ finR
        cases j.wr with
        | false => exact hg
        | true => exact sync_gone hg
    obtain ⟨h1, h2, h3, h4⟩ := hf
    rw [seq_three, seq_two]
    have hp : (putJ logM (j.last + 1) (frameB rec) (finJ j).1).1.r.L.length ≤ 64 ∧ (putJ logM (j.last + 1) (frameB rec) (finJ j).1).1.r.Gone = [] ∧ (putJ logM (j.last + 1) (frameB rec) (finJ j).1).1.r.acts ≤ j.r.acts + 2 ∧ (putJ logM (j.last + 1) (frameB rec) (finJ j).1).1.last = j.last :=
      ⟨app_few h1 _ _, (app_gone _ _).trans h2, by have := app_acts (r := (finJ j).1.r) (nameB logM (j.last + 1)) (frameB rec); show (appP (finJ j).1.r _ _).1.acts ≤ _; omega, h4⟩
    split
    · split
      · exact ⟨hp.1, hp.2.1, hp.2.2.1, Nat.le_refl _⟩
      · exact ⟨hp.1, hp.2.1, hp.2.2.1, by rw [hp.2.2.2]; omega⟩
    · exact ⟨h1, h2, by omega, by omega⟩

section
variable {w0 w w' : World} {own own' : Owner} {jb db fb gb n A : Nat} {j : JM} {r : RDm}

/-- How many files there are is what the maps hold, if none is removed. -/
theorem LDev.tight (h : LDev w own db fb gb n r) (hg : r.Gone = []) {n' : Nat} (hn : r.L.length ≤ n') : LDev w own db fb gb n' r := by
  obtain ⟨D, E, m, h1, h2, h3, h4⟩ := h
  refine ⟨D, E, m, { h1 with cnt := ?_ }, h2, h3, h4⟩
  obtain ⟨e1, _, _⟩ := h2.count h1 h3
  have hE : Maps.size E = 0 := by
    obtain ⟨c, hc⟩ := h1.rmap
    obtain ⟨es, rfl, hap, _⟩ := hc.entries lawS
    have hst := ownsMap_strs hc
    cases es with
    | nil => rfl
    | cons p es =>
      have h5 : Maps.has (.map (p :: es)) (.string (keyS p.1)) = true := by
        refine List.any_eq_true.2 ⟨p, by simp, ?_⟩
        rw [← hst p (by simp)]
        rw [hst p (by simp)]
        exact WideAt.sameKey_self trivial
      have h6 := h1.rback trivial _ h5
      rw [h2.gone, hg] at h6
      cases h6
  omega

/-- A device in a law's world. -/
structure LW (w0 w : World) (own : Owner) (db fb gb A : Nat) (r : RDm) : Prop where
  dev : LDev w own db fb gb 200 r
  vars : Vars w own
  st : Step (fun _ => none) own w0 w
  acts : r.acts ≤ A

/-- A journal in a law's world. -/
structure JW (w0 w : World) (own : Owner) (jb db fb gb A : Nat) (j : JM) : Prop where
  dev : JDev w own jb db fb gb 200 j
  st : Step (fun _ => none) (jo own jb) w0 w
  acts : j.r.acts ≤ A
  far : w0.heap.size ≤ jb
  big : 2 < w0.heap.size

theorem LW.below (h : LW w0 w own db fb gb A r) (hb : Below w.heap.size w w') : LW w0 w' own db fb gb A r := ⟨h.dev.below hb, h.vars.below hb, h.st.trans (below_step _ hb), h.acts⟩
theorem JW.below (h : JW w0 w own jb db fb gb A j) (hb : Below w.heap.size w w') : JW w0 w' own jb db fb gb A j := ⟨h.dev.below hb, h.st.trans (below_step _ hb), h.acts, h.far, h.big⟩
theorem JW.lw (h : JW w0 w own jb db fb gb A j) : LW w0 w own db fb gb A j.r := ⟨h.dev.dev, h.dev.vars, ⟨h.st.fr, fun b hb e => (jo_none.1 (h.st.own b hb e)).2⟩, h.acts⟩
theorem JW.mono {A' : Nat} (h : JW w0 w own jb db fb gb A j) (hA : A ≤ A') : JW w0 w own jb db fb gb A' j := ⟨h.dev, h.st, by have := h.acts; omega, h.far, h.big⟩

theorem JW.add (h : JW w0 w own jb db fb gb A j) (hA : A ≤ 800000000000) (hf : j.r.L.length ≤ 64) (hg : j.r.Gone = []) (hl : j.last ≤ 100000000000000000) {s : ByteArray} (hs : s.size ≤ maxLen) :
    Calls Tryz.prog 23 #[.pointer (some ⟨jb, 0, none⟩), .string s] w fun e w' => e = .returned (.int .i64 (addJ j s.data.toList).2) ∧ ∃ own', JW w0 w' own' jb db fb gb (A + 2) (addJ j s.data.toList).1 ∧ Step (jo own jb) (jo own' jb) w w' := by
  have hac := h.acts
  refine (h.dev.add (by have := h.far; have := h.big; omega) (by omega) (by omega) (by omega) hs).mono ?_
  rintro e w' ⟨rfl, own', hd, st⟩
  obtain ⟨k1, k2, k3, k4⟩ := add_few hf hg s.data.toList
  exact ⟨rfl, own', ⟨⟨hd.dev.tight k2 (by omega), hd.vars, hd.jat, hd.free⟩, h.st.trans st, by omega, h.far, h.big⟩, st⟩

theorem JW.sync (h : JW w0 w own jb db fb gb A j) (hA : A ≤ 800000000000) :
    Calls Tryz.prog 25 #[.pointer (some ⟨jb, 0, none⟩)] w fun e w' => e = .returned (.int .i64 (syncJ j).2) ∧ ∃ own', JW w0 w' own' jb db fb gb (A + 1) (syncJ j).1 ∧ Step (jo own jb) (jo own' jb) w w' := by
  have hac := h.acts
  refine (h.dev.dev.jsync (by omega) h.dev.jat).mono ?_
  intro e w' hp
  obtain ⟨he, own', hd, st⟩ := h.dev.act hp
  have := syncR_acts j.r
  exact ⟨he, own', ⟨hd, h.st.trans st, by show (syncR j.r).1.acts ≤ _; omega, h.far, h.big⟩, st⟩

theorem JW.fuse (h : JW w0 w own jb db fb gb A j) {y : Int} (hy : -9223372036854775808 ≤ y ∧ y ≤ 9223372036854775807) :
    Calls Tryz.prog 19 #[.pointer (some ⟨db, 0, none⟩), .int .i64 y] w fun e w' => e = .returned (.tuple #[]) ∧ JW w0 w' own jb db fb gb A ⟨fuseR j.r y, j.last, j.wr⟩ ∧ Step (jo own jb) (jo own jb) w w' := by
  refine (h.dev.dev.fuse hy).mono ?_
  rintro e w' ⟨rfl, hd, st⟩
  exact ⟨rfl, ⟨⟨hd, h.dev.vars.step st, h.dev.jat.step st h.dev.free, h.dev.free⟩, h.st.trans (st.jo jb), h.acts, h.far, h.big⟩, st.jo jb⟩

theorem LW.crash (h : LW w0 w own db fb gb A r) {kv : Value} {ks : List (ByteArray × Int)} (hk : KArg w own kv ks) (hkl : ks.length ≤ 1000000000000) :
    Calls Tryz.prog 21 #[.pointer (some ⟨db, 0, none⟩), kv] w fun e w' => e = .returned (.tuple #[]) ∧ ∃ own' L', Crashed ks r L' ∧ LW w0 w' own' db fb gb A (crashR r L') ∧ Step own own' w w' := by
  refine (h.dev.crash (by omega) hk hkl).mono ?_
  rintro e w' ⟨rfl, own', L', hc, hd, st⟩
  exact ⟨rfl, own', L', hc, ⟨hd, h.vars.step st, h.st.trans st, h.acts⟩, st⟩

theorem leave_actsW (r : RDm) : (leaveR r (stR r)).1.acts ≤ r.acts + r.L.length := leaveR_acts r _
theorem openS_acts (r : RDm) : (openS r).1.acts ≤ r.acts + r.L.length + 1 := by
  have h1 := leave_actsW r
  unfold openS
  rw [seq_two]
  split
  · have := syncR_acts (leaveR r (stR r)).1
    omega
  · show (leaveR r (stR r)).1.acts ≤ _
    omega

/-- Open, with the power on. -/
theorem LW.opens (h : LW w0 w own db fb gb A r) (hA : A ≤ 700000000000) (hb : 2 < w0.heap.size) (ho : On r) :
    Calls Tryz.prog 15 #[.pointer (some ⟨db, 0, none⟩)] w fun e w' => ∃ jb own' ra rc, e = .returned (.tuple #[.pointer (some ⟨jb, 0, none⟩), .string (strB (lastP r).2), .bool (decide (0 < (lastP r).1)), .slice ra (viewR r).2.length rc, .int .i64 0]) ∧
      JW w0 w' own' jb db fb gb (A + 201) ⟨(openS r).1, topR r, false⟩ ∧ w.heap.size ≤ jb ∧ Step own own' w w' ∧ Step own (jo own' jb) w w' ∧ OwnT w.heap.size w' (jo own' jb) (.slice ra (viewR r).2.length rc) (viewR r).2 := by
  have hac := h.acts
  have hlen := h.dev.len_le
  have h1 := leave_actsW r
  have h2 := openS_acts r
  have hrok := h.dev.rok
  refine (open_up h.dev h.vars (by omega) ho.1 (by omega) (by omega)).mono ?_
  intro e w' hp
  rcases hp with ⟨_, jb, own', ra, rc, rfl, hd, hj, st, ht, hne⟩ | ⟨h0, _⟩
  · have hv : recsR (openS r).1 (behindL r (lastP r).1) = (viewR r).2 := recs_open ho hrok
    rw [hv] at ht hne ⊢
    have hst2 : Step own (jo own' jb) w w' := ⟨st.fr, fun b hb2 e => jo_none.2 ⟨by omega, st.own b hb2 e⟩⟩
    exact ⟨jb, own', ra, rc, rfl, ⟨hd, h.st.trans hst2, by show (openS r).1.acts ≤ _; omega, Nat.le_trans h.st.fr.size hj, hb⟩, hj, st, hst2, ht.1, fun g hg => jo_none.2 ⟨hne g hg, ht.2 g hg⟩⟩
  · exact absurd (openS_on ho hrok).1 h0

theorem compact_acts (j : JM) (p : List UInt8) : (compactJ j p).1.r.acts ≤ j.r.acts + j.r.L.length + 4 ∧ (compactJ j p).1.last ≤ j.last + 1 := by
  unfold compactJ
  split
  · exact ⟨by show j.r.acts ≤ _; omega, by show j.last ≤ _; omega⟩
  have h1 : (appP j.r (nameB snapM (j.last + 1)) (frameB p)).1.acts ≤ j.r.acts + 1 := app_acts _ _
  have h2 : (appP j.r (nameB snapM (j.last + 1)) (frameB p)).1.L.length ≤ j.r.L.length + 1 := by
    unfold appP appendR
    repeat' split
    all_goals first
      | (show j.r.L.length ≤ _; omega)
      | exact putL_len _ _
  obtain ⟨r1, hr1⟩ : ∃ r1, (appP j.r (nameB snapM (j.last + 1)) (frameB p)).1 = r1 := ⟨_, rfl⟩
  have hj1 : (putJ snapM (j.last + 1) (frameB p) j).1 = ⟨r1, j.last, j.wr⟩ := by rw [← hr1]; rfl
  rw [hr1] at h1 h2
  rw [seqS]
  split
  rotate_left
  · rw [hj1]
    exact ⟨by show r1.acts ≤ _; omega, by show j.last ≤ _; omega⟩
  rw [hj1, seqS]
  have h3 : (syncR r1).1.acts ≤ r1.acts + 1 := syncR_acts r1
  have h4 : (syncR r1).1.L.length = r1.L.length := sync_few
  split
  rotate_left
  · exact ⟨by show (syncR r1).1.acts ≤ _; omega, by show j.last ≤ _; omega⟩
  rw [seqS, if_pos (show (turnJ (j.last + 1) false (syncJ ⟨r1, j.last, j.wr⟩).1).2 = 0 from rfl), seq_two]
  have h5 := leaveR_acts (syncR r1).1 (staysL (j.last + 1) [])
  have h6 := syncR_acts (leaveR (syncR r1).1 (staysL (j.last + 1) [])).1
  split
  · exact ⟨by show (syncR (leaveR (syncR r1).1 (staysL (j.last + 1) [])).1).1.acts ≤ _; omega, Nat.le_refl _⟩
  · exact ⟨by show (leaveR (syncR r1).1 (staysL (j.last + 1) [])).1.acts ≤ _; omega, Nat.le_refl _⟩

/-- Compact: with what was removed, or without. -/
theorem JW.compact (h : JW w0 w own jb db fb gb A j) (hA : A ≤ 700000000000) (hl : j.last ≤ 100000000000000000) {s : ByteArray} (hs : s.size ≤ maxLen) :
    Calls Tryz.prog 27 #[.pointer (some ⟨jb, 0, none⟩), .string s] w fun e w' => e = .returned (.int .i64 (compactJ j s.data.toList).2) ∧ ∃ own', ((compactJ j s.data.toList).1.r.Gone = [] → (compactJ j s.data.toList).1.r.L.length ≤ 64 → JW w0 w' own' jb db fb gb (A + 300) (compactJ j s.data.toList).1) ∧
      LDev w' own' db fb gb 205 (compactJ j s.data.toList).1.r ∧ Vars w' own' ∧ (compactJ j s.data.toList).1.r.acts ≤ A + 300 ∧ Step (jo own jb) (jo own' jb) w w' := by
  have hac := h.acts
  have hlen := h.dev.dev.len_le
  have h1 := compact_acts j s.data.toList
  refine (h.dev.compact (by have := h.far; have := h.big; omega) (by omega) (by omega) (by omega) hs).mono ?_
  rintro e w' ⟨rfl, own', hd, st⟩
  exact ⟨rfl, own', fun k1 k2 => ⟨⟨hd.dev.tight k1 (by omega), hd.vars, hd.jat, hd.free⟩, h.st.trans st, by omega, h.far, h.big⟩, hd.dev, hd.vars, by omega, st⟩

/-- A new device. -/
theorem LW.new (hv : Vars w0 (fun _ => none)) {room : Int} (hr : -9223372036854775808 ≤ room ∧ room ≤ 9223372036854775807) :
    Calls Tryz.prog 34 #[.int .i64 room] w0 fun e w' => ∃ db fb gb own, e = .returned (.pointer (some ⟨db, 0, none⟩)) ∧ LW w0 w' own db fb gb 0 (newR room) := by
  refine (LDev.new w0 hr).mono ?_
  rintro e w' ⟨db, fb, gb, own, rfl, hd, st⟩
  exact ⟨db, fb, gb, own, rfl, ⟨hd.mono (by omega), hv.step st, st, Int.le_refl 0⟩⟩
end

end Go.Proofs.YtdpbnacabinlgaaGreatDoor

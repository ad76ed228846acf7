/- settle and Sync of a device. -/
import Derived.Test.YtgkhnimdlkdaaaaDB
namespace Go.Proofs.Ytgkhnimdlkdaaaa
open Go.RowKit Go.Lib Go.Maps Go.ChangeMaps

/-- The builtin clear of a map. -/
theorem wpList_clear_own {H : Type} {P : Program} (w : World) {ops : Array Oper} {rest : List Oper} {o : Oper} {a : Act} {Q : Exit → Act → World → Prop}
    (hg : o.guard = none) (x : Operand) (t : TypeId) (hop : o.op = Op.call { callee := Callee.builtin Builtin.clear, args := #[x], argTypes := #[t] })
    (k e : TypeId) (ht : P.underlying t = some (.map k e)) (R : Value → Option (DataW H × List MemPlace)) (b n : Nat) (D : DataW H)
    (hm : a.eval x = .map (some b)) (hown : w.ownsMap P k R b n D)
    (hK : ∀ w', w'.ownsMap P k R b 0 (.map []) → w.mapTurned w' b → wpList P ops Q rest (a.put o.dst (.tuple #[])) w') :
    wpList P ops Q (o :: rest) a w := by
  refine wpList_plain hg fun K' hK' => ?_
  obtain ⟨es, clock, hb, F, hs, rfl⟩ := hown
  have hrun : (Builtin.clear_ #[t] o.type #[.map (some b)]).run P w = .ok (.tuple #[]) (setBlock w b (.map #[] clock)) := by
    simp [Builtin.clear_, run_underlying ht, MapKept.run_getObj_map hb, MapKept.run_setObj_map _ hb, Result.andThen, setBlock]
  unfold Oper.wp
  simp [execOp, hop, resolve, invoke, builtin, hm, hrun, Result.andThen]
  exact hK' _ _ (hK _ ⟨#[], clock, heap_setBlock_same hb _, ⟨by simp, MapKept.stamped_empty clock, by simp⟩, Nat.le_refl _, rfl⟩ ⟨es, clock, #[], clock, hb, rfl⟩)

def settleF (f : FileM) : FileM := ⟨f.data, f.data.length, false⟩
def settleL (left : Lit → Bool) (files : List UInt8 → Option FileM) : List UInt8 → Option FileM := fun k => (files k).map fun f => if left (.string k) then f else settleF f
def settleM (m : DevM) : DevM := { m with files := fun k => (m.files k).map settleF, gone := fun _ => none }

theorem settleL_step {left : Lit → Bool} {files : List UInt8 → Option FileM} {k : List UInt8} {f : FileM} (hf : files k = some f) (_hl : left (.string k) = true) :
    setF (settleL left files) k (some (settleF f)) = settleL (fun z => left z && !z.sameKey (.string k)) files := by
  funext k'
  by_cases e : k' = k
  · subst e
    simp [setF_same, settleL, hf, Lit.sameKey]
  · rw [setF_other _ _ e]
    have : (Lit.string k').sameKey (.string k) = false := by simp [Lit.sameKey, e]
    simp [settleL, this]

section
variable {S : Prop} {w w' : World} {own own' : Owner} {db fb rb : Nat} {D D' E E' : DataW Unit} {n n' : Nat} {m : DevM}

/-- A file's length is noted, and that it was there. -/
theorem Dev.settled (h : Dev S w own db fb rb D E n m) {k : List UInt8} {f : FileM} {p : Nat} {dv : Value} (hat : ∀ z, D.atKey (.string k) z = .lit (.int .u64 p))
    (hfa : FileAt w p dv f) (hp : own p = some (3, k)) (hg : ∀ g, dv.ownBlock = some g → own g = some (4, k)) :
    Dev S ((w.setCell ⟨p, 1, none⟩ (.int .i64 f.data.length)).setCell ⟨p, 2, none⟩ (.bool false)) own db fb rb D E n { m with files := setF m.files k (some (settleF f)) } ∧
      Step own own w ((w.setCell ⟨p, 1, none⟩ (.int .i64 f.data.length)).setCell ⟨p, 2, none⟩ (.bool false)) := by
  have hpn : dv.ownBlock ≠ some p := fun e => by have := hg p e; rw [hp] at this; simp at this
  have hother : ∀ b, b ≠ p → ((w.setCell ⟨p, 1, none⟩ (.int .i64 f.data.length)).setCell ⟨p, 2, none⟩ (.bool false)).heap[b]? = w.heap[b]? := fun b hb => (Below.heap_setCell _ _ _ _ hb).trans (Below.heap_setCell _ _ _ _ hb)
  refine ⟨h.setFile (p := p) (dv := dv) (by simp [World.setCell]) (fun b _ _ h3 _ => hother b (fun e => h3 (by rw [e]; exact hp))) (fun _ _ => rfl) (fun b hb => h.old b (by simpa [World.setCell] using hb)) ?_ h.cnt hat (fun _ _ => rfl) (fun _ _ _ => rfl) ?_ hp hg,
    Step.of_fr (((Fr.refl _ _).setCell _ _ (fun _ => by simp [hp])).setCell _ _ (fun _ => by simp [hp]))⟩
  · obtain ⟨c, hc⟩ := h.fmap
    exact ⟨c, ownsMap_of_block hc (hother fb (fun e => by have := h.ofb; rw [e, hp] at this; simp at this))⟩
  · refine ⟨?_, ownsRow_of_block hfa.2.1 (fun g hg' => hother g (fun e => hpn (by rw [hg', e]))), Nat.le_refl _, hfa.2.2.2⟩
    rw [setCell_blk (setCell_blk hfa.1 _)]
    rfl

/-- The other map's been emptied. -/
theorem Dev.cleared {S' : Prop} (h : Dev S w own db fb rb D E n m) (hm : w'.ownsMap Try.prog 9 slR rb 0 (.map [])) (ht : w.mapTurned w' rb) :
    Dev S' w' own db fb rb D (.map []) n { m with gone := fun _ => none } ∧ Step own own w w' := by
  have hg := ht.grown
  have keep : ∀ b t, own b = some t → t.1 ≠ 2 → w'.heap[b]? = w.heap[b]? := fun b t hb h1 => by
    refine hg.block b (h.lt (by simp [hb])) (fun e => ?_)
    injection e with e
    rw [e, h.orb] at hb
    injection hb with hb
    rw [← hb] at h1
    exact h1 rfl
  refine ⟨{
    blk := (keep db _ h.odb (by simp)).trans h.blk
    fmap := let ⟨c, hc⟩ := h.fmap; ⟨c, ownsMap_of_block hc (keep fb _ h.ofb (by simp))⟩
    rmap := ⟨0, hm⟩
    cnt := by have := h.cnt; simp [Maps.size]; simp [Maps.size] at this; omega
    dom := h.dom
    rdom := fun k' hk' => by cases hk'
    rback := fun _ k' hk' => by cases hk'
    fil := fun k' f' hf' => by
      obtain ⟨p', dv', h1, h2, h3, h4⟩ := h.fil k' f' hf'
      exact ⟨p', dv', h1, h2.kept (keep p' _ h3 (by simp)) (fun g hg' => keep g _ (h4 g hg') (by simp)), h3, h4⟩
    rem := fun k' d hd => by cases hd
    odb := h.odb
    ofb := h.ofb
    orb := h.orb
    old := fun b hb => h.old b (Nat.le_trans hg.size hb)
    rroom := h.rroom
    rfuse := h.rfuse
    racts := h.racts }, Step.of_fr ((Fr.refl _ _).grown hg (fun k hk _ => by injection hk with hk; subst hk; simp [h.orb]))⟩

set_option maxHeartbeats 1000000 in
set_option maxRecDepth 100000 in
theorem Dev.settle {S' : Prop} (h : Dev S w own db fb rb D E n m) :
    Calls Try.prog 39 #[.pointer (some ⟨db, 0, none⟩)] w fun e w' => e = .returned (.tuple #[]) ∧ Dev S' w' own db fb rb D (.map []) n (settleM m) ∧ Step own own w w' := by
  have c1 := h.c1
  obtain ⟨c, hc⟩ := h.fmap
  have hfb : fb < w.heap.size := hc.lt
  have H : Hid (Dev S w own db fb rb D E n m) := h
  clear h
  go_enter Try.func39, Try.ntmps39
  go_wp2_with (first
    | (at_range; refine wpList_range_own _ rfl _ 62 rfl 9 61 lawS Try.underlying62 _ fb c _ rfl hc ?_; intro w0 hrg0 hg0 hs0)
    | go_in)
  go_frame
  go_loopw [3] (fun _ wr => ∃ (left : Lit → Bool) (cnt : Nat), wr.ranges Try.prog 9 ptrR fb w.heap.size c D left cnt ∧ Hid (Dev S wr own db fb rb D E n { m with files := settleL left m.files }) ∧ Hid (Step own own w wr) ∧ Hid (∀ k, left k = true → Maps.has D k = true))
    (fun _ wr => wr.rangeLeft fb w.heap.size)
  case atStart =>
    have e1 : settleL (Maps.has D) m.files = m.files := by
      funext k
      cases hk : m.files k with
      | none => simp [settleL, hk]
      | some f => simp [settleL, hk, H.out.dom k]
    refine ⟨_, _, hrg0, ?_, Step.of_fr ((Fr.refl _ _).grown hg0 (fun k hk _ => by cases hk)), fun k hk => hk⟩
    rw [e1]
    exact H.out.kept hg0.size (fun b hb => hg0.block b (H.out.lt hb) (by simp))
  case round =>
    obtain ⟨left, cnt, hrg, HD, HS, Hl⟩ := hrel
    have d1 := HD.out.c1
    have d2 := HD.out.c2
    obtain ⟨c2, hc2⟩ := HD.out.rmap
    go_wp2_with (first
      | (at_next; refine wpList_next_files _ rfl _ rfl fb w.heap.size c _ _ _ rfl hrg (fun k hk => H.out.ptrs k (Hl.out _ hk)) ?_ ?_)
      | (refine wpList_clear_own _ rfl _ 63 rfl 9 31 Try.underlying63 _ rb c2 E rfl hc2 ?_; intro w8 hown8 hturn8)
      | go_in)
    · intro _ hl0
      go_wp2_with (first
        | (refine wpList_clear_own _ rfl _ 63 rfl 9 31 Try.underlying63 _ rb c2 E rfl hc2 ?_; intro w8 hown8 hturn8)
        | go_in)
      obtain ⟨h8, st8⟩ := HD.out.cleared (S' := S') hown8 hturn8
      go_end0
      refine ⟨rfl, ?_, HS.out.trans st8⟩
      have e1 : settleL left m.files = fun k => (m.files k).map settleF := by
        funext k
        simp [settleL, hl0]
      simp only [e1] at h8
      exact h8
    · intro x p w1 cnt1 hx hlx hat hrg1 hlt hg1 hs1 hen
      clear hc2 d2
      have hrfree : own w.heap.size = none := H.out.old _ (Nat.le_refl _)
      have HD1 : Hid (Dev S w1 own db fb rb D E n { m with files := settleL left m.files }) := HD.out.kept hg1.size (fun b hb => hg1.block b (HD.out.lt hb) (fun e => by injection e with e; subst e; exact hb hrfree))
      have HS1 : Hid (Step own own w w1) := ⟨⟨hg1.os.trans HS.out.fr.os, hg1.tape.trans HS.out.fr.tape, hg1.output.trans HS.out.fr.output, by rw [hs1]; exact HS.out.fr.size, fun i hi hn => (hg1.block i (Nat.lt_of_lt_of_le hi HS.out.fr.size) (fun e => by injection e with e; omega)).trans (HS.out.fr.block i hi hn)⟩, fun _ _ h => h⟩
      have hhas := Hl.out _ hlx
      have hsome := H.out.dom x.data.toList
      rw [hhas] at hsome
      obtain ⟨f, hf⟩ := Option.isSome_iff_exists.1 hsome.symm
      have hfl : settleL left m.files x.data.toList = some f := by simp [settleL, hf, hlx]
      obtain ⟨p', dv, h1, hfa, hp, hg⟩ := HD1.out.fil _ _ hfl
      obtain rfl : p' = p := by
        have := (h1 .nil).symm.trans (hat .nil)
        simp at this
        omega
      obtain ⟨a, l, c', rfl⟩ : ∃ a l c, dv = .slice a l c := by
        rcases hfa.2.1.2 with ⟨rfl, _⟩ | ⟨g, cap, cur, rfl, _⟩ <;> exact ⟨_, _, _, rfl⟩
      obtain ⟨hll, _, _⟩ := take_row (k := f.synced) hfa.2.1 hfa.2.2.1
      subst hll
      have p0 : w1.cell? ⟨p', 0, none⟩ = some (.slice a f.data.length c') := cell_of_blk hfa.1 rfl
      have p1 : w1.cell? ⟨p', 1, none⟩ = some (.int .i64 f.synced) := cell_of_blk hfa.1 rfl
      have p2 : w1.cell? ⟨p', 2, none⟩ = some (.bool f.fresh) := cell_of_blk hfa.1 rfl
      have q1 : w1.frozen? ⟨p', 1, none⟩ = false := frozen_of_blk hfa.1
      have q2 : w1.frozen? ⟨p', 2, none⟩ = false := frozen_of_blk hfa.1
      obtain ⟨h5, st5⟩ := HD1.out.settled h1 hfa hp hg
      have hrp : w.heap.size ≠ p' := fun e => by rw [← e, hrfree] at hp; cases hp
      have hfp : fb ≠ p' := fun e => by have h9 := H.out.ofb; rw [e, hp] at h9; simp at h9
      have hrg5 : ((w1.setCell ⟨p', 1, none⟩ (.int .i64 f.data.length)).setCell ⟨p', 2, none⟩ (.bool false)).ranges Try.prog 9 ptrR fb w.heap.size c D (fun z => left z && !z.sameKey (.string x.data.toList)) cnt1 :=
        (hrg1.kept (grownBy_setCell w1 p' 1 _) (by simpa using hfp) (by simpa using hrp)).kept (grownBy_setCell _ p' 2 _) (by simpa using hfp) (by simpa using hrp)
      have H5 : Hid (Dev S ((w1.setCell ⟨p', 1, none⟩ (.int .i64 f.data.length)).setCell ⟨p', 2, none⟩ (.bool false)) own db fb rb D E n { m with files := settleL (fun z => left z && !z.sameKey (.string x.data.toList)) m.files }) := by
        have e1 := settleL_step (left := left) hf hlx
        simp only [e1] at h5
        exact h5
      have HS5 := Lib.hid (HS1.out.trans st5)
      have Hl1 : Hid (∀ k, (left k && !k.sameKey (.string x.data.toList)) = true → Maps.has D k = true) := fun k hk => Hl.out k (by simp at hk; exact hk.1)
      have Hrg5 := Lib.hid hrg5
      clear h5 st5 hrg5 hfa hp hg h1 hfl hf hsome hhas hat hlx HD1 HS1
      generalize f.data.length = l at *
      go_wp2
      go_roundw
      case rel => exact ⟨_, cnt1, Hrg5.out, H5, HS5, Hl1⟩
      case measure => rw [Hrg5.out.left_eq, hrg.left_eq]; exact hlt

/-- What Sync answers, and what the device is then. -/
def syncM (m : DevM) : DevM × Int :=
  if (m.down || m.fuse == 0) = true then ({ m with down := true }, 13)
  else ({ settleM m with down := false, acts := m.acts + 1, fuse := fuseLess m.fuse }, 0)

set_option maxHeartbeats 400000 in
set_option maxRecDepth 100000 in
theorem Dev.sync (h : Dev S w own db fb rb D E n m) (ha : m.acts ≤ 1000000000000) :
    Calls Try.prog 20 #[.pointer (some ⟨db, 0, none⟩)] w fun e w' => e = .returned (.int .i64 (syncM m).2) ∧ ∃ E', Dev S w' own db fb rb D E' n (syncM m).1 ∧ Step own own w w' := by
  have hpl := h.powerless
  unfold syncM
  by_cases hd : (m.down || m.fuse == 0) = true
  · rw [if_pos hd]
    rw [hd] at hpl
    clear hd h
    go_enter Try.func20, Try.ntmps20
    go_wp2_with fail
    refine hpl.mono ?_
    rintro e w1 ⟨rfl, h1, st1⟩
    go_wp2_with fail
    go_ret
    exact ⟨rfl, _, h1, st1⟩
  · rw [if_neg hd]
    have hd' : (m.down || m.fuse == 0) = false := by simpa using hd
    rw [hd'] at hpl
    clear hd hd' h
    go_enter Try.func20, Try.ntmps20
    go_wp2_with fail
    refine hpl.mono ?_
    rintro e w1 ⟨rfl, h1, st1⟩
    go_wp2_with fail
    refine (h1.settle (S' := S)).mono ?_
    rintro e w2 ⟨rfl, h2, st2⟩
    go_wp2_with fail
    refine (h2.done (by simp only [settleM]; omega)).mono ?_
    rintro e w3 ⟨rfl, h3, st3⟩
    go_wp2_with fail
    go_ret
    exact ⟨rfl, _, h3, (st1.trans st2).trans st3⟩

end
end Go.Proofs.Ytgkhnimdlkdaaaa

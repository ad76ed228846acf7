/- settle and Sync of a device. | firstOf: the closure that tells how many bytes of a file are kept. | What a crash leaves of a device's files, in plain words; and what the device is in the middle of one. -/
import Derived.Test.YtdpbnacabinlgaaGreatDoorM1
namespace Go.Proofs.YtdpbnacabinlgaaGreatDoor
open Go.RowKit Go.Lib Go.Maps Go.ChangeMaps

/-- The builtin clear of a map. -/
theorem wpList_clear_own {H : Type} {P : Program} (w : World) {ops : Array Oper} {rest : List Oper} {o : Oper} {a : Act} {Q : Exit → Act → World → Prop}
    (hg : o.guard = none) (x : Operand) (t : TypeId) (hop : o.op = Op.call { callee := Callee.builtin Builtin.clear, args := #[x], argTypes := #[t] })
    (k e : TypeId) (ht : P.underlying t = some (.map k e)) (R : Value → Option (DataW H × List MemPlace)) (b n : Nat) (D : DataW H)
    (hm : a.eval x = .map (some b)) (hown : w.ownsMap P k R b n D)
    (hK : ∀ w', w'.ownsMap P k R b 0 (.map []) → w.mapTurned w' b → wpList P ops Q rest (a.put o.dst (.tuple #[])) w') :
    wpList P ops Q (o :: rest) a w := by
  refine wpList_plain hg fun K' hK' => ?_
  obtain ⟨es, clock, hb, F, hs, rfl⟩ := hown
  have hrun : (Builtin.clear_ #[t] o.type #[.map (some b)]).run P w = .ok (.tuple #[]) (setBlock w b (.map #[] clock)) := by
    simp [Builtin.clear_, run_underlying ht, MapKept.run_getObj_map hb, MapKept.run_setObj_map _ hb, Result.andThen, setBlock]
  unfold Oper.wp
  simp [execOp, hop, resolve, invoke, builtin, hm, hrun, Result.andThen]
  exact hK' _ _ (hK _ ⟨#[], clock, heap_setBlock_same hb _, ⟨by simp, MapKept.stamped_empty clock, by simp⟩, Nat.le_refl _, rfl⟩ ⟨es, clock, #[], clock, hb, rfl⟩)

def settleF (f : FileM) : FileM := ⟨f.data, f.data.length, false⟩
def settleL (left : Lit → Bool) (files : List UInt8 → Option FileM) : List UInt8 → Option FileM := fun k => (files k).map fun f => if left (.string k) then f else settleF f
def settleM (m : DevM) : DevM := { m with files := fun k => (m.files k).map settleF, gone := fun _ => none }

theorem settleL_step {left : Lit → Bool} {files : List UInt8 → Option FileM} {k : List UInt8} {f : FileM} (hf : files k = some f) (_hl : left (.string k) = true) :
    setF (settleL left files) k (some (settleF f)) = settleL (fun z => left z && !z.sameKey (.string k)) files := by
  funext k'
  by_cases e : k' = k
  · subst e
    simp [setF_same, settleL, hf, Lit.sameKey]
  · rw [setF_other _ _ e]
    have : (Lit.string k').sameKey (.string k) = false := by simp [Lit.sameKey, e]
    simp [settleL, this]

section
variable {S : Prop} {w w' : World} {own own' : Owner} {db fb rb : Nat} {D D' E E' : DataW Unit} {n n' : Nat} {m : DevM}

/-- A file's length is noted, and that it was there. -/
theorem Dev.settled (h : Dev S w own db fb rb D E n m) {k : List UInt8} {f : FileM} {p : Nat} {dv : Value} (hat : ∀ z, D.atKey (.string k) z = .lit (.int .u64 p))
    (hfa : FileAt w p dv f) (hp : own p = some (3, k)) (hg : ∀ g, dv.ownBlock = some g → own g = some (4, k)) :
    Dev S ((w.setCell ⟨p, 1, none⟩ (.int .i64 f.data.length)).setCell ⟨p, 2, none⟩ (.bool false)) own db fb rb D E n { m with files := setF m.files k (some (settleF f)) } ∧
      Step own own w ((w.setCell ⟨p, 1, none⟩ (.int .i64 f.data.length)).setCell ⟨p, 2, none⟩ (.bool false)) := by
  have hpn : dv.ownBlock ≠ some p := fun e => by have := hg p e; rw [hp] at this; simp at this
  have hother : ∀ b, b ≠ p → ((w.setCell ⟨p, 1, none⟩ (.int .i64 f.data.length)).setCell ⟨p, 2, none⟩ (.bool false)).heap[b]? = w.heap[b]? := fun b hb => (Below.heap_setCell _ _ _ _ hb).trans (Below.heap_setCell _ _ _ _ hb)
  refine ⟨h.setFile (p := p) (dv := dv) (by simp [World.setCell]) (fun b _ _ h3 _ => hother b (fun e => h3 (by rw [e]; exact hp))) (fun _ _ => rfl) (fun b hb => h.old b (by simpa [World.setCell] using hb)) ?_ h.cnt hat (fun _ _ => rfl) (fun _ _ _ => rfl) ?_ hp hg,
    Step.of_fr (((Fr.refl _ _).setCell _ _ (fun _ => by simp [hp])).setCell _ _ (fun _ => by simp [hp]))⟩
  · obtain ⟨c, hc⟩ := h.fmap
    exact ⟨c, ownsMap_of_block hc (hother fb (fun e => by have := h.ofb; rw [e, hp] at this; simp at this))⟩
  · refine ⟨?_, ownsRow_of_block hfa.2.1 (fun g hg' => hother g (fun e => hpn (by rw [hg', e]))), Nat.le_refl _, hfa.2.2.2⟩
    rw [setCell_blk (setCell_blk hfa.1 _)]
    rfl

/-- The other map's been emptied. -/
theorem Dev.cleared {S' : Prop} (h : Dev S w own db fb rb D E n m) (hm : w'.ownsMap Tryz.prog 9 slR rb 0 (.map [])) (ht : w.mapTurned w' rb) :
    Dev S' w' own db fb rb D (.map []) n { m with gone := fun _ => none } ∧ Step own own w w' := by
  have hg := ht.grown
  have keep : ∀ b t, own b = some t → t.1 ≠ 2 → w'.heap[b]? = w.heap[b]? := fun b t hb h1 => by
    refine hg.block b (h.lt (by simp [hb])) (fun e => ?_)
    injection e with e
    rw [e, h.orb] at hb
    injection hb with hb
    rw [← hb] at h1
    exact h1 rfl
  refine ⟨{
    blk := (keep db _ h.odb (by simp)).trans h.blk
    fmap := let ⟨c, hc⟩ := h.fmap; ⟨c, ownsMap_of_block hc (keep fb _ h.ofb (by simp))⟩
    rmap := ⟨0, hm⟩
    cnt := by have := h.cnt; simp [Maps.size]; simp [Maps.size] at this; omega
    dom := h.dom
    rdom := fun k' hk' => by cases hk'
    rback := fun _ k' hk' => by cases hk'
    fil := fun k' f' hf' => by
      obtain ⟨p', dv', h1, h2, h3, h4⟩ := h.fil k' f' hf'
      exact ⟨p', dv', h1, h2.kept (keep p' _ h3 (by simp)) (fun g hg' => keep g _ (h4 g hg') (by simp)), h3, h4⟩
    rem := fun k' d hd => by cases hd
    odb := h.odb
    ofb := h.ofb
    orb := h.orb
    old := fun b hb => h.old b (Nat.le_trans hg.size hb)
    rroom := h.rroom
    rfuse := h.rfuse
    racts := h.racts }, Step.of_fr ((Fr.refl _ _).grown hg (fun k hk _ => by injection hk with hk; subst hk; simp [h.orb]))⟩

set_option maxHeartbeats 1000000 in
set_option maxRecDepth 100000 in
theorem Dev.settle {S' : Prop} (h : Dev S w own db fb rb D E n m) :
    Calls Tryz.prog 38 #[.pointer (some ⟨db, 0, none⟩)] w fun e w' => e = .returned (.tuple #[]) ∧ Dev S' w' own db fb rb D (.map []) n (settleM m) ∧ Step own own w w' := by
  have c1 := h.c1
  obtain ⟨c, hc⟩ := h.fmap
  have hfb : fb < w.heap.size := hc.lt
  have H : Hid (Dev S w own db fb rb D E n m) := h
  clear h
  go_enter Tryz.func38, Tryz.ntmps38
  go_wp2_with (first
    | (at_range; refine wpList_range_own _ rfl _ 72 rfl 9 71 lawS Tryz.underlying72 _ fb c _ rfl hc ?_; intro w0 hrg0 hg0 hs0)
    | go_in)
  go_frame
  go_loopw [3] (fun _ wr => ∃ (left : Lit → Bool) (cnt : Nat), wr.ranges Tryz.prog 9 ptrR fb w.heap.size c D left cnt ∧ Hid (Dev S wr own db fb rb D E n { m with files := settleL left m.files }) ∧ Hid (Step own own w wr) ∧ Hid (∀ k, left k = true → Maps.has D k = true))
    (fun _ wr => wr.rangeLeft fb w.heap.size)
  case atStart =>
    have e1 : settleL (Maps.has D) m.files = m.files := by
      funext k
      cases hk : m.files k with
      | none => simp [settleL, hk]
      | some f => simp [settleL, hk, H.out.dom k]
    refine ⟨_, _, hrg0, ?_, Step.of_fr ((Fr.refl _ _).grown hg0 (fun k hk _ => by cases hk)), fun k hk => hk⟩
    rw [e1]
    exact H.out.kept hg0.size (fun b hb => hg0.block b (H.out.lt hb) (by simp))
  case round =>
    obtain ⟨left, cnt, hrg, HD, HS, Hl⟩ := hrel
    have d1 := HD.out.c1
    have d2 := HD.out.c2
    obtain ⟨c2, hc2⟩ := HD.out.rmap
    go_wp2_with (first
      | (at_next; refine wpList_next_files _ rfl _ rfl fb w.heap.size c _ _ _ rfl hrg (fun k hk => H.out.ptrs k (Hl.out _ hk)) ?_ ?_)
      | (refine wpList_clear_own _ rfl _ 73 rfl 9 49 Tryz.underlying73 _ rb c2 E rfl hc2 ?_; intro w8 hown8 hturn8)
      | go_in)
    · intro _ hl0
      go_wp2_with (first
        | (refine wpList_clear_own _ rfl _ 73 rfl 9 49 Tryz.underlying73 _ rb c2 E rfl hc2 ?_; intro w8 hown8 hturn8)
        | go_in)
      obtain ⟨h8, st8⟩ := HD.out.cleared (S' := S') hown8 hturn8
      go_end0
      refine ⟨rfl, ?_, HS.out.trans st8⟩
      have e1 : settleL left m.files = fun k => (m.files k).map settleF := by
        funext k
        simp [settleL, hl0]
      simp only [e1] at h8
      exact h8
    · intro x p w1 cnt1 hx hlx hat hrg1 hlt hg1 hs1 hen
      clear hc2 d2
      have hrfree : own w.heap.size = none := H.out.old _ (Nat.le_refl _)
      have HD1 : Hid (Dev S w1 own db fb rb D E n { m with files := settleL left m.files }) := HD.out.kept hg1.size (fun b hb => hg1.block b (HD.out.lt hb) (fun e => by injection e with e; subst e; exact hb hrfree))
      have HS1 : Hid (Step own own w w1) := ⟨⟨hg1.os.trans HS.out.fr.os, hg1.tape.trans HS.out.fr.tape, hg1.output.trans HS.out.fr.output, by rw [hs1]; exact HS.out.fr.size, fun i hi hn => (hg1.block i (Nat.lt_of_lt_of_le hi HS.out.fr.size) (fun e => by injection e with e; omega)).trans (HS.out.fr.block i hi hn)⟩, fun _ _ h => h⟩
      have hhas := Hl.out _ hlx
      have hsome := H.out.dom x.data.toList
      rw [hhas] at hsome
      obtain ⟨f, hf⟩ := Option.isSome_iff_exists.1 hsome.symm
      have hfl : settleL left m.files x.data.toList = some f := by simp [settleL, hf, hlx]
      obtain ⟨p', dv, h1, hfa, hp, hg⟩ := HD1.out.fil _ _ hfl
      obtain rfl : p' = p := by
        have := (h1 .nil).symm.trans (hat .nil)
        simp at this
        omega
      obtain ⟨a, l, c', rfl⟩ : ∃ a l c, dv = .slice a l c := by
        rcases hfa.2.1.2 with ⟨rfl, _⟩ | ⟨g, cap, cur, rfl, _⟩ <;> exact ⟨_, _, _, rfl⟩
      obtain ⟨hll, _, _⟩ := take_row (k := f.synced) hfa.2.1 hfa.2.2.1
      subst hll
      have p0 : w1.cell? ⟨p', 0, none⟩ = some (.slice a f.data.length c') := cell_of_blk hfa.1 rfl
      have p1 : w1.cell? ⟨p', 1, none⟩ = some (.int .i64 f.synced) := cell_of_blk hfa.1 rfl
      have p2 : w1.cell? ⟨p', 2, none⟩ = some (.bool f.fresh) := cell_of_blk hfa.1 rfl
      have q1 : w1.frozen? ⟨p', 1, none⟩ = false := frozen_of_blk hfa.1
      have q2 : w1.frozen? ⟨p', 2, none⟩ = false := frozen_of_blk hfa.1
      obtain ⟨h5, st5⟩ := HD1.out.settled h1 hfa hp hg
      have hrp : w.heap.size ≠ p' := fun e => by rw [← e, hrfree] at hp; cases hp
      have hfp : fb ≠ p' := fun e => by have h9 := H.out.ofb; rw [e, hp] at h9; simp at h9
      have hrg5 : ((w1.setCell ⟨p', 1, none⟩ (.int .i64 f.data.length)).setCell ⟨p', 2, none⟩ (.bool false)).ranges Tryz.prog 9 ptrR fb w.heap.size c D (fun z => left z && !z.sameKey (.string x.data.toList)) cnt1 :=
        (hrg1.kept (grownBy_setCell w1 p' 1 _) (by simpa using hfp) (by simpa using hrp)).kept (grownBy_setCell _ p' 2 _) (by simpa using hfp) (by simpa using hrp)
      have H5 : Hid (Dev S ((w1.setCell ⟨p', 1, none⟩ (.int .i64 f.data.length)).setCell ⟨p', 2, none⟩ (.bool false)) own db fb rb D E n { m with files := settleL (fun z => left z && !z.sameKey (.string x.data.toList)) m.files }) := by
        have e1 := settleL_step (left := left) hf hlx
        simp only [e1] at h5
        exact h5
      have HS5 := Lib.hid (HS1.out.trans st5)
      have Hl1 : Hid (∀ k, (left k && !k.sameKey (.string x.data.toList)) = true → Maps.has D k = true) := fun k hk => Hl.out k (by simp at hk; exact hk.1)
      have Hrg5 := Lib.hid hrg5
      clear h5 st5 hrg5 hfa hp hg h1 hfl hf hsome hhas hat hlx HD1 HS1
      generalize f.data.length = l at *
      go_wp2
      go_roundw
      case rel => exact ⟨_, cnt1, Hrg5.out, H5, HS5, Hl1⟩
      case measure => rw [Hrg5.out.left_eq, hrg.left_eq]; exact hlt

/-- What Sync answers, and what the device is then. -/
def syncM (m : DevM) : DevM × Int :=
  if (m.down || m.fuse == 0) = true then ({ m with down := true }, 13)
  else ({ settleM m with down := false, acts := m.acts + 1, fuse := fuseLess m.fuse }, 0)

set_option maxHeartbeats 400000 in
set_option maxRecDepth 100000 in
theorem Dev.sync (h : Dev S w own db fb rb D E n m) (ha : m.acts ≤ 1000000000000) :
    Calls Tryz.prog 49 #[.pointer (some ⟨db, 0, none⟩)] w fun e w' => e = .returned (.int .i64 (syncM m).2) ∧ ∃ E', Dev S w' own db fb rb D E' n (syncM m).1 ∧ Step own own w w' := by
  have hpl := h.powerless
  unfold syncM
  by_cases hd : (m.down || m.fuse == 0) = true
  · rw [if_pos hd]
    rw [hd] at hpl
    clear hd h
    go_enter Tryz.func49, Tryz.ntmps49
    go_wp2_with fail
    refine hpl.mono ?_
    rintro e w1 ⟨rfl, h1, st1⟩
    go_wp2_with fail
    go_ret
    exact ⟨rfl, _, h1, st1⟩
  · rw [if_neg hd]
    have hd' : (m.down || m.fuse == 0) = false := by simpa using hd
    rw [hd'] at hpl
    clear hd hd' h
    go_enter Tryz.func49, Tryz.ntmps49
    go_wp2_with fail
    refine hpl.mono ?_
    rintro e w1 ⟨rfl, h1, st1⟩
    go_wp2_with fail
    refine (h1.settle (S' := S)).mono ?_
    rintro e w2 ⟨rfl, h2, st2⟩
    go_wp2_with fail
    refine (h2.done (by simp only [settleM]; omega)).mono ?_
    rintro e w3 ⟨rfl, h3, st3⟩
    go_wp2_with fail
    go_ret
    exact ⟨rfl, _, h3, (st1.trans st2).trans st3⟩

end
end Go.Proofs.YtdpbnacabinlgaaGreatDoor
namespace Go.Proofs.YtdpbnacabinlgaaGreatDoor
open Go.RowKit Go.Lib Go.Maps

/-- The first of a name. -/
def firstK (ks : List (ByteArray × Int)) (k : List UInt8) : Option Int := (ks.find? fun x => x.1.data.toList == k).map (·.2)
/-- What the closure answers. -/
def manyK (ks : List (ByteArray × Int)) (k : List UInt8) : Int := (firstK ks k).getD (-1)

/-- A row of structs of a text and a number, as it was handed in. -/
def KRow (w : World) (A : Addr) (ks : List (ByteArray × Int)) : Prop :=
  ∀ j s m, ks[j]? = some (s, m) → w.cell? (A.add (j * 2)) = some (.string s) ∧ w.cell? (A.add (j * 2 + 1)) = some (.int .i64 m) ∧ s.size ≤ maxLen ∧ (Lit.int .i64 m).wf = true

/-- The map that the closure asks holds the first of each name of a list. -/
def FirstD (ks : List (ByteArray × Int)) (D : DataW Unit) : Prop :=
  (∀ k, Maps.has D (.string k) = (firstK ks k).isSome) ∧ ∀ k v, firstK ks k = some v → ∀ z, D.atKey (.string k) z = .lit (.int .i64 v)

def FirstAt (w : World) (B bx : Nat) (ks : List (ByteArray × Int)) : Prop :=
  ∃ mb c D, B ≤ bx ∧ B ≤ mb ∧ w.cell? ⟨bx, 0, none⟩ = some (.map (some mb)) ∧ w.ownsMap Tryz.prog 9 (plainElem Tryz.prog 3) mb c D ∧ FirstD ks D

theorem add_add' (a : Addr) (i j : Nat) : (a.add i).add j = a.add (i + j) := by
  unfold Addr.add
  by_cases hi : i = 0 <;> by_cases hj : j = 0 <;> simp [hi, hj, Nat.add_assoc]

theorem add_one' (a : Addr) : a.add 1 = ⟨a.block, a.off + 1, none⟩ := rfl

theorem zeroI (w : World) : (zeroValue 3).run Tryz.prog w = .ok (.int .i64 0) w := by kernel_rfl

theorem firstK_snoc_old {ks : List (ByteArray × Int)} {s : ByteArray} {m : Int} (h : (firstK ks s.data.toList).isSome = true) (k : List UInt8) : firstK (ks ++ [(s, m)]) k = firstK ks k := by
  simp only [firstK, List.find?_append]
  cases hf : ks.find? fun x => x.1.data.toList == k with
  | some x => simp
  | none =>
    have : ¬ s.data.toList = k := fun e => by
      subst e
      rw [firstK, hf] at h
      cases h
    simp only [List.find?_cons, beq_eq_false_iff_ne.2 this, List.find?_nil]
    simp

theorem firstK_snoc_new {ks : List (ByteArray × Int)} {s : ByteArray} {m : Int} (h : firstK ks s.data.toList = none) (k : List UInt8) : firstK (ks ++ [(s, m)]) k = if k = s.data.toList then some m else firstK ks k := by
  simp only [firstK, List.find?_append]
  by_cases e : k = s.data.toList
  · subst e
    simp only [firstK, Option.map_eq_none_iff] at h
    rw [if_pos rfl, h]
    simp
  · rw [if_neg e]
    have : ¬ s.data.toList = k := fun e1 => e e1.symm
    cases hf : ks.find? fun x => x.1.data.toList == k
    · simp only [List.find?_cons, beq_eq_false_iff_ne.2 this, List.find?_nil]
      simp
    · simp

theorem FirstD.old {ks : List (ByteArray × Int)} {s : ByteArray} {m : Int} {D : DataW Unit} (h : FirstD ks D) (hh : Maps.has D (.string s.data.toList) = true) : FirstD (ks ++ [(s, m)]) D := by
  have h1 : (firstK ks s.data.toList).isSome = true := by rw [← h.1]; exact hh
  exact ⟨fun k => by rw [firstK_snoc_old h1]; exact h.1 k, fun k v hv => by rw [firstK_snoc_old h1] at hv; exact h.2 k v hv⟩

theorem FirstD.new {ks : List (ByteArray × Int)} {s : ByteArray} {m : Int} {D : DataW Unit} (h : FirstD ks D) (hD : IsMap D) (hh : Maps.has D (.string s.data.toList) = false) : FirstD (ks ++ [(s, m)]) (D.put (.string s.data.toList) (.lit (.int .i64 m))) := by
  have h1 : firstK ks s.data.toList = none := by
    have := h.1 s.data.toList
    rw [hh] at this
    simpa using this.symm
  refine ⟨fun k => ?_, fun k v hv z => ?_⟩
  · rw [firstK_snoc_new h1]
    by_cases e : k = s.data.toList
    · subst e
      rw [if_pos rfl, Maps.has_put_same (k := .string s.data.toList) hD trivial]
      rfl
    · rw [if_neg e, Maps.has_put_other (fun e1 => e (by injection e1))]
      exact h.1 k
  · rw [firstK_snoc_new h1] at hv
    by_cases e : k = s.data.toList
    · subst e
      rw [if_pos rfl] at hv
      injection hv with hv
      subst hv
      exact Maps.atKey_put_same (k := .string s.data.toList) hD trivial _ _
    · rw [if_neg e] at hv
      rw [Maps.atKey_put_other (fun e1 => e (by injection e1))]
      exact h.2 k v hv z

set_option maxHeartbeats 400000 in
set_option maxRecDepth 100000 in
/-- The closure's own call. -/
theorem many_calls {B bx : Nat} {ks : List (ByteArray × Int)} {w : World} (h : FirstAt w B bx ks) {s : ByteArray} (hs : s.size ≤ maxLen) :
    Calls Tryz.prog 87 #[.string s, .pointer (some ⟨bx, 0, none⟩)] w fun e w' => e = .returned (.int .i64 (manyK ks s.data.toList)) ∧ w = w' := by
  obtain ⟨mb, c, D, _, _, hx, hown, h1, h2⟩ := h
  have hkey := WideMaps.keyOf_string_mk Tryz.underlying9 hs
  obtain ⟨v, hv⟩ : ∃ v, manyK ks s.data.toList = v := ⟨_, rfl⟩
  rw [hv]
  have Hv := Lib.hid hv
  have H1 : Hid (Maps.has D (.string s.data.toList) = (firstK ks s.data.toList).isSome) := h1 _
  have H2 : Hid (∀ v, firstK ks s.data.toList = some v → ∀ z, D.atKey (.string s.data.toList) z = .lit (.int .i64 v)) := fun v hv => h2 _ v hv
  clear hv h1 h2
  cases hh : Maps.has D (.string s.data.toList) with
  | true =>
    have Hh := Lib.hid hh
    go_enter Tryz.func87, Tryz.ntmps87
    go_wp2_with (first
      | (at_lookup; refine wpList_lookup_own_ok_int _ rfl _ _ 130 rfl 9 3 .i64 lawS Tryz.underlying130 Tryz.underlying3 (zeroI _) mb c D rfl hown _ _ rfl hkey ?_; intro x hat hwx; have Hat : Hid (D.atKey (.string s.data.toList) (.lit (.int .i64 0)) = .lit (.int .i64 x)) := hat; clear hat)
      | go_in)
    go_ret
    have h3 := H1.out
    rw [Hh.out] at h3
    obtain ⟨u, hu⟩ := Option.isSome_iff_exists.1 h3.symm
    have h4 := (H2.out u hu _).symm.trans Hat.out
    have h5 := Hv.out
    simp only [manyK, hu, Option.getD_some] at h5
    obtain rfl : u = x := by simpa using h4
    subst h5
    exact ⟨rfl, rfl⟩
  | false =>
    have Hh := Lib.hid hh
    go_enter Tryz.func87, Tryz.ntmps87
    go_wp2_with (first
      | (at_lookup; refine wpList_lookup_own_ok_int _ rfl _ _ 130 rfl 9 3 .i64 lawS Tryz.underlying130 Tryz.underlying3 (zeroI _) mb c D rfl hown _ _ rfl hkey ?_; intro x hat hwx; have Hat : Hid (D.atKey (.string s.data.toList) (.lit (.int .i64 0)) = .lit (.int .i64 x)) := hat; clear hat)
      | go_in)
    go_ret
    have h3 := H1.out
    rw [Hh.out] at h3
    have h5 := Hv.out
    have h6 : firstK ks s.data.toList = none := by simpa using h3.symm
    simp only [manyK, h6, Option.getD_none] at h5
    subst h5
    exact ⟨rfl, rfl⟩

set_option maxHeartbeats 1000000 in
set_option maxRecDepth 100000 in
theorem firstOf_some (A : Addr) (c : Nat) (ks : List (ByteArray × Int)) (w : World) (hk : KRow w A ks) (hl : ks.length ≤ 1000000000000) :
    Calls Tryz.prog 60 #[.slice (some A) ks.length c] w fun e w' => ∃ bx, e = .returned (.func (.func 87) #[] #[.pointer (some ⟨bx, 0, none⟩)]) ∧ FirstAt w' w.heap.size bx ks ∧ Below w.heap.size w w' := by
  have hmm := @run_makeMap Tryz.prog
  have Hk := Lib.hid hk
  obtain ⟨l, hll⟩ : ∃ l, ks.length = l := ⟨_, rfl⟩
  have Hll := Lib.hid hll
  rw [hll] at hl ⊢
  clear hk hll
  go_enter Tryz.func60, Tryz.ntmps60
  go_wp2_with fail
  go_loopw [11] (fun i wr => ∃ (k : Nat) (D : DataW Unit), k ≤ l ∧ i = .int .i64 k ∧ wr.cell? ⟨w.heap.size + 1, 0, none⟩ = some (.map (some w.heap.size)) ∧ wr.ownsMap Tryz.prog 9 (plainElem Tryz.prog 3) w.heap.size k D ∧ Hid (FirstD (ks.take k) D) ∧ Hid (Below w.heap.size w wr) ∧ w.heap.size + 2 ≤ wr.heap.size)
    (fun i _ => l - (intOf i).toNat)
  case atStart =>
    refine ⟨0, .map [], Nat.zero_le _, rfl, by simp, ?_, ⟨fun k => rfl, fun k v hv => by cases hv⟩, ((Below.refl _ _).alloc (Nat.le_refl _) _).alloc (by simp) _, by simp⟩
    exact (World.ownsMap_made w Tryz.prog 9 (plainElem Tryz.prog 3)).alloc _
  case round =>
    obtain ⟨k, D, hkl, rfl, hx, hown, Hf, Hb, hsz⟩ := hrel
    by_cases hlt : k < l
    · obtain ⟨⟨s, v⟩, hks⟩ : ∃ x, ks[k]? = some x := ⟨_, List.getElem?_eq_getElem (by rw [Hll.out]; exact hlt)⟩
      obtain ⟨e0, e1, hss, hwv⟩ := Hk.out k s v hks
      have g0 := (Hb.out.cell (p := A.add (k * 2)) (World.block_lt_of_cell? _ _ e0)).trans e0
      have g1 := (Hb.out.cell (p := A.add (k * 2 + 1)) (World.block_lt_of_cell? _ _ e1)).trans e1
      rw [← add_add', add_one'] at g1
      have hkey := WideMaps.keyOf_string_mk Tryz.underlying9 hss
      have Hks := Lib.hid hks
      clear e0 e1 hks
      have hK1 : ks.take (k + 1) = ks.take k ++ [(s, v)] := by
        rw [List.take_add_one, Hks.out]
        rfl
      have HK1 := Lib.hid hK1
      have hx2 : (wr.alloc (.cells #[.string s, .int .i64 v] 67)).cell? ⟨w.heap.size + 1, 0, none⟩ = some (.map (some w.heap.size)) := by rw [World.cell?_alloc_lt _ _ _ (World.block_lt_of_cell? _ _ hx)]; exact hx
      have Hown := Lib.hid hown
      clear hK1
      cases hh : Maps.has D (.string s.data.toList) with
      | true =>
        have Hf1 : Hid (FirstD (ks.take (k + 1)) D) := by rw [HK1.out]; exact Hf.out.old hh
        go_wp2_with (first
          | (at_lookup; refine wpList_lookup_own_ok_int _ rfl _ _ 130 rfl 9 3 .i64 lawS Tryz.underlying130 Tryz.underlying3 (zeroI _) w.heap.size k D rfl (Hown.out.alloc _) _ _ rfl hkey ?_; intro x hat hwx; clear hat)
          | go_in)
        go_roundw
        case rel => exact ⟨k + 1, D, by omega, by go_num, hx2, (Hown.out.alloc _).mono (by omega), Hf1, Hb.out.alloc (by omega) _, by simp; omega⟩
        case measure => simp [intOf]; omega
      | false =>
        have Hf1 : Hid (FirstD (ks.take (k + 1)) (D.put (.string s.data.toList) (.lit (.int .i64 v)))) := by rw [HK1.out]; exact Hf.out.new hown.isMap hh
        go_wp2_with (first
          | (at_lookup; refine wpList_lookup_own_ok_int _ rfl _ _ 130 rfl 9 3 .i64 lawS Tryz.underlying130 Tryz.underlying3 (zeroI _) w.heap.size k D rfl (Hown.out.alloc _) _ _ rfl hkey ?_; intro x hat hwx; clear hat)
          | (at_mapUpdate; refine wpList_mapUpdate_own _ rfl _ _ _ 130 rfl 9 3 lawS Tryz.underlying130 _ w.heap.size k D rfl (Hown.out.alloc _) (by unfold maxLen; omega) _ _ _ rfl rfl hkey _ [] (plainElem_int Tryz.underlying3 hwv) ?_; intro w1 hown1 hgrow1)
          | go_in)
        go_roundw
        case rel =>
          refine ⟨k + 1, _, by omega, by go_num, ?_, hown1, Hf1, (Hb.out.alloc (by omega) _).grown hgrow1 (by simp; omega) (fun j hj => by injection hj with hj; omega), by have := hgrow1.size; simp at this; omega⟩
          exact hgrow1.cell hx2 (by simp)
        case measure => simp [intOf]; omega
    · have e1 : ks.take k = ks := List.take_of_length_le (by rw [Hll.out]; omega)
      have Hf1 : Hid (FirstD ks D) := by rw [← e1]; exact Hf.out
      go_wp2
      go_ret
      exact ⟨_, rfl, ⟨_, _, _, by omega, Nat.le_refl _, hx, hown, Hf1.out⟩, Hb.out⟩

set_option maxHeartbeats 400000 in
set_option maxRecDepth 100000 in
theorem firstOf_nil (w : World) :
    Calls Tryz.prog 60 #[.slice none 0 0] w fun e w' => ∃ bx, e = .returned (.func (.func 87) #[] #[.pointer (some ⟨bx, 0, none⟩)]) ∧ FirstAt w' w.heap.size bx [] ∧ Below w.heap.size w w' := by
  have hmm := @run_makeMap Tryz.prog
  go_enter Tryz.func60, Tryz.ntmps60
  go_wp2_with fail
  refine wp_loop_rounds 1 ?_
  rw [rounds_succ]
  go_wp2
  go_ret
  exact ⟨_, rfl, ⟨w.heap.size, 0, .map [], by omega, Nat.le_refl _, by simp, (World.ownsMap_made w Tryz.prog 9 (plainElem Tryz.prog 3)).alloc _, fun k => rfl, fun k v hv => by cases hv⟩, ((Below.refl _ _).alloc (Nat.le_refl _) _).alloc (by simp) _⟩

/-- Names and numbers that were handed in, in memory that the device doesn't own. -/
def KArg (w : World) (own : Owner) (kv : Value) (ks : List (ByteArray × Int)) : Prop :=
  (kv = .slice none 0 0 ∧ ks = []) ∨ ∃ A c, kv = .slice (some A) ks.length c ∧ (ks ≠ [] → own A.block = none) ∧ KRow w A ks

theorem KArg.step {w w' : World} {own own' : Owner} {kv : Value} {ks : List (ByteArray × Int)} (h : KArg w own kv ks) (hs : Step own own' w w') : KArg w' own' kv ks := by
  rcases h with h | ⟨A, c, h1, h3, h4⟩
  · exact Or.inl h
  · refine Or.inr ⟨A, c, h1, fun hne => ?_, fun j s m hj => ?_⟩
    · cases ks with
      | nil => exact absurd rfl hne
      | cons x l =>
        have h5 := World.block_lt_of_cell? _ _ (h4 0 x.1 x.2 rfl).1
        rw [add_block] at h5
        exact hs.own _ h5 (h3 hne)
    · obtain ⟨e0, e1, e2⟩ := h4 j s m hj
      have h6 := h3 (fun e => by subst e; simp at hj)
      have h5 := World.block_lt_of_cell? _ _ e0
      rw [add_block] at h5
      have hb := hs.fr.block A.block h5 (by simp [h6])
      exact ⟨(World.cell?_of_block (by rw [add_block]; exact hb)).trans e0, (World.cell?_of_block (by rw [add_block]; exact hb)).trans e1, e2⟩

theorem firstOf_calls {w : World} {own : Owner} {kv : Value} {ks : List (ByteArray × Int)} (h : KArg w own kv ks) (hl : ks.length ≤ 1000000000000) :
    Calls Tryz.prog 60 #[kv] w fun e w' => ∃ bx, e = .returned (.func (.func 87) #[] #[.pointer (some ⟨bx, 0, none⟩)]) ∧ FirstAt w' w.heap.size bx ks ∧ Below w.heap.size w w' := by
  rcases h with ⟨rfl, rfl⟩ | ⟨A, c, rfl, _, h4⟩
  · exact firstOf_nil w
  · exact firstOf_some A c ks w h4 hl

theorem FirstAt.step {w w' : World} {own own' : Owner} {B bx : Nat} {ks : List (ByteArray × Int)} (h : FirstAt w B bx ks) (hs : Step own own' w w') (ho : ∀ b, B ≤ b → own b = none) : FirstAt w' B bx ks := by
  obtain ⟨mb, c, D, h1, h2, hx, hown, h3⟩ := h
  refine ⟨mb, c, D, h1, h2, hs.fr.cell hx (by simp [ho bx h1]), ownsMap_of_block hown (hs.fr.block mb hown.lt (by simp [ho mb h2])), h3⟩

end Go.Proofs.YtdpbnacabinlgaaGreatDoor
namespace Go.Proofs.YtdpbnacabinlgaaGreatDoor
open Go.RowKit Go.Lib Go.Maps Go.ChangeMaps

/-- How many bytes of a file are left. -/
def cutK (ks : List (ByteArray × Int)) (k : List UInt8) (f : FileM) : Nat := f.synced + (min (max (manyK ks k) 0) ((f.data.length : Int) - (f.synced : Int))).toNat
/-- What is left of a file. -/
def crashF (ks : List (ByteArray × Int)) (k : List UInt8) (f : FileM) : Option FileM :=
  if f.fresh = true ∧ manyK ks k < 0 then none else some ⟨f.data.take (cutK ks k f), f.synced, f.fresh⟩
def crashL (ks : List (ByteArray × Int)) (left : Lit → Bool) (files : List UInt8 → Option FileM) : List UInt8 → Option FileM := fun k => (files k).bind fun f => if left (.string k) then some f else crashF ks k f
def crash1 (ks : List (ByteArray × Int)) (files : List UInt8 → Option FileM) : List UInt8 → Option FileM := fun k => (files k).bind (crashF ks k)
/-- What comes back. -/
def backL (left : Lit → Bool) (gone : List UInt8 → Option (List UInt8)) (files : List UInt8 → Option FileM) : List UInt8 → Option FileM := fun k =>
  if left (.string k) then files k else match gone k with | some d => some ⟨d, 0, false⟩ | none => files k
def goneL (left : Lit → Bool) (gone : List UInt8 → Option (List UInt8)) : List UInt8 → Option (List UInt8) := fun k => if left (.string k) then gone k else none

/-- A device behind a crash. -/
def crashFiles (ks : List (ByteArray × Int)) (m : DevM) (k : List UInt8) : Option FileM :=
  match m.gone k with | some d => some ⟨d, 0, false⟩ | none => (m.files k).bind (crashF ks k)
def crashM (ks : List (ByteArray × Int)) (m : DevM) : DevM :=
  { m with files := fun k => (crashFiles ks m k).map settleF, gone := fun _ => none, fuse := -1, down := false }

theorem cutK_le (ks : List (ByteArray × Int)) (k : List UInt8) (f : FileM) (h : f.synced ≤ f.data.length) : f.synced ≤ cutK ks k f ∧ cutK ks k f ≤ f.data.length := by
  unfold cutK
  omega

theorem crashL_step {ks : List (ByteArray × Int)} {left : Lit → Bool} {files : List UInt8 → Option FileM} {k : List UInt8} {f : FileM} (hf : files k = some f) (hl : left (.string k) = true) :
    setF (crashL ks left files) k (crashF ks k f) = crashL ks (fun z => left z && !z.sameKey (.string k)) files := by
  funext k'
  by_cases e : k' = k
  · subst e
    simp [setF_same, crashL, hf, Lit.sameKey]
  · rw [setF_other _ _ e]
    have : (Lit.string k').sameKey (.string k) = false := by simp [Lit.sameKey, e]
    simp [crashL, this]

theorem backL_step {left : Lit → Bool} {gone : List UInt8 → Option (List UInt8)} {files : List UInt8 → Option FileM} {k d : List UInt8} (hg : gone k = some d) (hl : left (.string k) = true) :
    setF (backL left gone files) k (some ⟨d, 0, false⟩) = backL (fun z => left z && !z.sameKey (.string k)) gone files := by
  funext k'
  by_cases e : k' = k
  · subst e
    simp [setF_same, backL, hg, Lit.sameKey]
  · rw [setF_other _ _ e]
    have : (Lit.string k').sameKey (.string k) = false := by simp [Lit.sameKey, e]
    simp [backL, this]

theorem step_back {left : Lit → Bool} {gone : List UInt8 → Option (List UInt8)} {files : List UInt8 → Option FileM} {k d : List UInt8} (hg : gone k = some d) (hl : left (.string k) = true) :
    goneL left gone k = some d ∧ setF (backL left gone files) k (some ⟨d, 0, false⟩) = backL (fun z => left z && !z.sameKey (.string k)) gone files := ⟨by simp [goneL, hl, hg], backL_step hg hl⟩

theorem goneL_step {left : Lit → Bool} {gone : List UInt8 → Option (List UInt8)} {k : List UInt8} :
    setF (goneL left gone) k none = goneL (fun z => left z && !z.sameKey (.string k)) gone := by
  funext k'
  by_cases e : k' = k
  · subst e
    simp [setF_same, goneL, Lit.sameKey]
  · rw [setF_other _ _ e]
    have : (Lit.string k').sameKey (.string k) = false := by simp [Lit.sameKey, e]
    simp [goneL, this]

section
variable {S : Prop} {w w' : World} {own own' : Owner} {db fb rb : Nat} {D D' E E' : DataW Unit} {n n' : Nat} {m : DevM}

/-- A file's slice is cut. -/
theorem Dev.cut (h : Dev S w own db fb rb D E n m) {k : List UInt8} {f : FileM} {p : Nat} {a : Option Addr} {l c' x : Nat} (hat : ∀ z, D.atKey (.string k) z = .lit (.int .u64 p))
    (hfa : FileAt w p (.slice a l c') f) (hp : own p = some (3, k)) (hg : ∀ g, (Value.slice a l c').ownBlock = some g → own g = some (4, k)) (hx : f.synced ≤ x) (hx2 : x ≤ f.data.length) :
    Dev S (w.setCell ⟨p, 0, none⟩ (.slice a x c')) own db fb rb D E n { m with files := setF m.files k (some ⟨f.data.take x, f.synced, f.fresh⟩) } ∧ Step own own w (w.setCell ⟨p, 0, none⟩ (.slice a x c')) := by
  have hpn : (Value.slice a l c').ownBlock ≠ some p := fun e => by have := hg p e; rw [hp] at this; simp at this
  have hother : ∀ b, b ≠ p → (w.setCell ⟨p, 0, none⟩ (.slice a x c')).heap[b]? = w.heap[b]? := fun b hb => Below.heap_setCell _ _ _ _ hb
  have hob : (Value.slice a x c').ownBlock = (Value.slice a l c').ownBlock := by cases a <;> rfl
  obtain ⟨_, _, hrow⟩ := take_row (k := x) hfa.2.1 hx2
  have hlx : (f.data.take x).length = x := by simp; omega
  refine ⟨h.setFile (p := p) (dv := .slice a x c') (by simp [World.setCell]) (fun b _ _ h3 _ => hother b (fun e => h3 (by rw [e]; exact hp))) (fun _ _ => rfl) (fun b hb => h.old b (by simpa [World.setCell] using hb)) ?_ h.cnt hat (fun _ _ => rfl) (fun _ _ _ => rfl) ?_ hp (fun g hg' => hg g (hob ▸ hg')),
    Step.of_fr ((Fr.refl _ _).setCell _ _ (fun _ => by simp [hp]))⟩
  · obtain ⟨c, hc⟩ := h.fmap
    exact ⟨c, ownsMap_of_block hc (hother fb (fun e => by have := h.ofb; rw [e, hp] at this; simp at this))⟩
  · refine ⟨?_, ownsRow_of_block hrow (fun g hg' => hother g (fun e => hpn (by rw [← hob, hg', e]))), by rw [hlx]; exact hx, by rw [hlx]; have := hfa.2.2.2; omega⟩
    rw [setCell_blk hfa.1]
    rfl

/-- What was removed is a file again. -/
theorem Dev.restore (h : Dev False w own db fb rb D E n m) {k d : List UInt8} {dv : Value} {p c : Nat} (hgone : m.gone k = some d) (hp : p = w.heap.size) (hE : ∀ z, E.atKey (.string k) z = slD dv) (hslR : slR dv = some (slD dv, []))
    (hW : ∀ b, b < w.heap.size → b ≠ fb → w'.heap[b]? = w.heap[b]?) (hsz : p < w'.heap.size) (hblk : w'.heap[p]? = some (.cells #[dv, .int .i64 0, .bool false] 78 (0, 0)))
    (hm : w'.ownsMap Tryz.prog 9 ptrR fb c (D.put (.string k) (.lit (.int .u64 p)))) (hn : n < n') :
    ∃ own', Dev False w' own' db fb rb (D.put (.string k) (.lit (.int .u64 p))) E n' { m with files := setF m.files k (some ⟨d, 0, false⟩), gone := setF m.gone k none } ∧ (∀ b, b < w.heap.size → own b = none → own' b = none) ∧ Maps.size (D.put (.string k) (.lit (.int .u64 p))) ≤ Maps.size D + 1 := by
  obtain ⟨c0, hc0⟩ := h.fmap
  have hmap := hc0.isMap
  obtain ⟨dv', h1, hrow, hdl, hg⟩ := h.rem k d hgone
  obtain rfl : dv' = dv := by
    have e1 := (h1 .nil).symm.trans (hE .nil)
    exact slD_inj (ownsRow_slR hrow) hslR e1
  have hnone : own p = none := h.old p (by omega)
  have hszp : Maps.size (D.put (.string k) (.lit (.int .u64 p))) ≤ Maps.size D + 1 := by
    have h2 := Maps.size_put (k := .string k) (hc0.tidy lawS) (.lit (.int .u64 (p : Nat)))
    split at h2 <;> omega
  let own2 : Owner := fun b => if b = p then some (3, k) else if dv'.ownBlock = some b then some (4, k) else own b
  have own_ : ∀ b t, own b = some t → t ≠ (5, k) → own2 b = some t := fun b t hb ht => by
    show (if b = p then some (3, k) else if dv'.ownBlock = some b then some (4, k) else own b) = some t
    rw [if_neg (fun e => by subst e; rw [hnone] at hb; cases hb), if_neg (fun e => by have h5 := hg b e; rw [hb] at h5; injection h5 with h5; exact ht h5)]
    exact hb
  have keep : ∀ b t, own b = some t → t.1 ≠ 1 → w'.heap[b]? = w.heap[b]? := fun b t hb h1 => hW b (h.lt (by simp [hb])) (fun e => by rw [e, h.ofb] at hb; injection hb with hb; rw [← hb] at h1; exact h1 rfl)
  have hgp : ∀ g, dv'.ownBlock = some g → g ≠ p := fun g hg' e => by have h5 := hg g hg'; rw [e, hnone] at h5; cases h5
  refine ⟨own2, ?_, fun b hb hb' => ?_, hszp⟩
  · exact {
    blk := (keep db _ h.odb (by simp)).trans h.blk
    fmap := ⟨c, hm⟩
    rmap := let ⟨c, hc⟩ := h.rmap; ⟨c, ownsMap_of_block hc (keep rb _ h.orb (by simp))⟩
    cnt := by have := h.cnt; omega
    dom := fun k' => by
      by_cases e : k' = k
      · subst e
        simp only [setF_same, Option.isSome_some]
        exact Maps.has_put_same (k := .string k') hmap trivial _
      · simp only [setF_other _ _ e]
        rw [Maps.has_put_other (fun e1 => e (by injection e1))]
        exact h.dom k'
    rdom := fun k' hk' => by
      by_cases e : k' = k
      · subst e
        simp only [setF_same] at hk'
        cases hk'
      · simp only [setF_other _ _ e] at hk'
        exact h.rdom k' hk'
    rback := fun hS => hS.elim
    fil := fun k' f' hf' => by
      by_cases e : k' = k
      · subst e
        simp only [setF_same, Option.some.injEq] at hf'
        subst hf'
        refine ⟨p, dv', fun z => Maps.atKey_put_same (k := .string k') hmap trivial _ _, ⟨hblk, ownsRow_of_block hrow (fun g hg' => keep g _ (hg g hg') (by simp)), Nat.zero_le _, hdl⟩, by simp [own2], fun g hg' => ?_⟩
        show (if g = p then some (3, k') else if dv'.ownBlock = some g then some (4, k') else own g) = some (4, k')
        rw [if_neg (hgp g hg'), if_pos hg']
      · simp only [setF_other _ _ e] at hf'
        obtain ⟨p', dv'', h1, h2, h3, h4⟩ := h.fil k' f' hf'
        exact ⟨p', dv'', fun z => (Maps.atKey_put_other (fun e1 => e (by injection e1)) _ _).trans (h1 z), h2.kept (keep p' _ h3 (by simp)) (fun g hg' => keep g _ (h4 g hg') (by simp)), own_ _ _ h3 (by simp), fun g hg' => own_ _ _ (h4 g hg') (by simp)⟩
    rem := fun k' d' hd => by
      by_cases e : k' = k
      · subst e
        simp only [setF_same] at hd
        cases hd
      · simp only [setF_other _ _ e] at hd
        obtain ⟨dv'', h1, h2, h3, h4⟩ := h.rem k' d' hd
        exact ⟨dv'', h1, ownsRow_of_block h2 (fun g hg' => keep g _ (h4 g hg') (by simp)), h3, fun g hg' => own_ _ _ (h4 g hg') (by simp [e])⟩
    odb := own_ _ _ h.odb (by simp)
    ofb := own_ _ _ h.ofb (by simp)
    orb := own_ _ _ h.orb (by simp)
    old := fun b hb => by
      show (if b = p then some (3, k) else if dv'.ownBlock = some b then some (4, k) else own b) = none
      rw [if_neg (by omega), if_neg (fun e => by have := (hrow.lt b e).2; omega)]
      exact h.old b (by omega)
    rroom := h.rroom
    rfuse := h.rfuse
    racts := h.racts }
  · show (if b = p then some (3, k) else if dv'.ownBlock = some b then some (4, k) else own b) = none
    rw [if_neg (by omega), if_neg (fun e => by have h5 := hg b e; rw [hb'] at h5; cases h5)]
    exact hb'

end

/-- A range's step over the map of what was removed. -/
theorem wpList_next_rem {ops : Array Oper} {rest : List Oper} {o : Oper} {a : Act} {Q : Exit → Act → World → Prop} (w : World)
    (hg : o.guard = none) (it : Operand) (hop : o.op = Op.next it false) (b r n : Nat) (D : DataW Unit) (left : Lit → Bool) (cnt : Nat)
    (hit : a.eval it = .pointer (some ⟨r, 0, none⟩)) (h : w.ranges Tryz.prog 9 slR b r n D left cnt)
    (hDone : cnt = 0 → (∀ kl, left kl = false) → wpList Tryz.prog ops Q rest (a.put o.dst (.tuple #[.bool false])) w)
    (hMore : ∀ (x : ByteArray) (sa : Option Addr) (sl sc : Nat) (w' : World) (cnt' : Nat), x.size ≤ maxLen → left (.string x.data.toList) = true → slR (.slice sa sl sc) = some (slD (.slice sa sl sc), []) → (∀ z, D.atKey (.string x.data.toList) z = slD (.slice sa sl sc)) → w'.ranges Tryz.prog 9 slR b r n D (fun z => left z && !z.sameKey (.string x.data.toList)) cnt' → cnt' < cnt →
      w.grownBy w' (some r) → w'.heap.size = w.heap.size → (Instr.entry (.pointer (some ⟨r, 0, none⟩))).run Tryz.prog w' = .ok (.tuple #[.string x, .slice sa sl sc]) w' → wpList Tryz.prog ops Q rest (a.put o.dst (.tuple #[.bool true, .string x, .slice sa sl sc])) w') :
    wpList Tryz.prog ops Q (o :: rest) a w := by
  refine wpList_plain hg fun K' hK' => ?_
  unfold Oper.wp
  rcases h.next lawS o.type with ⟨h0, hl, hrun⟩ | ⟨key, v, kl, y, w', cnt', hkey, hlk, hv, hat, hrun, hrg, hlt, hgr, hsz, hen⟩
  · simp [execOp, hop, hit, hrun, Result.andThen]
    exact hK' _ _ (hDone h0 hl)
  · obtain ⟨x, rfl, rfl, hx⟩ := keyOf_str_inv hkey
    obtain ⟨sa, sl, sc, rfl⟩ : ∃ sa sl sc, v = .slice sa sl sc := by
      rcases (slR_inv hv).2 with rfl | ⟨g, n, c, rfl⟩ <;> exact ⟨_, _, _, rfl⟩
    obtain ⟨rfl, _⟩ := slR_inv hv
    simp [execOp, hop, hit, hrun, Result.andThen]
    exact hK' _ _ (hMore x sa sl sc w' cnt' hx hlk hv hat hrg hlt hgr hsz hen)

end Go.Proofs.YtdpbnacabinlgaaGreatDoor

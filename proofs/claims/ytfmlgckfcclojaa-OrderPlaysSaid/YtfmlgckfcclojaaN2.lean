/- OrderPlays holds: calls of a buffer answer as the document says; so are the time, and what waits. No condition. -/
import Derived.Test.YtfmlgckfcclojaaMB
import Derived.Deep.RegionHeld3
import Derived.Deep.Upon
namespace Go.Proofs.Ytfmlgckfcclojaa
open Go.RowKit Go.Lib Go.Op

def greatM : Int → List VIn → Int
  | m, [] => m
  | m, x :: r => if m < 9000 then greatM (wrap64 (m + min (x.2.2.size : Int) 9000)) r else m
def greatEB (nm : ByteArray) (vs : List VIn) : Bool := decide (9000 ≤ greatM (wrap64 ((nm.size : Int) + (vs.length : Int))) vs)
theorem greatM_big {m : Int} (h : ¬ m < 9000) : ∀ vs, greatM m vs = m
  | [] => rfl
  | x :: r => by rw [greatM, if_neg h]

set_option maxHeartbeats 2000000 in
set_option maxRecDepth 100000 in
theorem greatEB_calls (t d s : Int) (n : ByteArray) (a : Option Addr) (c : Nat) (vs : List VIn) (w : World) (_hn : n.size ≤ maxLen) (hv : VRow w a vs) (hl : vs.length ≤ maxLen) :
    Calls Try.prog 16 #[evV t d s n (.slice a vs.length c)] w fun e w' => e = .returned (.bool (greatEB n vs)) ∧ Below w.heap.size w w' := by
  have hb0 : Below w.heap.size w (w.alloc (.cells #[.int .i64 t, .int .i64 d, .int .i64 s, .string n, .slice a vs.length c] 25)) := (Below.refl _ _).alloc (Nat.le_refl _) _
  have HV := Lib.hid (hv.below hb0)
  obtain ⟨z, hz⟩ : ∃ z, greatM (wrap64 ((n.size : Int) + (vs.length : Int))) vs = z := ⟨_, rfl⟩
  unfold greatEB
  rw [hz]
  obtain ⟨l, hll⟩ : ∃ l, vs.length = l := ⟨_, rfl⟩
  have Hl := Lib.hid hll
  rw [hll] at hl hb0 HV hz ⊢
  have HB0 := Lib.hid hb0
  have Hz := Lib.hid hz
  unfold maxLen at hl _hn
  clear hv hll hb0 hz
  go_enter Try.func16, Try.ntmps16
  go_wp2
  go_loop [3, 4] (fun x i => ∃ (k : Nat) (m : Int), i = .int .i64 k ∧ k ≤ l ∧ x = .int .i64 m ∧ Hid (greatM m (vs.drop k) = z)) (fun _ i => l - (intOf i).toNat)
  case atStart => exact ⟨0, _, rfl, Nat.zero_le _, rfl, Hz⟩
  case round =>
    obtain ⟨k, m, rfl, hk, rfl, HM⟩ := hrel
    by_cases hlt : k < l
    · by_cases hm : m < 9000
      · obtain ⟨x, hx⟩ : ∃ x, vs[k]? = some x := ⟨_, List.getElem?_eq_getElem (by rw [Hl.out]; exact hlt)⟩
        obtain ⟨A, rfl, c0, c1, c2, hs⟩ := HV.out k x hx
        have hdr : vs.drop k = x :: vs.drop (k + 1) := by
          rw [List.drop_eq_getElem_cons (by rw [Hl.out]; exact hlt)]
          congr 1
          rw [List.getElem?_eq_getElem (by rw [Hl.out]; exact hlt)] at hx
          injection hx
        have HN : Hid (greatM (wrap64 (m + min (x.2.2.size : Int) 9000)) (vs.drop (k + 1)) = z) := by
          show _ = _
          rw [← HM.out, hdr, greatM, if_pos hm]
        obtain ⟨k1, n1, s1⟩ := x
        dsimp only at c0 c1 c2 hs HN
        unfold efld at c1 c2
        have hd : decide (m < 9000) = true := by simpa using hm
        clear hx hdr
        go_wp2
        go_round
        case rel => exact ⟨k + 1, _, by go_num, by omega, rfl, HN⟩
        case measure => simp [intOf]; omega
      · have hd : decide (m < 9000) = false := by simpa using hm
        have HE : Hid (m = z) := by show _ = _; rw [← HM.out, greatM_big hm]
        go_wp2
        go_ret
        exact ⟨vret_bool (by have h := HE.out; symm; rw [decide_eq_true_eq]; omega), HB0.out⟩
    · have HE : Hid (m = z) := by
        show _ = _
        rw [← HM.out, List.drop_of_length_le (by rw [Hl.out]; omega)]
        rfl
      go_wp2
      go_ret
      exact ⟨vret_bool (by rw [HE.out]), HB0.out⟩

end Go.Proofs.Ytfmlgckfcclojaa
namespace Go.Proofs.Ytfmlgckfcclojaa
open Go.RowKit Go.Lib Go.Op

/-- A call, as it was handed in. -/
structure OpIn where
  what : Int
  e : EIn
  n : Int

def OpRow (w : World) (a : Option Addr) (l : List OpIn) : Prop := ∀ j x, l[j]? = some x → ∃ A, a = some A ∧ w.cell? (A.add (j * 7)) = some (.int .i64 x.what) ∧ w.cell? (efld A 7 j 1) = some (.int .i64 x.e.ts) ∧ w.cell? (efld A 7 j 2) = some (.int .i64 x.e.dep) ∧ w.cell? (efld A 7 j 3) = some (.int .i64 x.e.seq) ∧ w.cell? (efld A 7 j 4) = some (.string x.e.nm) ∧ w.cell? (efld A 7 j 5) = some (.slice x.e.a x.e.vs.length x.e.c) ∧ w.cell? (efld A 7 j 6) = some (.int .i64 x.n) ∧
  VRow w x.e.a x.e.vs ∧ x.e.vs.length ≤ maxLen ∧ x.e.nm.size ≤ maxLen

theorem OpRow.below {w w' : World} {a : Option Addr} {l : List OpIn} (h : OpRow w a l) (hb : Below w.heap.size w w') : OpRow w' a l := fun j x hj => by
  obtain ⟨A, e, h0, h1, h2, h3, h4, h5, h6, h7, h8, h9⟩ := h j x hj
  exact ⟨A, e, ekeep hb h0, ekeep hb h1, ekeep hb h2, ekeep hb h3, ekeep hb h4, ekeep hb h5, ekeep hb h6, h7.below hb, h8, h9⟩

/-- What Great answers. -/
def OGreatP (w : World) (n : Nat) (e : Ending) (w' : World) : Prop := ∃ g : Bool, e = .returned (.bool g) ∧ Below w.heap.size w w' ∧ (g = false → n ≤ 600)

section
variable {P : Program} {ops : Array Oper} {Q : Exit → Act → World → Prop} {md : Region.Mode} {S : World → Prop}

/-- An operation that is not wanted is passed over. -/
theorem passH (i d : Nat) {fuel : Nat} {listed : Array Bool} {a : Act} {w : World} (hs : Region.noSelect ops = true) (hf : Region.free md ops listed i = true)
    (hr : (Region.ready md ops listed).contains i = true) (hd : (ops[i]?).map (·.dst) = some (some d)) (hw : ((ops[i]?).map fun o => Region.wanted o (yielded ops a.tmps)) = some false)
    (hQ : ∀ c a w, Q (.panic c) (a.put (some d) undef) w → Q (.panic c) a w) (hS : S w)
    (h : wpAnyH P md ops Q S fuel (listed.setIfInBounds i true) (a.put (some d) undef) w) : wpAnyH P md ops Q S (fuel + 1) listed a w := by
  cases ho : ops[i]? with
  | none => rw [ho] at hd; cases hd
  | some o =>
    rw [ho] at hd hw
    simp only [Option.map_some, Option.some.injEq] at hd hw
    refine wpAnyH_take ho hs hf hr ?_ (Or.inr ⟨hw, rfl⟩) hS ?_
    · rw [hd]; exact hQ
    · rw [hd]; exact h

/-- An operation that is wanted, and yields v. -/
theorem takeH (i d : Nat) {o : Oper} {v : Value} {fuel : Nat} {listed : Array Bool} {a : Act} {w : World} (ho : ops[i]? = some o) (hs : Region.noSelect ops = true) (hf : Region.free md ops listed i = true)
    (hr : (Region.ready md ops listed).contains i = true) (hd : o.dst = some d)
    (hQ : ∀ c a w, Q (.panic c) (a.put (some d) v) w → Q (.panic c) a w) (hw : Region.wanted o (yielded ops a.tmps) = true) (hy : ∀ w, S w → (execOp a.eval o).run P w = .ok (.value v) w) (hS : S w)
    (h : wpAnyH P md ops Q S fuel (listed.setIfInBounds i true) (a.put (some d) v) w) : wpAnyH P md ops Q S (fuel + 1) listed a w :=
  wpAnyH_take ho hs hf hr (by rw [hd]; exact hQ) (Or.inl ⟨hw, hy⟩) hS (by rw [hd]; exact h)
end

set_option maxHeartbeats 4000000 in
set_option maxRecDepth 100000 in
theorem ogreat_calls (w : World) (a : Option Addr) (c : Nat) (l : List OpIn) (hl : OpRow w a l) (hn : l.length ≤ maxLen) :
    Calls Try.prog 39 #[.slice a l.length c] w (OGreatP w l.length) := by
  have HL := Lib.hid hl
  obtain ⟨n, hnn⟩ : ∃ n, l.length = n := ⟨_, rfl⟩
  have Hn := Lib.hid hnn
  rw [hnn] at hn ⊢
  unfold maxLen at hn
  clear hl hnn
  go_enter Try.func39, Try.ntmps39
  go_wp2
  go_loopw [3] (fun i wr => ∃ k : Nat, i = .int .i64 k ∧ k ≤ n ∧ Hid (Below w.heap.size w wr)) (fun i _ => n - (intOf i).toNat)
  case atStart => exact ⟨0, rfl, Nat.zero_le _, Below.refl _ _⟩
  case round =>
    obtain ⟨k, rfl, hk, HB⟩ := hrel
    by_cases hlt : k < n
    · by_cases h7 : k < 700
      · have hd : decide ((k : Int) < 700) = true := by simp; omega
        obtain ⟨x, hx⟩ : ∃ x, l[k]? = some x := ⟨_, List.getElem?_eq_getElem (by rw [Hn.out]; exact hlt)⟩
        obtain ⟨A, rfl, c0, c1, c2, c3, c4, c5, c6, h7, h8, h9⟩ := (HL.out.below HB.out) k x hx
        obtain ⟨wh, ⟨t, d, s, nm, va, vc, vs⟩, xn⟩ := x
        unfold efld at c1 c2 c3 c4 c5 c6
        dsimp only at c0 c1 c2 c3 c4 c5 c6 h7 h8 h9
        obtain ⟨g, hg⟩ : ∃ g, greatEB nm vs = g := ⟨_, rfl⟩
        have HG : Hid (∀ W, (W.cell? ⟨(A.add (k * 7)).block, (A.add (k * 7)).off + 1, none⟩ = some (.int .i64 t) ∧ W.cell? ⟨(A.add (k * 7)).block, (A.add (k * 7)).off + 2, none⟩ = some (.int .i64 d) ∧ W.cell? ⟨(A.add (k * 7)).block, (A.add (k * 7)).off + 3, none⟩ = some (.int .i64 s) ∧ W.cell? ⟨(A.add (k * 7)).block, (A.add (k * 7)).off + 4, none⟩ = some (.string nm) ∧ W.cell? ⟨(A.add (k * 7)).block, (A.add (k * 7)).off + 5, none⟩ = some (.slice va vs.length vc) ∧ Hid (Below wr.heap.size wr W)) → Calls Try.prog 16 #[evV t d s nm (.slice va vs.length vc)] W fun e w' => e = .returned (.bool g) ∧ w'.cell? ⟨(A.add (k * 7)).block, (A.add (k * 7)).off + 1, none⟩ = some (.int .i64 t) ∧ w'.cell? ⟨(A.add (k * 7)).block, (A.add (k * 7)).off + 2, none⟩ = some (.int .i64 d) ∧ w'.cell? ⟨(A.add (k * 7)).block, (A.add (k * 7)).off + 3, none⟩ = some (.int .i64 s) ∧ w'.cell? ⟨(A.add (k * 7)).block, (A.add (k * 7)).off + 4, none⟩ = some (.string nm) ∧ w'.cell? ⟨(A.add (k * 7)).block, (A.add (k * 7)).off + 5, none⟩ = some (.slice va vs.length vc) ∧ Hid (Below wr.heap.size wr w')) := fun W ⟨a1, a2, a3, a4, a5, hB⟩ =>
          (greatEB_calls t d s nm va vc vs W h9 (h7.below hB.out) h8).mono fun e w' ⟨he, hb⟩ => ⟨by rw [he, hg], ekeep hb a1, ekeep hb a2, ekeep hb a3, ekeep hb a4, ekeep hb a5, hB.out.trans (hb.mono hB.out.size)⟩
        clear hg
        obtain ⟨q, hq⟩ : ∃ q, vs.length = q := ⟨_, rfl⟩
        rw [hq] at c5 HG h8
        have hk0 : (0 : Int) ≤ (k : Int) := by omega
        have hk1 : (k : Int) < (n : Int) := by omega
        unfold maxLen at h8 h9
        clear hx h7 hq HL
        go_upto_region 4 with fail
        have d1 : wr.drew.cell? _ = _ := c1
        have d2 : wr.drew.cell? _ = _ := c2
        have d3 : wr.drew.cell? _ = _ := c3
        have d4 : wr.drew.cell? _ = _ := c4
        have d5 : wr.drew.cell? _ = _ := c5
        have d6 : Hid (Below wr.heap.size wr wr.drew) := vbelow_drew (Below.refl _ _)
        clear c0 c1 c2 c3 c4 c5 c6
        cases g with
        | true =>
          refine wp_region_held_drew (S := (fun W => W.cell? ⟨(A.add (k * 7)).block, (A.add (k * 7)).off + 1, none⟩ = some (.int .i64 t) ∧ W.cell? ⟨(A.add (k * 7)).block, (A.add (k * 7)).off + 2, none⟩ = some (.int .i64 d) ∧ W.cell? ⟨(A.add (k * 7)).block, (A.add (k * 7)).off + 3, none⟩ = some (.int .i64 s) ∧ W.cell? ⟨(A.add (k * 7)).block, (A.add (k * 7)).off + 4, none⟩ = some (.string nm) ∧ W.cell? ⟨(A.add (k * 7)).block, (A.add (k * 7)).off + 5, none⟩ = some (.slice va q vc) ∧ Hid (Below wr.heap.size wr W))) (by kernel_rfl) (by refine ⟨?_, ?_, ?_, ?_, ?_, ?_⟩ <;> assumption) (fun hHeld => ?_)
          refine takeH 0 14 (v := ?va0) rfl (by kernel_rfl) (by kernel_rfl) (by kernel_rfl) rfl (fun _ _ _ h => h) (by rfl) ?ya0 (by assumption) ?ra0
          case ya0 => (intro W hSw; (try dsimp only at hSw); go_simp; try with_reducible rfl)
          try simp only [Act.put, List.setIfInBounds_toArray, List.set_cons_zero, List.set_cons_succ]
          refine takeH 1 15 (v := ?va1) rfl (by kernel_rfl) (by kernel_rfl) (by kernel_rfl) rfl (fun _ _ _ h => h) (by rfl) ?ya1 (by assumption) ?ra1
          case ya1 => (intro W hSw; (try dsimp only at hSw); go_simp; try with_reducible rfl)
          try simp only [Act.put, List.setIfInBounds_toArray, List.set_cons_zero, List.set_cons_succ]
          refine takeH 2 16 (v := ?va2) rfl (by kernel_rfl) (by kernel_rfl) (by kernel_rfl) rfl (fun _ _ _ h => h) (by rfl) ?ya2 (by assumption) ?ra2
          case ya2 => (intro W hSw; (try dsimp only at hSw); go_simp; try with_reducible rfl)
          try simp only [Act.put, List.setIfInBounds_toArray, List.set_cons_zero, List.set_cons_succ]
          refine takeH 3 17 (v := ?va3) rfl (by kernel_rfl) (by kernel_rfl) (by kernel_rfl) rfl (fun _ _ _ h => h) (by rfl) ?ya3 (by assumption) ?ra3
          case ya3 => (intro W hSw; (try dsimp only at hSw); go_simp; try with_reducible rfl)
          try simp only [Act.put, List.setIfInBounds_toArray, List.set_cons_zero, List.set_cons_succ]
          refine takeH 4 18 (v := ?va4) rfl (by kernel_rfl) (by kernel_rfl) (by kernel_rfl) rfl (fun _ _ _ h => h) (by rfl) ?ya4 (by assumption) ?ra4
          case ya4 => (intro W hSw; (try dsimp only at hSw); go_simp; try with_reducible rfl)
          try simp only [Act.put, List.setIfInBounds_toArray, List.set_cons_zero, List.set_cons_succ]
          refine wpAnyH_ready (rs := [5]) (by kernel_rfl) (by simp) ?_
          refine AllReadyH.cons (o := _) rfl (fun K hK => ?_) AllReadyH.nil
          dsimp only [List.getElem_toArray, List.getElem_cons_succ, List.getElem_cons_zero]
          go_simp
          go_at_call 16
          (with_reducible refine (HG.out _ ?_).mono ?_)
          · (refine ⟨?_, ?_, ?_, ?_, ?_, ?_⟩ <;> assumption)
          rintro e w2 ⟨rfl, s1, s2, s3, s4, s5, s6⟩
          go_wp2_with fail
          refine hK.out _ _ ⟨s1, s2, s3, s4, s5, s6⟩ (fun hHeld => ?_)
          clear hK K
          try simp only [Act.put, List.setIfInBounds_toArray, List.set_cons_zero, List.set_cons_succ]
          refine takeH 6 20 (v := ?va6) rfl (by kernel_rfl) (by kernel_rfl) (by kernel_rfl) rfl (fun _ _ _ h => h) (by rfl) ?ya6 (by assumption) ?ra6
          case ya6 => (intro W hSw; (try dsimp only at hSw); go_simp; try with_reducible rfl)
          try simp only [Act.put, List.setIfInBounds_toArray, List.set_cons_zero, List.set_cons_succ]
          refine passH 7 21 (by kernel_rfl) (by kernel_rfl) (by kernel_rfl) (by kernel_rfl) (by rfl) (fun _ _ _ h => h) (by assumption) ?_
          try simp only [Act.put, List.setIfInBounds_toArray, List.set_cons_zero, List.set_cons_succ]
          refine passH 8 22 (by kernel_rfl) (by kernel_rfl) (by kernel_rfl) (by kernel_rfl) (by rfl) (fun _ _ _ h => h) (by assumption) ?_
          try simp only [Act.put, List.setIfInBounds_toArray, List.set_cons_zero, List.set_cons_succ]
          refine passH 9 23 (by kernel_rfl) (by kernel_rfl) (by kernel_rfl) (by kernel_rfl) (by rfl) (fun _ _ _ h => h) (by assumption) ?_
          try simp only [Act.put, List.setIfInBounds_toArray, List.set_cons_zero, List.set_cons_succ]
          refine passH 10 24 (by kernel_rfl) (by kernel_rfl) (by kernel_rfl) (by kernel_rfl) (by rfl) (fun _ _ _ h => h) (by assumption) ?_
          try simp only [Act.put, List.setIfInBounds_toArray, List.set_cons_zero, List.set_cons_succ]
          refine passH 11 25 (by kernel_rfl) (by kernel_rfl) (by kernel_rfl) (by kernel_rfl) (by rfl) (fun _ _ _ h => h) (by assumption) ?_
          try simp only [Act.put, List.setIfInBounds_toArray, List.set_cons_zero, List.set_cons_succ]
          refine passH 12 26 (by kernel_rfl) (by kernel_rfl) (by kernel_rfl) (by kernel_rfl) (by rfl) (fun _ _ _ h => h) (by assumption) ?_
          try simp only [Act.put, List.setIfInBounds_toArray, List.set_cons_zero, List.set_cons_succ]
          refine passH 13 27 (by kernel_rfl) (by kernel_rfl) (by kernel_rfl) (by kernel_rfl) (by rfl) (fun _ _ _ h => h) (by assumption) ?_
          try simp only [Act.put, List.setIfInBounds_toArray, List.set_cons_zero, List.set_cons_succ]
          refine passH 14 28 (by kernel_rfl) (by kernel_rfl) (by kernel_rfl) (by kernel_rfl) (by rfl) (fun _ _ _ h => h) (by assumption) ?_
          try simp only [Act.put, List.setIfInBounds_toArray, List.set_cons_zero, List.set_cons_succ]
          refine passH 15 29 (by kernel_rfl) (by kernel_rfl) (by kernel_rfl) (by kernel_rfl) (by rfl) (fun _ _ _ h => h) (by assumption) ?_
          try simp only [Act.put, List.setIfInBounds_toArray, List.set_cons_zero, List.set_cons_succ]
          refine passH 16 30 (by kernel_rfl) (by kernel_rfl) (by kernel_rfl) (by kernel_rfl) (by rfl) (fun _ _ _ h => h) (by assumption) ?_
          try simp only [Act.put, List.setIfInBounds_toArray, List.set_cons_zero, List.set_cons_succ]
          refine passH 17 31 (by kernel_rfl) (by kernel_rfl) (by kernel_rfl) (by kernel_rfl) (by rfl) (fun _ _ _ h => h) (by assumption) ?_
          try simp only [Act.put, List.setIfInBounds_toArray, List.set_cons_zero, List.set_cons_succ]
          refine passH 18 32 (by kernel_rfl) (by kernel_rfl) (by kernel_rfl) (by kernel_rfl) (by rfl) (fun _ _ _ h => h) (by assumption) ?_
          try simp only [Act.put, List.setIfInBounds_toArray, List.set_cons_zero, List.set_cons_succ]
          refine passH 19 33 (by kernel_rfl) (by kernel_rfl) (by kernel_rfl) (by kernel_rfl) (by rfl) (fun _ _ _ h => h) (by assumption) ?_
          try simp only [Act.put, List.setIfInBounds_toArray, List.set_cons_zero, List.set_cons_succ]
          refine passH 20 34 (by kernel_rfl) (by kernel_rfl) (by kernel_rfl) (by kernel_rfl) (by rfl) (fun _ _ _ h => h) (by assumption) ?_
          try simp only [Act.put, List.setIfInBounds_toArray, List.set_cons_zero, List.set_cons_succ]
          refine passH 21 35 (by kernel_rfl) (by kernel_rfl) (by kernel_rfl) (by kernel_rfl) (by rfl) (fun _ _ _ h => h) (by assumption) ?_
          try simp only [Act.put, List.setIfInBounds_toArray, List.set_cons_zero, List.set_cons_succ]
          refine passH 22 36 (by kernel_rfl) (by kernel_rfl) (by kernel_rfl) (by kernel_rfl) (by rfl) (fun _ _ _ h => h) (by assumption) ?_
          try simp only [Act.put, List.setIfInBounds_toArray, List.set_cons_zero, List.set_cons_succ]
          refine takeH 23 37 (v := ?va23) rfl (by kernel_rfl) (by kernel_rfl) (by kernel_rfl) rfl (fun _ _ _ h => h) (by rfl) ?ya23 (by assumption) ?ra23
          case ya23 => (intro W hSw; (try dsimp only at hSw); go_simp; try with_reducible rfl)
          try simp only [Act.put, List.setIfInBounds_toArray, List.set_cons_zero, List.set_cons_succ]
          refine wpAnyH_done (by kernel_rfl) ?_ _
          go_wp2
          go_ret
          exact ⟨true, rfl, HB.out.trans (s6.out.mono HB.out.size), fun h => by cases h⟩
        | false =>
          refine wp_region_held_drew (S := (fun W => W.cell? ⟨(A.add (k * 7)).block, (A.add (k * 7)).off + 1, none⟩ = some (.int .i64 t) ∧ W.cell? ⟨(A.add (k * 7)).block, (A.add (k * 7)).off + 2, none⟩ = some (.int .i64 d) ∧ W.cell? ⟨(A.add (k * 7)).block, (A.add (k * 7)).off + 3, none⟩ = some (.int .i64 s) ∧ W.cell? ⟨(A.add (k * 7)).block, (A.add (k * 7)).off + 4, none⟩ = some (.string nm) ∧ W.cell? ⟨(A.add (k * 7)).block, (A.add (k * 7)).off + 5, none⟩ = some (.slice va q vc) ∧ Hid (Below wr.heap.size wr W))) (by kernel_rfl) (by refine ⟨?_, ?_, ?_, ?_, ?_, ?_⟩ <;> assumption) (fun hHeld => ?_)
          refine takeH 0 14 (v := ?vb0) rfl (by kernel_rfl) (by kernel_rfl) (by kernel_rfl) rfl (fun _ _ _ h => h) (by rfl) ?yb0 (by assumption) ?rb0
          case yb0 => (intro W hSw; (try dsimp only at hSw); go_simp; try with_reducible rfl)
          try simp only [Act.put, List.setIfInBounds_toArray, List.set_cons_zero, List.set_cons_succ]
          refine takeH 1 15 (v := ?vb1) rfl (by kernel_rfl) (by kernel_rfl) (by kernel_rfl) rfl (fun _ _ _ h => h) (by rfl) ?yb1 (by assumption) ?rb1
          case yb1 => (intro W hSw; (try dsimp only at hSw); go_simp; try with_reducible rfl)
          try simp only [Act.put, List.setIfInBounds_toArray, List.set_cons_zero, List.set_cons_succ]
          refine takeH 2 16 (v := ?vb2) rfl (by kernel_rfl) (by kernel_rfl) (by kernel_rfl) rfl (fun _ _ _ h => h) (by rfl) ?yb2 (by assumption) ?rb2
          case yb2 => (intro W hSw; (try dsimp only at hSw); go_simp; try with_reducible rfl)
          try simp only [Act.put, List.setIfInBounds_toArray, List.set_cons_zero, List.set_cons_succ]
          refine takeH 3 17 (v := ?vb3) rfl (by kernel_rfl) (by kernel_rfl) (by kernel_rfl) rfl (fun _ _ _ h => h) (by rfl) ?yb3 (by assumption) ?rb3
          case yb3 => (intro W hSw; (try dsimp only at hSw); go_simp; try with_reducible rfl)
          try simp only [Act.put, List.setIfInBounds_toArray, List.set_cons_zero, List.set_cons_succ]
          refine takeH 4 18 (v := ?vb4) rfl (by kernel_rfl) (by kernel_rfl) (by kernel_rfl) rfl (fun _ _ _ h => h) (by rfl) ?yb4 (by assumption) ?rb4
          case yb4 => (intro W hSw; (try dsimp only at hSw); go_simp; try with_reducible rfl)
          try simp only [Act.put, List.setIfInBounds_toArray, List.set_cons_zero, List.set_cons_succ]
          refine wpAnyH_ready (rs := [5]) (by kernel_rfl) (by simp) ?_
          refine AllReadyH.cons (o := _) rfl (fun K hK => ?_) AllReadyH.nil
          dsimp only [List.getElem_toArray, List.getElem_cons_succ, List.getElem_cons_zero]
          go_simp
          go_at_call 16
          (with_reducible refine (HG.out _ ?_).mono ?_)
          · (refine ⟨?_, ?_, ?_, ?_, ?_, ?_⟩ <;> assumption)
          rintro e w2 ⟨rfl, s1, s2, s3, s4, s5, s6⟩
          go_wp2_with fail
          refine hK.out _ _ ⟨s1, s2, s3, s4, s5, s6⟩ (fun hHeld => ?_)
          clear hK K
          try simp only [Act.put, List.setIfInBounds_toArray, List.set_cons_zero, List.set_cons_succ]
          refine takeH 6 20 (v := ?vb6) rfl (by kernel_rfl) (by kernel_rfl) (by kernel_rfl) rfl (fun _ _ _ h => h) (by rfl) ?yb6 (by assumption) ?rb6
          case yb6 => (intro W hSw; (try dsimp only at hSw); go_simp; try with_reducible rfl)
          try simp only [Act.put, List.setIfInBounds_toArray, List.set_cons_zero, List.set_cons_succ]
          refine takeH 7 21 (v := ?vb7) rfl (by kernel_rfl) (by kernel_rfl) (by kernel_rfl) rfl (fun _ _ _ h => h) (by rfl) ?yb7 (by assumption) ?rb7
          case yb7 => (intro W hSw; (try dsimp only at hSw); go_simp; try with_reducible rfl)
          try simp only [Act.put, List.setIfInBounds_toArray, List.set_cons_zero, List.set_cons_succ]
          refine takeH 8 22 (v := ?vb8) rfl (by kernel_rfl) (by kernel_rfl) (by kernel_rfl) rfl (fun _ _ _ h => h) (by rfl) ?yb8 (by assumption) ?rb8
          case yb8 => (intro W hSw; (try dsimp only at hSw); go_simp; try with_reducible rfl)
          try simp only [Act.put, List.setIfInBounds_toArray, List.set_cons_zero, List.set_cons_succ]
          refine takeH 9 23 (v := ?vb9) rfl (by kernel_rfl) (by kernel_rfl) (by kernel_rfl) rfl (fun _ _ _ h => h) (by rfl) ?yb9 (by assumption) ?rb9
          case yb9 => (intro W hSw; (try dsimp only at hSw); go_simp; try with_reducible rfl)
          try simp only [Act.put, List.setIfInBounds_toArray, List.set_cons_zero, List.set_cons_succ]
          refine takeH 10 24 (v := ?vb10) rfl (by kernel_rfl) (by kernel_rfl) (by kernel_rfl) rfl (fun _ _ _ h => h) (by rfl) ?yb10 (by assumption) ?rb10
          case yb10 => (intro W hSw; (try dsimp only at hSw); go_simp; try with_reducible rfl)
          try simp only [Act.put, List.setIfInBounds_toArray, List.set_cons_zero, List.set_cons_succ]
          refine takeH 11 25 (v := ?vb11) rfl (by kernel_rfl) (by kernel_rfl) (by kernel_rfl) rfl (fun _ _ _ h => h) (by rfl) ?yb11 (by assumption) ?rb11
          case yb11 => (intro W hSw; (try dsimp only at hSw); go_simp; try with_reducible rfl)
          try simp only [Act.put, List.setIfInBounds_toArray, List.set_cons_zero, List.set_cons_succ]
          refine takeH 12 26 (v := ?vb12) rfl (by kernel_rfl) (by kernel_rfl) (by kernel_rfl) rfl (fun _ _ _ h => h) (by rfl) ?yb12 (by assumption) ?rb12
          case yb12 => (intro W hSw; (try dsimp only at hSw); go_simp; try with_reducible rfl)
          try simp only [Act.put, List.setIfInBounds_toArray, List.set_cons_zero, List.set_cons_succ]
          refine takeH 13 27 (v := ?vb13) rfl (by kernel_rfl) (by kernel_rfl) (by kernel_rfl) rfl (fun _ _ _ h => h) (by rfl) ?yb13 (by assumption) ?rb13
          case yb13 => (intro W hSw; (try dsimp only at hSw); go_simp; try with_reducible rfl)
          try simp only [Act.put, List.setIfInBounds_toArray, List.set_cons_zero, List.set_cons_succ]
          refine takeH 14 28 (v := ?vb14) rfl (by kernel_rfl) (by kernel_rfl) (by kernel_rfl) rfl (fun _ _ _ h => h) (by rfl) ?yb14 (by assumption) ?rb14
          case yb14 => (intro W hSw; (try dsimp only at hSw); go_simp; try with_reducible rfl)
          try simp only [Act.put, List.setIfInBounds_toArray, List.set_cons_zero, List.set_cons_succ]
          refine takeH 15 29 (v := ?vb15) rfl (by kernel_rfl) (by kernel_rfl) (by kernel_rfl) rfl (fun _ _ _ h => h) (by rfl) ?yb15 (by assumption) ?rb15
          case yb15 => (intro W hSw; (try dsimp only at hSw); go_simp; try with_reducible rfl)
          try simp only [Act.put, List.setIfInBounds_toArray, List.set_cons_zero, List.set_cons_succ]
          refine takeH 16 30 (v := ?vb16) rfl (by kernel_rfl) (by kernel_rfl) (by kernel_rfl) rfl (fun _ _ _ h => h) (by rfl) ?yb16 (by assumption) ?rb16
          case yb16 => (intro W hSw; (try dsimp only at hSw); go_simp; try with_reducible rfl)
          try simp only [Act.put, List.setIfInBounds_toArray, List.set_cons_zero, List.set_cons_succ]
          refine takeH 17 31 (v := ?vb17) rfl (by kernel_rfl) (by kernel_rfl) (by kernel_rfl) rfl (fun _ _ _ h => h) (by rfl) ?yb17 (by assumption) ?rb17
          case yb17 => (intro W hSw; (try dsimp only at hSw); go_simp; try with_reducible rfl)
          try simp only [Act.put, List.setIfInBounds_toArray, List.set_cons_zero, List.set_cons_succ]
          refine takeH 18 32 (v := ?vb18) rfl (by kernel_rfl) (by kernel_rfl) (by kernel_rfl) rfl (fun _ _ _ h => h) (by rfl) ?yb18 (by assumption) ?rb18
          case yb18 => (intro W hSw; (try dsimp only at hSw); go_simp; try with_reducible rfl)
          try simp only [Act.put, List.setIfInBounds_toArray, List.set_cons_zero, List.set_cons_succ]
          refine takeH 19 33 (v := ?vb19) rfl (by kernel_rfl) (by kernel_rfl) (by kernel_rfl) rfl (fun _ _ _ h => h) (by rfl) ?yb19 (by assumption) ?rb19
          case yb19 => (intro W hSw; (try dsimp only at hSw); go_simp; try with_reducible rfl)
          try simp only [Act.put, List.setIfInBounds_toArray, List.set_cons_zero, List.set_cons_succ]
          refine takeH 20 34 (v := ?vb20) rfl (by kernel_rfl) (by kernel_rfl) (by kernel_rfl) rfl (fun _ _ _ h => h) (by rfl) ?yb20 (by assumption) ?rb20
          case yb20 => (intro W hSw; (try dsimp only at hSw); go_simp; try with_reducible rfl)
          try simp only [Act.put, List.setIfInBounds_toArray, List.set_cons_zero, List.set_cons_succ]
          refine takeH 21 35 (v := ?vb21) rfl (by kernel_rfl) (by kernel_rfl) (by kernel_rfl) rfl (fun _ _ _ h => h) (by rfl) ?yb21 (by assumption) ?rb21
          case yb21 => (intro W hSw; (try dsimp only at hSw); go_simp; try with_reducible rfl)
          try simp only [Act.put, List.setIfInBounds_toArray, List.set_cons_zero, List.set_cons_succ]
          refine takeH 22 36 (v := ?vb22) rfl (by kernel_rfl) (by kernel_rfl) (by kernel_rfl) rfl (fun _ _ _ h => h) (by rfl) ?yb22 (by assumption) ?rb22
          case yb22 => (intro W hSw; (try dsimp only at hSw); go_simp; try with_reducible rfl)
          try simp only [Act.put, List.setIfInBounds_toArray, List.set_cons_zero, List.set_cons_succ]
          refine takeH 23 37 (v := ?vb23) rfl (by kernel_rfl) (by kernel_rfl) (by kernel_rfl) rfl (fun _ _ _ h => h) (by rfl) ?yb23 (by assumption) ?rb23
          case yb23 => (intro W hSw; (try dsimp only at hSw); go_simp; try with_reducible rfl)
          try simp only [Act.put, List.setIfInBounds_toArray, List.set_cons_zero, List.set_cons_succ]
          refine wpAnyH_done (by kernel_rfl) ?_ _
          obtain ⟨b, hb⟩ : ∃ b, decide (400 < IntKind.i64.wrap ((nm.size : Int) + (q : Int))) = b := ⟨_, rfl⟩
          try simp only [hb]
          cases b with
          | true =>
            go_wp2
            go_ret
            exact ⟨true, rfl, HB.out.trans (s6.out.mono HB.out.size), fun h => by cases h⟩
          | false =>
            go_wp2
            go_round
            case rel => exact ⟨k + 1, by go_num, by omega, HB.out.trans (s6.out.mono HB.out.size)⟩
            case measure => simp [intOf]; omega
      · have hd : decide ((k : Int) < 700) = false := by simp; omega
        have hd2 : decide (600 < (n : Int)) = true := by simp; omega
        go_wp2
        go_ret
        exact ⟨true, rfl, HB.out, fun h => by cases h⟩
    · by_cases h6 : 600 < n
      · have hd2 : decide (600 < (n : Int)) = true := by simp; omega
        go_wp2
        go_ret
        exact ⟨true, rfl, HB.out, fun h => by cases h⟩
      · have hd2 : decide (600 < (n : Int)) = false := by simp; omega
        go_wp2
        go_ret
        exact ⟨false, rfl, HB.out, fun _ => by omega⟩

end Go.Proofs.Ytfmlgckfcclojaa
namespace Go.Proofs.Ytfmlgckfcclojaa
open Go.RowKit Go.Lib Go.Op

theorem bytes_ne {a b : ByteArray} (h : a ≠ b) : (a.toList == b.toList) = false := by
  rw [beq_eq_false_iff_ne, vtoL, vtoL]
  intro e
  apply h
  obtain ⟨x⟩ := a
  obtain ⟨y⟩ := b
  congr 1
  exact Array.toList_inj.1 e

set_option maxHeartbeats 2000000 in
set_option maxRecDepth 100000 in
theorem vsame_any (a : Option Addr) (c : Nat) (b : Option Addr) (d : Nat) (us vs : List VIn) (w : World) (ha : VRow w a us) (hb : VRow w b vs) (hl : us.length ≤ maxLen) (hm : vs.length ≤ maxLen) :
    Calls Try.prog 65 #[.slice a us.length c, .slice b vs.length d] w fun e w' => (∃ g, e = .returned (.bool g)) ∧ Below w.heap.size w w' := by
  have HA := Lib.hid ha
  have HB := Lib.hid hb
  obtain ⟨l, hll⟩ : ∃ l, us.length = l := ⟨_, rfl⟩
  obtain ⟨m, hmm⟩ : ∃ m, vs.length = m := ⟨_, rfl⟩
  rw [hll] at hl ⊢
  rw [hmm] at hm ⊢
  have Hl := Lib.hid hll
  have Hm := Lib.hid hmm
  unfold maxLen at hl hm
  clear ha hb hll hmm
  by_cases hlm : l = m
  · subst hlm
    go_enter Try.func65, Try.ntmps65
    go_wp2
    go_loopw [5] (fun i wr => ∃ k : Nat, i = .int .i64 k ∧ k ≤ l ∧ Hid (Below w.heap.size w wr)) (fun i _ => l - (intOf i).toNat)
    case atStart => exact ⟨0, rfl, Nat.zero_le _, Below.refl _ _⟩
    case round =>
      obtain ⟨k, rfl, hk, HBl⟩ := hrel
      by_cases hlt : k < l
      · obtain ⟨x, hx⟩ : ∃ x, us[k]? = some x := ⟨_, List.getElem?_eq_getElem (by rw [Hl.out]; exact hlt)⟩
        obtain ⟨y, hy⟩ : ∃ y, vs[k]? = some y := ⟨_, List.getElem?_eq_getElem (by rw [Hm.out]; exact hlt)⟩
        obtain ⟨A, rfl, c0, c1, c2, _⟩ := (HA.out.below HBl.out) k x hx
        obtain ⟨B, rfl, d0, d1, d2, _⟩ := (HB.out.below HBl.out) k y hy
        obtain ⟨k1, n1, s1⟩ := x
        obtain ⟨k2, n2, s2⟩ := y
        dsimp only at c0 c1 c2 d0 d1 d2
        unfold efld at c1 c2 d1 d2
        have hk0 : (0 : Int) ≤ (k : Int) := by omega
        have hk1 : (k : Int) < (l : Int) := by omega
        clear hx hy
        by_cases hkk : k1 = k2
        · subst hkk
          by_cases hnn : n1 = n2
          · subst hnn
            by_cases hss : s1 = s2
            · subst hss
              go_wp2_with fail
              go_quiet (fail)
              have HB1 : Hid (Below w.heap.size w (wr.drewN nq)) := vbelow_drewN HBl.out _
              go_wp2_with fail
              go_roundw
              case rel => exact ⟨k + 1, by go_num, by omega, HB1⟩
              case measure => simp [intOf]; omega
            · have e1 : (s1.toList == s2.toList) = false := bytes_ne hss
              go_wp2_with fail
              go_quiet (fail)
              have HB1 : Hid (Below w.heap.size w (wr.drewN nq)) := vbelow_drewN HBl.out _
              go_wp2_with fail
              go_ret
              exact ⟨⟨_, rfl⟩, HB1.out⟩
          · have e1 : (n1 == n2) = false := by rw [beq_eq_false_iff_ne]; exact hnn
            go_wp2_with fail
            go_quiet (fail)
            have HB1 : Hid (Below w.heap.size w (wr.drewN nq)) := vbelow_drewN HBl.out _
            go_wp2_with fail
            go_ret
            exact ⟨⟨_, rfl⟩, HB1.out⟩
        · have e1 : (k1 == k2) = false := by rw [beq_eq_false_iff_ne]; exact hkk
          go_wp2_with fail
          go_quiet (fail)
          have HB1 : Hid (Below w.heap.size w (wr.drewN nq)) := vbelow_drewN HBl.out _
          go_wp2_with fail
          go_ret
          exact ⟨⟨_, rfl⟩, HB1.out⟩
      · go_wp2
        go_ret
        exact ⟨⟨_, rfl⟩, HBl.out⟩
  · have hd : ((l : Int) != (m : Int)) = true := by simp; omega
    go_enter Try.func65, Try.ntmps65
    go_wp2
    go_ret
    exact ⟨⟨_, rfl⟩, Below.refl _ _⟩

set_option maxHeartbeats 2000000 in
set_option maxRecDepth 100000 in
theorem sameOne_any (x y : EIn) (w : World) (hx : VRow w x.a x.vs) (hy : VRow w y.a y.vs) (hl : x.vs.length ≤ maxLen) (hm : y.vs.length ≤ maxLen) :
    Calls Try.prog 32 #[x.v, y.v] w fun e w' => (∃ g : Bool, e = .returned (.bool g) ∧ (x.core = y.core → g = true)) ∧ Below w.heap.size w w' := by
  obtain ⟨t, d, s, n, a, c, vs⟩ := x
  obtain ⟨t', d', s', n', a', c', vs'⟩ := y
  by_cases hc : (t, d, s, n, vs) = (t', d', s', n', vs')
  · simp only [Prod.mk.injEq] at hc
    obtain ⟨rfl, rfl, rfl, rfl, rfl⟩ := hc
    exact (sameOne_calls t d s n a c a' c' vs w hx hy hl).mono fun e w' ⟨h1, h2⟩ => ⟨⟨true, h1, fun _ => rfl⟩, h2⟩
  have hB0 : Below w.heap.size w ((w.alloc (.cells #[.int .i64 t, .int .i64 d, .int .i64 s, .string n, .slice a vs.length c] 25)).alloc (.cells #[.int .i64 t', .int .i64 d', .int .i64 s', .string n', .slice a' vs'.length c'] 25)) := ((Below.refl _ _).alloc (Nat.le_refl _) _).alloc (by simp) _
  have HS := Lib.hid (vsame_any a c a' c' vs vs' _ (hx.below hB0) (hy.below hB0) hl hm)
  have HC : Hid (∀ g : Bool, (EIn.core ⟨t, d, s, n, a, c, vs⟩ = EIn.core ⟨t', d', s', n', a', c', vs'⟩ → g = true)) := fun g h => absurd h hc
  show Calls Try.prog 32 #[evV t d s n (.slice a vs.length c), evV t' d' s' n' (.slice a' vs'.length c')] w _
  obtain ⟨l, hll⟩ : ∃ l, vs.length = l := ⟨_, rfl⟩
  obtain ⟨m, hmm⟩ : ∃ m, vs'.length = m := ⟨_, rfl⟩
  rw [hll, hmm] at hB0 HS
  rw [hll, hmm]
  have HB0 := Lib.hid hB0
  clear hx hy hll hmm hB0 hl hm
  obtain ⟨P, hP⟩ : ∃ P : Bool → Prop, ∀ g : Bool, P g ↔ (EIn.core ⟨t, d, s, n, a, c, vs⟩ = EIn.core ⟨t', d', s', n', a', c', vs'⟩ → g = true) := ⟨_, fun _ => Iff.rfl⟩
  have HP : Hid (∀ g, P g) := fun g => (hP g).2 (HC.out g)
  simp only [← hP]
  clear hP HC hc
  by_cases h1 : t = t'
  · subst h1
    by_cases h2 : d = d'
    · subst h2
      by_cases h3 : s = s'
      · subst h3
        by_cases h4 : n = n'
        · subst h4
          go_enter Try.func32, Try.ntmps32
          go_wp2_with (go_at_call 65; refine HS.out.mono ?_; rintro e w1 ⟨⟨g, rfl⟩, hb1⟩)
          go_ret
          exact ⟨⟨g, by simp, HP.out g⟩, HB0.out.trans (hb1.mono HB0.out.size)⟩
        · have e1 : (n.toList == n'.toList) = false := bytes_ne h4
          go_enter Try.func32, Try.ntmps32
          go_wp2
          go_ret
          exact ⟨⟨false, by simp, HP.out _⟩, HB0.out⟩
      · have e1 : (s == s') = false := by rw [beq_eq_false_iff_ne]; exact h3
        go_enter Try.func32, Try.ntmps32
        go_wp2
        go_ret
        exact ⟨⟨false, by simp, HP.out _⟩, HB0.out⟩
    · have e1 : (d == d') = false := by rw [beq_eq_false_iff_ne]; exact h2
      go_enter Try.func32, Try.ntmps32
      go_wp2
      go_ret
      exact ⟨⟨false, by simp, HP.out _⟩, HB0.out⟩
  · have e1 : (t == t') = false := by rw [beq_eq_false_iff_ne]; exact h1
    go_enter Try.func32, Try.ntmps32
    go_wp2
    go_ret
    exact ⟨⟨false, by simp, HP.out _⟩, HB0.out⟩

theorem oless_calls (t d s : Int) (n : ByteArray) (v : Value) (t' d' s' : Int) (n' : ByteArray) (v' : Value) (hv : ∃ a l c, v = .slice a l c) (hv' : ∃ a l c, v' = .slice a l c) (w : World) :
    Calls Try.prog 34 #[evV t d s n v, evV t' d' s' n' v'] w fun e w' => e = .returned (.bool (lessE t d s t' d' s')) ∧ Below w.heap.size w w' := by
  obtain ⟨a1, l1, c1, rfl⟩ := hv
  obtain ⟨a2, l2, c2, rfl⟩ := hv'
  by_cases h1 : t = t'
  · subst h1
    by_cases h2 : d = d'
    · subst h2
      have e : lessE t d s t d s' = decide (s < s') := by unfold lessE; simp
      rw [e]
      clear e
      by_cases h3 : s < s'
      · rw [decide_eq_true h3]
        go_enter Try.func34, Try.ntmps34
        go_wp2
        go_ret
        exact ⟨rfl, by repeat' (first | exact Below.refl _ _ | refine Below.alloc ?_ (by simp <;> omega) _)⟩
      · rw [decide_eq_false h3]
        go_enter Try.func34, Try.ntmps34
        go_wp2
        go_ret
        exact ⟨rfl, by repeat' (first | exact Below.refl _ _ | refine Below.alloc ?_ (by simp <;> omega) _)⟩
    · have e : lessE t d s t d' s' = decide (d < d') := by unfold lessE; simp [h2]
      rw [e]
      have hb : (d != d') = true := by rw [bne_iff_ne]; exact h2
      clear e
      by_cases h3 : d < d'
      · rw [decide_eq_true h3]
        go_enter Try.func34, Try.ntmps34
        go_wp2
        go_ret
        exact ⟨rfl, by repeat' (first | exact Below.refl _ _ | refine Below.alloc ?_ (by simp <;> omega) _)⟩
      · rw [decide_eq_false h3]
        go_enter Try.func34, Try.ntmps34
        go_wp2
        go_ret
        exact ⟨rfl, by repeat' (first | exact Below.refl _ _ | refine Below.alloc ?_ (by simp <;> omega) _)⟩
  · have e : lessE t d s t' d' s' = decide (t < t') := by unfold lessE; simp [h1]
    rw [e]
    have hb : (t != t') = true := by rw [bne_iff_ne]; exact h1
    clear e
    by_cases h3 : t < t'
    · rw [decide_eq_true h3]
      go_enter Try.func34, Try.ntmps34
      go_wp2
      go_ret
      exact ⟨rfl, by repeat' (first | exact Below.refl _ _ | refine Below.alloc ?_ (by simp <;> omega) _)⟩
    · rw [decide_eq_false h3]
      go_enter Try.func34, Try.ntmps34
      go_wp2
      go_ret
      exact ⟨rfl, by repeat' (first | exact Below.refl _ _ | refine Below.alloc ?_ (by simp <;> omega) _)⟩

end Go.Proofs.Ytfmlgckfcclojaa
namespace Go.Proofs.Ytfmlgckfcclojaa
open Go.RowKit Go.Lib Go.Op Go.Deep

/-- A row that nobody writes, appended to one's own. -/
theorem KRow.appendRow {w : World} {own : Nat → Nat} {k : Nat} {v u : Value} {es : List EIn} {N : List Core} (h : KRow w own k v es) (hk : k ≠ 0) (hz : OZ w own) (hu : ERow w own u N) (hN : ∀ c ∈ N, rightC c = true) (hl : es.length + N.length ≤ 100000) (ty : TypeId) :
    ∃ v' w' own' xs, (Builtin.append_ #[66, 66] ty #[v, u]).run Try.prog w = .ok v' w' ∧ KRow w' own' k v' (es ++ xs) ∧ xs.map EIn.core = N ∧ OStep (fun j => j = k) own own' w w' ∧ OZ w' own' := by
  obtain ⟨xs, hE, rfl⟩ := hu
  rw [List.length_map] at hl
  rcases hE.row.2 with ⟨e, h0⟩ | ⟨g, cap, cur, e, hB, hg, hn, hc, hs, ht⟩
  · have hx : xs = [] := List.length_eq_zero_iff.1 h0
    subst hx
    subst e
    obtain ⟨i0, hi, _, _, _⟩ := info_parts infoE
    obtain ⟨va, vc, rfl⟩ := vowns_slice h.row
    have hle : es.length ≤ vc := by
      rcases h.row.2 with ⟨e1, e2⟩ | ⟨g, cap, cur, e1, _, _, e2, _⟩
      · omega
      · injection e1 with _ _ e3
        omega
    exact ⟨_, w, own, [], run_append_nothing w 66 66 ty 25 i0 Try.underlying66 hi va es.length vc hle _ (Src.ofNil w Try.underlying66 0), by rw [List.append_nil]; exact h, rfl, OStep.refl _ _ _, hz⟩
  · subst e
    have hsrc : ∀ j u, (flat xs)[j]? = some u → w.cell? ((⟨g, 0, none⟩ : Addr).add j) = some u := fun j u hj => by
      have hjl : j < (flat xs).length := (List.getElem?_eq_some_iff.1 hj).1
      rw [flat_len] at hjl
      have e : (⟨g, 0, none⟩ : Addr).add j = ⟨g, j, none⟩ := by unfold Addr.add; split <;> simp_all
      rw [e, cell_of_row w g j cur 25 (0, 0) hg, ← hj, ← ht, List.getElem?_take, if_pos hjl, Array.getElem?_toList]
    obtain ⟨v', w', own', h1, h2, h3, h4⟩ := h.append hk hz xs hl (fun x hx => by
      obtain ⟨e1, e2⟩ := hE.vals x hx
      have hr := rightE_iff.1 (hN x.core (List.mem_map_of_mem hx))
      refine ⟨e1, fun A hA _ => e2 A hA, ?_, ?_⟩
      · have h5 : x.vs.length ≤ 8 := by simpa [pe, EIn.core] using hr.2.2.2.2.1
        unfold maxLen
        omega
      · have h6 := (wordB_len hr.2.2.2.1).2
        have h7 : x.nm.size ≤ 16 := by simpa [pe, EIn.core] using h6
        unfold maxLen
        omega) ⟨g, 0, none⟩ cap hsrc ty
    exact ⟨v', w', own', xs, h1, h2, rfl, h3, h4⟩

theorem adv_split {T : Int} {M : List Core} {time : Int} : advEC T M time ++ advWC T M time = M := by
  unfold advEC advWC
  split
  · exact List.prefix_iff_eq_append.1 (List.takeWhile_prefix _)
  · rfl

/-- What is held while calls come: what went, what came in. -/
structure OneS (w wr : World) (own : Nat → Nat) (bb : Nat) (T : Int) (M : List Core) (ov : Value) (os : List EIn) (iv : Value) (is : List EIn) : Prop where
  a : OBk wr own 1 bb T M
  o : OWd w wr own
  r : KRow wr own 2 ov os
  q : KRow wr own 3 iv is
  s : (os.map EIn.core ++ M).Pairwise (fun a b => lessC a b = true)
  p : (os.map EIn.core ++ M).Perm (is.map EIn.core)
  t : ∀ c ∈ os.map EIn.core, c.1 ≤ T
  u : T ≤ 1099511627776
theorem OneS.below {w wr w' : World} {own : Nat → Nat} {bb : Nat} {T : Int} {M : List Core} {ov iv : Value} {os is : List EIn} (h : OneS w wr own bb T M ov os iv is) (hb : Below wr.heap.size wr w') : OneS w w' own bb T M ov os iv is :=
  ⟨h.a.below hb, h.o.below hb, h.r.below hb, h.q.below hb, h.s, h.p, h.t, h.u⟩
theorem OneS.len {w wr : World} {own : Nat → Nat} {bb : Nat} {T : Int} {M : List Core} {ov iv : Value} {os is : List EIn} (h : OneS w wr own bb T M ov os iv is) : os.length + M.length = is.length := by
  have := h.p.length_eq
  simpa using this

/-- A put that is taken. -/
theorem one_put {T : Int} {M : List Core} {O I : List Core} {c : Core} (hc : putCC T M c = 0) (hM : (putWC T M c).Pairwise (fun a b => lessC a b = true)) (hs : (O ++ M).Pairwise (fun a b => lessC a b = true)) (hp : (O ++ M).Perm I) (ht : ∀ x ∈ O, x.1 ≤ T) :
    (O ++ putWC T M c).Pairwise (fun a b => lessC a b = true) ∧ (O ++ putWC T M c).Perm (I ++ [c]) := by
  have hpm := putWC_perm hc
  obtain ⟨hO, hMM, hX⟩ := List.pairwise_append.1 hs
  have hcT := (putCC_is hc).2
  refine ⟨List.pairwise_append.2 ⟨hO, hM, fun a ha b hb => ?_⟩, ?_⟩
  · rcases List.mem_cons.1 (hpm.mem_iff.1 hb) with rfl | hb
    · have := ht a ha
      simp only [lessC, lessE, decide_eq_true_eq]
      omega
    · exact hX a ha b hb
  · refine (List.Perm.append_left O hpm).trans ?_
    refine List.perm_middle.trans ?_
    refine (hp.cons c).trans ?_
    exact (List.perm_append_singleton c I).symm

theorem takeW_mem {α : Type} {p : α → Bool} {x : α} : ∀ {l : List α}, x ∈ l.takeWhile p → p x = true
  | [], h => by cases h
  | y :: l, h => by
    rw [List.takeWhile_cons] at h
    split at h
    · rename_i hp
      rcases List.mem_cons.1 h with rfl | h
      · exact hp
      · exact takeW_mem h
    · cases h

/-- An advance that is carried out: T is its time. -/
theorem one_adv {T : Int} {M : List Core} {O : List Core} {time : Int} (ht : ∀ x ∈ O, x.1 ≤ T) (hu : T ≤ 1099511627776) : (∀ x ∈ O ++ advEC T M time, x.1 ≤ advT T time) ∧ advT T time ≤ 1099511627776 := by
  unfold advEC advT
  by_cases h : advC T time = 0
  · rw [if_pos h, if_pos h]
    have h2 : T ≤ time ∧ time ≤ 1099511627776 := by
      unfold advC at h
      split at h
      · omega
      · split at h <;> omega
    refine ⟨fun x hx => ?_, h2.2⟩
    rcases List.mem_append.1 hx with hx | hx
    · have := ht x hx
      have := h2.1
      omega
    · unfold dueC at hx
      have := takeW_mem hx
      simpa using this
  · rw [if_neg h, if_neg h, List.append_nil]
    exact ⟨ht, hu⟩

theorem takeW_all {α : Type} {p : α → Bool} : ∀ {l : List α}, (∀ x ∈ l, p x = true) → l.takeWhile p = l
  | [], _ => rfl
  | x :: l, h => by rw [List.takeWhile_cons, if_pos (h x (by simp)), takeW_all fun y hy => h y (by simp [hy])]

/-- The last advance takes all. -/
theorem one_last {T : Int} {M : List Core} (hr : ∀ c ∈ M, rightC c = true) (hu : T ≤ 1099511627776) : advC T 1099511627776 = 0 ∧ advEC T M 1099511627776 = M ∧ advWC T M 1099511627776 = [] := by
  have h0 : advC T 1099511627776 = 0 := by
    unfold advC
    rw [if_neg (by omega), if_neg (by omega)]
  have hd : dueC M 1099511627776 = M := by
    refine takeW_all fun c hc => ?_
    have := (rightC_ts (hr c hc)).2
    simpa using this
  refine ⟨h0, ?_, ?_⟩
  · unfold advEC
    rw [if_pos h0, hd]
  · unfold advWC
    rw [if_pos h0, hd, List.drop_length]

end Go.Proofs.Ytfmlgckfcclojaa
namespace Go.Proofs.Ytfmlgckfcclojaa
open Go.RowKit Go.Lib Go.Op

/-- An event whose values nobody writes. -/
def Fit (w : World) (own : Nat → Nat) (x : EIn) : Prop := VRow w x.a x.vs ∧ (∀ A, x.a = some A → x.vs ≠ [] → A.block < w.heap.size ∧ own A.block = 0) ∧ x.vs.length ≤ maxLen ∧ x.nm.size ≤ maxLen

/-- One event more, appended to one's own row. -/
theorem KRow.append1 {w : World} {own : Nat → Nat} {k : Nat} {a : Option Addr} {c : Nat} {es : List EIn} (h : KRow w own k (.slice a es.length c) es) (hk : k ≠ 0) (hz : OZ w own) (x : EIn) (hx : Fit w own x) (hl : es.length ≤ 90000) :
    ∃ a9 l9 c9 w9 own9, (Builtin.append_ #[66, 66] 66 #[.slice a es.length c, .slice (some ⟨w.heap.size, 0, none⟩) 1 1]).run Try.prog (w.alloc (.cells #[.int .i64 x.ts, .int .i64 x.dep, .int .i64 x.seq, .string x.nm, .slice x.a x.vs.length x.c] 25)) = .ok (.slice a9 l9 c9) w9 ∧ KRow w9 own9 k (.slice a9 l9 c9) (es ++ [x]) ∧ OStep (fun j => j = k) own own9 w w9 ∧ OZ w9 own9 ∧ l9 = (es ++ [x]).length := by
  have hba := (Below.refl w.heap.size w).alloc (Nat.le_refl _) (.cells #[.int .i64 x.ts, .int .i64 x.dep, .int .i64 x.seq, .string x.nm, .slice x.a x.vs.length x.c] 25)
  obtain ⟨v9, w9, own9, hr9, h9, hs9, hz9⟩ := (h.below hba).append hk (hz.step hba.size) [x] (by simp; omega) (fun y hy => by
    rw [List.mem_singleton] at hy
    subst hy
    exact ⟨hx.1.below hba, fun A hA hn => ⟨Nat.lt_of_lt_of_le (hx.2.1 A hA hn).1 hba.size, (hx.2.1 A hA hn).2⟩, hx.2.2⟩) ⟨w.heap.size, 0, none⟩ 1 (fun j u hj => by
      have hnew := heap_alloc_new w (.cells #[.int .i64 x.ts, .int .i64 x.dep, .int .i64 x.seq, .string x.nm, .slice x.a x.vs.length x.c] 25)
      refine one_src hnew j u ?_
      have : flat [x] = x.cells := by simp [flat]
      rw [this] at hj
      exact hj) 66
  obtain ⟨a9, c9, e6, _⟩ := h9.slice
  subst e6
  exact ⟨a9, _, c9, w9, own9, hr9, h9, (OStep.of_below hba).trans hs9, hz9, rfl⟩

/-- What is held while Insert goes. -/
structure InsS (w wr : World) (own own2 : Nat → Nat) (va : Option Addr) (vc : Nat) (es : List EIn) (oa : Option Addr) (oc : Nat) (os : List EIn) : Prop where
  b : Below w.heap.size w wr
  e : ∀ i, i < w.heap.size → own2 i = own i
  z : OZ wr own2
  l : KRow wr own2 4 (.slice va es.length vc) es
  r : KRow wr own2 5 (.slice oa os.length oc) os
theorem InsS.below {w wr w' : World} {own own2 : Nat → Nat} {va : Option Addr} {vc : Nat} {es : List EIn} {oa : Option Addr} {oc : Nat} {os : List EIn} (h : InsS w wr own own2 va vc es oa oc os) (hb : Below wr.heap.size wr w') : InsS w w' own own2 va vc es oa oc os :=
  ⟨h.b.trans (hb.mono h.b.size), h.e, h.z.step hb.size, h.l.below hb, h.r.below hb⟩
theorem InsS.base {w0 w wr : World} {own own2 : Nat → Nat} {va : Option Addr} {vc : Nat} {es : List EIn} {oa : Option Addr} {oc : Nat} {os : List EIn} (h : InsS w wr own own2 va vc es oa oc os) (hb : Below w0.heap.size w0 w) : InsS w0 wr own own2 va vc es oa oc os :=
  ⟨hb.trans (h.b.mono hb.size), fun i hi => h.e i (Nat.lt_of_lt_of_le hi hb.size), h.z, h.l, h.r⟩
theorem InsS.push {w wr : World} {own own2 : Nat → Nat} {va : Option Addr} {vc : Nat} {es : List EIn} {oa : Option Addr} {oc : Nat} {os : List EIn} (h : InsS w wr own own2 va vc es oa oc os) (h5 : ∀ i, i < w.heap.size → own i ≠ 5) (x : EIn) (hx : Fit w own x) (hl : os.length ≤ 90000) :
    ∃ a9 l9 c9 w9, (Builtin.append_ #[66, 66] 66 #[.slice oa os.length oc, .slice (some ⟨wr.heap.size, 0, none⟩) 1 1]).run Try.prog (wr.alloc (.cells #[.int .i64 x.ts, .int .i64 x.dep, .int .i64 x.seq, .string x.nm, .slice x.a x.vs.length x.c] 25)) = .ok (.slice a9 l9 c9) w9 ∧ Hid (∃ own9, InsS w w9 own own9 va vc es a9 c9 (os ++ [x])) ∧ Hid (l9 = (os ++ [x]).length) := by
  obtain ⟨a9, l9, c9, w9, own9, e1, e2, e3, e4, e5⟩ := h.r.append1 (by decide) h.z x ⟨hx.1.below h.b, fun A hA hn => ⟨Nat.lt_of_lt_of_le (hx.2.1 A hA hn).1 h.b.size, (h.e _ (hx.2.1 A hA hn).1).trans (hx.2.1 A hA hn).2⟩, hx.2.2⟩ hl
  refine ⟨a9, l9, c9, w9, e1, ⟨own9, ⟨h.b.trans ⟨e3.fr.os, e3.fr.tape, e3.fr.output, Nat.le_trans h.b.size e3.fr.size |> fun _ => e3.fr.size, fun i hi => e3.fr.block i (Nat.lt_of_lt_of_le hi h.b.size) (by rw [h.e i hi]; exact h5 i hi)⟩, fun i hi => (e3.own i (Nat.lt_of_lt_of_le hi h.b.size)).trans (h.e i hi), e4, h.l.step e3 (by decide) (by decide), by rw [← e5]; exact e2⟩⟩, e5⟩

def RInsP (w0 : World) (own : Nat → Nat) (va : Option Addr) (vc : Nat) (es : List EIn) (y : EIn) (e : Ending) (w' : World) : Prop :=
  ∃ own9 oa oc os, e = .returned (.slice oa os.length oc) ∧ InsS w0 w' own own9 va vc es oa oc os ∧ os = insR lessX es y

set_option maxHeartbeats 4000000 in
set_option maxRecDepth 100000 in
theorem rinsert_calls {w0 : World} {own : Nat → Nat} {va : Option Addr} {vc : Nat} {es : List EIn} (h : KRow w0 own 4 (.slice va es.length vc) es) (hz : OZ w0 own) (h5 : ∀ i, i < w0.heap.size → own i ≠ 5) (y : EIn) (hy : Fit w0 own y) (hl : es.length ≤ 1000) :
    Calls Try.prog 75 #[.slice va es.length vc, y.v] w0 (RInsP w0 own va vc es y) := by
  obtain ⟨yt, yd, yq, yn, ya, yc, yv⟩ := y
  have hB0 : Below w0.heap.size w0 (w0.alloc (.cells #[.int .i64 yt, .int .i64 yd, .int .i64 yq, .string yn, .slice ya yv.length yc] 25)) := (Below.refl _ _).alloc (Nat.le_refl _) _
  have HY0 : Hid ((w0.alloc (.cells #[.int .i64 yt, .int .i64 yd, .int .i64 yq, .string yn, .slice ya yv.length yc] 25)).heap[w0.heap.size]? = some (.cells #[.int .i64 yt, .int .i64 yd, .int .i64 yq, .string yn, .slice ya yv.length yc] 25 (0, 0))) := heap_alloc_new w0 _
  obtain ⟨yl, hyl⟩ : ∃ yl, yv.length = yl := ⟨_, rfl⟩
  obtain ⟨w1, hw1⟩ : ∃ w1, w0.alloc (.cells #[.int .i64 yt, .int .i64 yd, .int .i64 yq, .string yn, .slice ya yl yc] 25) = w1 := ⟨_, rfl⟩
  rw [hyl, hw1] at hB0 HY0
  have hz1 : OZ w1 own := hz.step hB0.size
  have h51 : ∀ i, i < w1.heap.size → own i ≠ 5 := fun i hi => by
    by_cases e : i < w0.heap.size
    · exact h5 i e
    · rw [hz i (by omega)]; decide
  have HX : Hid (∀ W own2 oa oc os, InsS w1 W own own2 va vc es oa oc os → os.length ≤ 2000 → ∀ x, x ∈ es ∨ x = ⟨yt, yd, yq, yn, ya, yc, yv⟩ → ∃ a9 l9 c9 w9, (Builtin.append_ #[66, 66] 66 #[.slice oa os.length oc, .slice (some ⟨W.heap.size, 0, none⟩) 1 1]).run Try.prog (W.alloc (.cells #[.int .i64 x.ts, .int .i64 x.dep, .int .i64 x.seq, .string x.nm, .slice x.a x.vs.length x.c] 25)) = .ok (.slice a9 l9 c9) w9 ∧ Hid (∃ own9, InsS w1 w9 own own9 va vc es a9 c9 (os ++ [x])) ∧ Hid (l9 = (os ++ [x]).length)) := fun W own2 oa oc os hI hle x hx =>
    hI.push h51 x (hx.elim (fun hx => (h.below hB0).vals x hx) (fun e => by subst e; exact ⟨hy.1.below hB0, fun A hA hn => ⟨Nat.lt_of_lt_of_le (hy.2.1 A hA hn).1 hB0.size, (hy.2.1 A hA hn).2⟩, hy.2.2⟩)) (by omega)
  have HXY : Hid (∀ W own2 oa oc os, InsS w1 W own own2 va vc es oa oc os → os.length ≤ 2000 → _) := fun W own2 oa oc os hI hle => HX.out W own2 oa oc os hI hle _ (.inr rfl)
  have HI0 : Hid (InsS w1 w1 own own va vc es none 0 []) := ⟨Below.refl _ _, fun _ _ => rfl, hz1, h.below hB0, KRow.nil _ _ _⟩
  have HYB : Hid (∀ W, Below w1.heap.size w1 W → W.heap[w0.heap.size]? = some (.cells #[.int .i64 yt, .int .i64 yd, .int .i64 yq, .string yn, .slice ya yl yc] 25 (0, 0))) := fun W hW => (hW.block _ (Array.getElem?_eq_some_iff.1 HY0.out).1).trans HY0.out
  have HZC : Hid (∀ W own2 oa oc os, InsS w1 W own own2 va vc es oa oc os → EvRow W va es) := fun W own2 oa oc os hI => by
    obtain ⟨a', c', e1, h1⟩ := hI.l.slice
    injection e1 with e1 _ _
    subst e1
    exact h1
  have HEND : Hid (∀ W own2 oa oc os, InsS w1 W own own2 va vc es oa oc os → os = insR lessX es ⟨yt, yd, yq, yn, ya, yc, yv⟩ → RInsP w0 own va vc es ⟨yt, yd, yq, yn, ya, yc, yv⟩ (.returned (.slice oa os.length oc)) W) := fun W own2 oa oc os hI he => ⟨own2, oa, oc, os, rfl, hI.base hB0, he⟩
  show Calls Try.prog 75 #[.slice va es.length vc, evV yt yd yq yn (.slice ya yv.length yc)] w0 _
  dsimp only at HXY
  obtain ⟨n, hnn⟩ : ∃ n, es.length = n := ⟨_, rfl⟩
  have Hn := Lib.hid hnn
  rw [hyl] at HXY
  rw [hyl, hnn]
  rw [hnn] at hl
  clear hy h hz h5 hB0 hyl hnn HY0 hz1 h51
  go_enter Try.func75, Try.ntmps75
  go_wp2_with fail
  try rw [hw1]
  obtain ⟨yb, hyb⟩ : ∃ yb, w0.heap.size = yb := ⟨_, rfl⟩
  rw [hyb] at HYB ⊢
  clear hw1 hyb
  go_loopw [5, 6, 7] (fun o f i wr => ∃ (k : Nat) (b : Bool) (own2 : Nat → Nat) (oa : Option Addr) (oc : Nat) (os : List EIn), o = .slice oa os.length oc ∧ f = .bool b ∧ i = .int .i64 k ∧ k ≤ n ∧ Hid (InsS w1 wr own own2 va vc es oa oc os) ∧ Hid (os ++ (if b then es.drop k else insR lessX (es.drop k) ⟨yt, yd, yq, yn, ya, yc, yv⟩) = insR lessX es ⟨yt, yd, yq, yn, ya, yc, yv⟩) ∧ os.length ≤ k + (if b then 1 else 0)) (fun _ _ i _ => n - (intOf i).toNat)
  case atStart => exact ⟨0, false, own, none, 0, [], rfl, rfl, rfl, Nat.zero_le _, HI0, rfl, Nat.le_refl _⟩
  case round =>
    obtain ⟨k, b, own2, oa, oc, os, rfl, rfl, rfl, hk, HI, HE, hlen⟩ := hrel
    by_cases hlt : k < n
    · obtain ⟨z, hzk⟩ : ∃ z, es[k]? = some z := ⟨_, List.getElem?_eq_getElem (by rw [Hn.out]; exact hlt)⟩
      have hdr : es.drop k = z :: es.drop (k + 1) := by
        rw [List.drop_eq_getElem_cons (by rw [Hn.out]; exact hlt)]
        congr 1
        rw [List.getElem?_eq_getElem (by rw [Hn.out]; exact hlt)] at hzk
        injection hzk
      rw [hdr] at HE
      have HXZ : Hid (∀ W own2 oa oc os, InsS w1 W own own2 va vc es oa oc os → os.length ≤ 2000 → _) := fun W own2 oa oc os hI hle => HX.out W own2 oa oc os hI hle z (.inl (List.mem_of_getElem? hzk))
      have HZZ : Hid (∀ W own2 oa oc os, InsS w1 W own own2 va vc es oa oc os → ∃ A, va = some A ∧ W.cell? (A.add (k * 5)) = some (.int .i64 z.ts) ∧ W.cell? (efld A 5 k 1) = some (.int .i64 z.dep) ∧ W.cell? (efld A 5 k 2) = some (.int .i64 z.seq) ∧ W.cell? (efld A 5 k 3) = some (.string z.nm) ∧ W.cell? (efld A 5 k 4) = some (.slice z.a z.vs.length z.c)) := fun W own2 oa oc os hI => (HZC.out W own2 oa oc os hI).1 k z hzk
      obtain ⟨A, rfl, z0, z1, z2, z3, z4⟩ := HZZ.out wr own2 oa oc os HI.out
      obtain ⟨zt, zd, zq, zn, za, zc, zv⟩ := z
      dsimp only at HXZ HZZ z0 z1 z2 z3 z4
      have HE1 := HE.out
      obtain ⟨zl, hzl⟩ : ∃ zl, zv.length = zl := ⟨_, rfl⟩
      rw [hzl] at HXZ z4
      have HZZ : Hid (∀ W own2 oa oc os, InsS w1 W own own2 (some A) vc es oa oc os → W.cell? (A.add (k * 5)) = some (.int .i64 zt) ∧ W.cell? (efld A 5 k 1) = some (.int .i64 zd) ∧ W.cell? (efld A 5 k 2) = some (.int .i64 zq) ∧ W.cell? (efld A 5 k 3) = some (.string zn) ∧ W.cell? (efld A 5 k 4) = some (.slice za zl zc)) := fun W own2 oa oc os hI => by
        obtain ⟨A', e1, h1⟩ := HZZ.out W own2 oa oc os hI
        injection e1 with e1
        subst e1
        rw [← hzl]
        exact h1
      unfold efld at z1 z2 z3 z4
      have hk0 : (0 : Int) ≤ (k : Int) := by omega
      have hk1 : (k : Int) < (n : Int) := by omega
      clear hzk hdr hzl HE
      cases b with
      | true =>
        have HE : Hid (os ++ [(⟨zt, zd, zq, zn, za, zc, zv⟩ : EIn)] ++ es.drop (k + 1) = insR lessX es ⟨yt, yd, yq, yn, ya, yc, yv⟩) := by
          show _ = _
          rw [← HE1, List.append_assoc]
          rfl
        clear HE1
        go_upto_region 6 with fail
        refine wp_region_held_drew (S := (fun W => Hid (Below wr.heap.size wr W))) (by kernel_rfl) (vbelow_drew (Below.refl _ _)) (fun hHeld => ?_)
        refine takeH 0 14 (v := ?va0) rfl (by kernel_rfl) (by kernel_rfl) (by kernel_rfl) rfl (fun _ _ _ h => h) (by rfl) ?ya0 (by assumption) ?ra0
        case ya0 => (intro W hSw; (try dsimp only at hSw); go_simp; try with_reducible rfl)
        try simp only [Act.put, List.setIfInBounds_toArray, List.set_cons_zero, List.set_cons_succ]
        refine takeH 1 15 (v := ?va1) rfl (by kernel_rfl) (by kernel_rfl) (by kernel_rfl) rfl (fun _ _ _ h => h) (by rfl) ?ya1 (by assumption) ?ra1
        case ya1 => (intro W hSw; (try dsimp only at hSw); go_simp; try with_reducible rfl)
        try simp only [Act.put, List.setIfInBounds_toArray, List.set_cons_zero, List.set_cons_succ]
        refine takeH 2 16 (v := ?va2) rfl (by kernel_rfl) (by kernel_rfl) (by kernel_rfl) rfl (fun _ _ _ h => h) (by rfl) ?ya2 (by assumption) ?ra2
        case ya2 => (intro W hSw; (try dsimp only at hSw); go_simp; try with_reducible rfl)
        try simp only [Act.put, List.setIfInBounds_toArray, List.set_cons_zero, List.set_cons_succ]
        refine passH 3 17 (by kernel_rfl) (by kernel_rfl) (by kernel_rfl) (by kernel_rfl) (by rfl) (fun _ _ _ h => h) (by assumption) ?_
        try simp only [Act.put, List.setIfInBounds_toArray, List.set_cons_zero, List.set_cons_succ]
        refine passH 4 18 (by kernel_rfl) (by kernel_rfl) (by kernel_rfl) (by kernel_rfl) (by rfl) (fun _ _ _ h => h) (by assumption) ?_
        try simp only [Act.put, List.setIfInBounds_toArray, List.set_cons_zero, List.set_cons_succ]
        refine passH 5 19 (by kernel_rfl) (by kernel_rfl) (by kernel_rfl) (by kernel_rfl) (by rfl) (fun _ _ _ h => h) (by assumption) ?_
        try simp only [Act.put, List.setIfInBounds_toArray, List.set_cons_zero, List.set_cons_succ]
        refine passH 6 20 (by kernel_rfl) (by kernel_rfl) (by kernel_rfl) (by kernel_rfl) (by rfl) (fun _ _ _ h => h) (by assumption) ?_
        try simp only [Act.put, List.setIfInBounds_toArray, List.set_cons_zero, List.set_cons_succ]
        refine passH 7 21 (by kernel_rfl) (by kernel_rfl) (by kernel_rfl) (by kernel_rfl) (by rfl) (fun _ _ _ h => h) (by assumption) ?_
        try simp only [Act.put, List.setIfInBounds_toArray, List.set_cons_zero, List.set_cons_succ]
        refine passH 8 22 (by kernel_rfl) (by kernel_rfl) (by kernel_rfl) (by kernel_rfl) (by rfl) (fun _ _ _ h => h) (by assumption) ?_
        try simp only [Act.put, List.setIfInBounds_toArray, List.set_cons_zero, List.set_cons_succ]
        refine takeH 9 23 (v := ?va9) rfl (by kernel_rfl) (by kernel_rfl) (by kernel_rfl) rfl (fun _ _ _ h => h) (by rfl) ?ya9 (by assumption) ?ra9
        case ya9 => (intro W hSw; (try dsimp only at hSw); go_simp; try with_reducible rfl)
        try simp only [Act.put, List.setIfInBounds_toArray, List.set_cons_zero, List.set_cons_succ]
        refine wpAnyH_done (by kernel_rfl) ?_ _
        have HI2 := Lib.hid (HI.out.below hHeld.out)
        obtain ⟨z0, z1, z2, z3, z4⟩ := HZZ.out _ _ _ _ _ HI2.out
        unfold efld at z1 z2 z3 z4
        obtain ⟨a9, l9, c9, w9, hr9, HI9, HL9⟩ := HXZ.out _ _ _ _ _ HI2.out (by simp at hlen; omega)
        go_wp2_with (at_builtin; refine Lib.wpList_append_run _ rfl _ _ _ _ rfl _ _ rfl rfl _ _ hr9 ?_; clear hr9)
        obtain ⟨own9, hI9⟩ := HI9.out
        go_roundw
        case rel => exact ⟨k + 1, true, own9, a9, c9, os ++ [(⟨zt, zd, zq, zn, za, zc, zv⟩ : EIn)], by rw [HL9.out], rfl, by go_num, by omega, hI9, HE, by simp at hlen ⊢; omega⟩
        case measure => simp [intOf]; omega
      | false =>
        obtain ⟨g, hg⟩ : ∃ g, lessX ⟨yt, yd, yq, yn, ya, yc, yv⟩ ⟨zt, zd, zq, zn, za, zc, zv⟩ = g := ⟨_, rfl⟩
        have HS : Hid (∀ W, Calls Try.prog 34 #[evV yt yd yq yn (.slice ya yl yc), evV zt zd zq zn (.slice za zl zc)] W fun e w' => e = .returned (.bool g) ∧ Below W.heap.size W w') := fun W => by
          have h := oless_calls yt yd yq yn (.slice ya yl yc) zt zd zq zn (.slice za zl zc) ⟨_, _, _, rfl⟩ ⟨_, _, _, rfl⟩ W
          have e : lessE yt yd yq zt zd zq = g := hg
          rw [e] at h
          exact h
        have hb := HYB.out wr HI.out.b
        have y0 : wr.cell? ⟨yb, 0, none⟩ = some (.int .i64 yt) := fcell_of_blk hb rfl
        have y1 : wr.cell? ⟨yb, 1, none⟩ = some (.int .i64 yd) := fcell_of_blk hb rfl
        have y2 : wr.cell? ⟨yb, 2, none⟩ = some (.int .i64 yq) := fcell_of_blk hb rfl
        have y3 : wr.cell? ⟨yb, 3, none⟩ = some (.string yn) := fcell_of_blk hb rfl
        have y4 : wr.cell? ⟨yb, 4, none⟩ = some (.slice ya yl yc) := fcell_of_blk hb rfl
        clear hb
        cases g with
        | true =>
          have HE : Hid (os ++ [(⟨yt, yd, yq, yn, ya, yc, yv⟩ : EIn)] ++ [(⟨zt, zd, zq, zn, za, zc, zv⟩ : EIn)] ++ es.drop (k + 1) = insR lessX es ⟨yt, yd, yq, yn, ya, yc, yv⟩) := by
            show _ = _
            rw [← HE1, if_neg (by decide), insR, if_pos hg, List.append_assoc, List.append_assoc]
            rfl
          clear HE1 hg
          go_upto_region 6 with fail
          refine wp_region_held_drew (S := (fun W => W.cell? ⟨yb, 0, none⟩ = some (.int .i64 yt) ∧ W.cell? ⟨yb, 1, none⟩ = some (.int .i64 yd) ∧ W.cell? ⟨yb, 2, none⟩ = some (.int .i64 yq) ∧ W.cell? ⟨yb, 3, none⟩ = some (.string yn) ∧ W.cell? ⟨yb, 4, none⟩ = some (.slice ya yl yc) ∧ W.cell? (A.add (k * 5)) = some (.int .i64 zt) ∧ W.cell? ⟨(A.add (k * 5)).block, (A.add (k * 5)).off + 1, none⟩ = some (.int .i64 zd) ∧ W.cell? ⟨(A.add (k * 5)).block, (A.add (k * 5)).off + 2, none⟩ = some (.int .i64 zq) ∧ W.cell? ⟨(A.add (k * 5)).block, (A.add (k * 5)).off + 3, none⟩ = some (.string zn) ∧ W.cell? ⟨(A.add (k * 5)).block, (A.add (k * 5)).off + 4, none⟩ = some (.slice za zl zc) ∧ Hid (Below wr.heap.size wr W))) (by kernel_rfl) ⟨y0, y1, y2, y3, y4, z0, z1, z2, z3, z4, vbelow_drew (Below.refl _ _)⟩ (fun hHeld => ?_)
          refine takeH 0 14 (v := ?vb0) rfl (by kernel_rfl) (by kernel_rfl) (by kernel_rfl) rfl (fun _ _ _ h => h) (by rfl) ?yb0 (by assumption) ?rb0
          case yb0 => (intro W hSw; (try dsimp only at hSw); go_simp; try with_reducible rfl)
          try simp only [Act.put, List.setIfInBounds_toArray, List.set_cons_zero, List.set_cons_succ]
          refine takeH 1 15 (v := ?vb1) rfl (by kernel_rfl) (by kernel_rfl) (by kernel_rfl) rfl (fun _ _ _ h => h) (by rfl) ?yb1 (by assumption) ?rb1
          case yb1 => (intro W hSw; (try dsimp only at hSw); go_simp; try with_reducible rfl)
          try simp only [Act.put, List.setIfInBounds_toArray, List.set_cons_zero, List.set_cons_succ]
          refine takeH 2 16 (v := ?vb2) rfl (by kernel_rfl) (by kernel_rfl) (by kernel_rfl) rfl (fun _ _ _ h => h) (by rfl) ?yb2 (by assumption) ?rb2
          case yb2 => (intro W hSw; (try dsimp only at hSw); go_simp; try with_reducible rfl)
          try simp only [Act.put, List.setIfInBounds_toArray, List.set_cons_zero, List.set_cons_succ]
          refine takeH 3 17 (v := ?vb3) rfl (by kernel_rfl) (by kernel_rfl) (by kernel_rfl) rfl (fun _ _ _ h => h) (by rfl) ?yb3 (by assumption) ?rb3
          case yb3 => (intro W hSw; (try dsimp only at hSw); go_simp; try with_reducible rfl)
          try simp only [Act.put, List.setIfInBounds_toArray, List.set_cons_zero, List.set_cons_succ]
          refine takeH 4 18 (v := ?vb4) rfl (by kernel_rfl) (by kernel_rfl) (by kernel_rfl) rfl (fun _ _ _ h => h) (by rfl) ?yb4 (by assumption) ?rb4
          case yb4 => (intro W hSw; (try dsimp only at hSw); go_simp; try with_reducible rfl)
          try simp only [Act.put, List.setIfInBounds_toArray, List.set_cons_zero, List.set_cons_succ]
          refine takeH 5 19 (v := ?vb5) rfl (by kernel_rfl) (by kernel_rfl) (by kernel_rfl) rfl (fun _ _ _ h => h) (by rfl) ?yb5 (by assumption) ?rb5
          case yb5 => (intro W hSw; (try dsimp only at hSw); go_simp; try with_reducible rfl)
          try simp only [Act.put, List.setIfInBounds_toArray, List.set_cons_zero, List.set_cons_succ]
          refine takeH 6 20 (v := ?vb6) rfl (by kernel_rfl) (by kernel_rfl) (by kernel_rfl) rfl (fun _ _ _ h => h) (by rfl) ?yb6 (by assumption) ?rb6
          case yb6 => (intro W hSw; (try dsimp only at hSw); go_simp; try with_reducible rfl)
          try simp only [Act.put, List.setIfInBounds_toArray, List.set_cons_zero, List.set_cons_succ]
          refine takeH 7 21 (v := ?vb7) rfl (by kernel_rfl) (by kernel_rfl) (by kernel_rfl) rfl (fun _ _ _ h => h) (by rfl) ?yb7 (by assumption) ?rb7
          case yb7 => (intro W hSw; (try dsimp only at hSw); go_simp; try with_reducible rfl)
          try simp only [Act.put, List.setIfInBounds_toArray, List.set_cons_zero, List.set_cons_succ]
          refine wpAnyH_ready (rs := [8]) (by kernel_rfl) (by simp) ?_
          refine AllReadyH.cons (o := _) rfl (fun K hK => ?_) AllReadyH.nil
          dsimp only [List.getElem_toArray, List.getElem_cons_succ, List.getElem_cons_zero]
          go_simp
          go_at_call 34
          (with_reducible refine (HS.out _).mono ?_)
          rintro e w2 ⟨rfl, hb2⟩
          have HB2 := Lib.hid (hHeld.2.2.2.2.2.2.2.2.2.2.out.trans (hb2.mono hHeld.2.2.2.2.2.2.2.2.2.2.out.size))
          go_wp2_with fail
          refine hK.out _ _ ⟨ekeep hb2 hHeld.1, ekeep hb2 hHeld.2.1, ekeep hb2 hHeld.2.2.1, ekeep hb2 hHeld.2.2.2.1, ekeep hb2 hHeld.2.2.2.2.1, ekeep hb2 hHeld.2.2.2.2.2.1, ekeep hb2 hHeld.2.2.2.2.2.2.1, ekeep hb2 hHeld.2.2.2.2.2.2.2.1, ekeep hb2 hHeld.2.2.2.2.2.2.2.2.1, ekeep hb2 hHeld.2.2.2.2.2.2.2.2.2.1, HB2⟩ (fun hHeld => ?_)
          clear hK K
          try simp only [Act.put, List.setIfInBounds_toArray, List.set_cons_zero, List.set_cons_succ]
          refine takeH 9 23 (v := ?vb9) rfl (by kernel_rfl) (by kernel_rfl) (by kernel_rfl) rfl (fun _ _ _ h => h) (by rfl) ?yb9 (by assumption) ?rb9
          case yb9 => (intro W hSw; (try dsimp only at hSw); go_simp; try with_reducible rfl)
          try simp only [Act.put, List.setIfInBounds_toArray, List.set_cons_zero, List.set_cons_succ]
          refine wpAnyH_done (by kernel_rfl) ?_ _
          have HI2 := Lib.hid (HI.out.below HB2.out)
          have hb := HYB.out w2 HI2.out.b
          have y0 : w2.cell? ⟨yb, 0, none⟩ = some (.int .i64 yt) := fcell_of_blk hb rfl
          have y1 : w2.cell? ⟨yb, 1, none⟩ = some (.int .i64 yd) := fcell_of_blk hb rfl
          have y2 : w2.cell? ⟨yb, 2, none⟩ = some (.int .i64 yq) := fcell_of_blk hb rfl
          have y3 : w2.cell? ⟨yb, 3, none⟩ = some (.string yn) := fcell_of_blk hb rfl
          have y4 : w2.cell? ⟨yb, 4, none⟩ = some (.slice ya yl yc) := fcell_of_blk hb rfl
          clear hb
          obtain ⟨a9, l9, c9, w9, hr9, HI9, HL9⟩ := HXY.out _ _ _ _ _ HI2.out (by simp at hlen; omega)
          obtain ⟨own9, hI9⟩ := HI9.out
          obtain ⟨z0, z1, z2, z3, z4⟩ := HZZ.out _ _ _ _ _ hI9
          unfold efld at z1 z2 z3 z4
          obtain ⟨a10, l10, c10, w10, hr10, HI10, HL10⟩ := HXZ.out _ _ _ _ _ hI9 (by simp at hlen ⊢; omega)
          rw [← HL9.out] at hr10
          clear hI9
          go_wp2_with (first | (at_builtin; refine Lib.wpList_append_run _ rfl _ _ _ _ rfl _ _ rfl rfl _ _ hr9 ?_; clear hr9) | (at_builtin; refine Lib.wpList_append_run _ rfl _ _ _ _ rfl _ _ rfl rfl _ _ hr10 ?_; clear hr10))
          obtain ⟨own10, hI10⟩ := HI10.out
          go_roundw
          case rel => exact ⟨k + 1, true, own10, a10, c10, os ++ [(⟨yt, yd, yq, yn, ya, yc, yv⟩ : EIn)] ++ [(⟨zt, zd, zq, zn, za, zc, zv⟩ : EIn)], by rw [HL10.out], rfl, by go_num, by omega, hI10, HE, by simp at hlen ⊢; omega⟩
          case measure => simp [intOf]; omega
        | false =>
          have HE : Hid (os ++ [(⟨zt, zd, zq, zn, za, zc, zv⟩ : EIn)] ++ insR lessX (es.drop (k + 1)) ⟨yt, yd, yq, yn, ya, yc, yv⟩ = insR lessX es ⟨yt, yd, yq, yn, ya, yc, yv⟩) := by
            show _ = _
            rw [← HE1, if_neg (by decide), insR, if_neg (by rw [hg]; decide), List.append_assoc]
            rfl
          clear HE1 hg
          go_upto_region 6 with fail
          refine wp_region_held_drew (S := (fun W => W.cell? ⟨yb, 0, none⟩ = some (.int .i64 yt) ∧ W.cell? ⟨yb, 1, none⟩ = some (.int .i64 yd) ∧ W.cell? ⟨yb, 2, none⟩ = some (.int .i64 yq) ∧ W.cell? ⟨yb, 3, none⟩ = some (.string yn) ∧ W.cell? ⟨yb, 4, none⟩ = some (.slice ya yl yc) ∧ W.cell? (A.add (k * 5)) = some (.int .i64 zt) ∧ W.cell? ⟨(A.add (k * 5)).block, (A.add (k * 5)).off + 1, none⟩ = some (.int .i64 zd) ∧ W.cell? ⟨(A.add (k * 5)).block, (A.add (k * 5)).off + 2, none⟩ = some (.int .i64 zq) ∧ W.cell? ⟨(A.add (k * 5)).block, (A.add (k * 5)).off + 3, none⟩ = some (.string zn) ∧ W.cell? ⟨(A.add (k * 5)).block, (A.add (k * 5)).off + 4, none⟩ = some (.slice za zl zc) ∧ Hid (Below wr.heap.size wr W))) (by kernel_rfl) ⟨y0, y1, y2, y3, y4, z0, z1, z2, z3, z4, vbelow_drew (Below.refl _ _)⟩ (fun hHeld => ?_)
          refine takeH 0 14 (v := ?vc0) rfl (by kernel_rfl) (by kernel_rfl) (by kernel_rfl) rfl (fun _ _ _ h => h) (by rfl) ?yc0 (by assumption) ?rc0
          case yc0 => (intro W hSw; (try dsimp only at hSw); go_simp; try with_reducible rfl)
          try simp only [Act.put, List.setIfInBounds_toArray, List.set_cons_zero, List.set_cons_succ]
          refine takeH 1 15 (v := ?vc1) rfl (by kernel_rfl) (by kernel_rfl) (by kernel_rfl) rfl (fun _ _ _ h => h) (by rfl) ?yc1 (by assumption) ?rc1
          case yc1 => (intro W hSw; (try dsimp only at hSw); go_simp; try with_reducible rfl)
          try simp only [Act.put, List.setIfInBounds_toArray, List.set_cons_zero, List.set_cons_succ]
          refine takeH 2 16 (v := ?vc2) rfl (by kernel_rfl) (by kernel_rfl) (by kernel_rfl) rfl (fun _ _ _ h => h) (by rfl) ?yc2 (by assumption) ?rc2
          case yc2 => (intro W hSw; (try dsimp only at hSw); go_simp; try with_reducible rfl)
          try simp only [Act.put, List.setIfInBounds_toArray, List.set_cons_zero, List.set_cons_succ]
          refine takeH 3 17 (v := ?vc3) rfl (by kernel_rfl) (by kernel_rfl) (by kernel_rfl) rfl (fun _ _ _ h => h) (by rfl) ?yc3 (by assumption) ?rc3
          case yc3 => (intro W hSw; (try dsimp only at hSw); go_simp; try with_reducible rfl)
          try simp only [Act.put, List.setIfInBounds_toArray, List.set_cons_zero, List.set_cons_succ]
          refine takeH 4 18 (v := ?vc4) rfl (by kernel_rfl) (by kernel_rfl) (by kernel_rfl) rfl (fun _ _ _ h => h) (by rfl) ?yc4 (by assumption) ?rc4
          case yc4 => (intro W hSw; (try dsimp only at hSw); go_simp; try with_reducible rfl)
          try simp only [Act.put, List.setIfInBounds_toArray, List.set_cons_zero, List.set_cons_succ]
          refine takeH 5 19 (v := ?vc5) rfl (by kernel_rfl) (by kernel_rfl) (by kernel_rfl) rfl (fun _ _ _ h => h) (by rfl) ?yc5 (by assumption) ?rc5
          case yc5 => (intro W hSw; (try dsimp only at hSw); go_simp; try with_reducible rfl)
          try simp only [Act.put, List.setIfInBounds_toArray, List.set_cons_zero, List.set_cons_succ]
          refine takeH 6 20 (v := ?vc6) rfl (by kernel_rfl) (by kernel_rfl) (by kernel_rfl) rfl (fun _ _ _ h => h) (by rfl) ?yc6 (by assumption) ?rc6
          case yc6 => (intro W hSw; (try dsimp only at hSw); go_simp; try with_reducible rfl)
          try simp only [Act.put, List.setIfInBounds_toArray, List.set_cons_zero, List.set_cons_succ]
          refine takeH 7 21 (v := ?vc7) rfl (by kernel_rfl) (by kernel_rfl) (by kernel_rfl) rfl (fun _ _ _ h => h) (by rfl) ?yc7 (by assumption) ?rc7
          case yc7 => (intro W hSw; (try dsimp only at hSw); go_simp; try with_reducible rfl)
          try simp only [Act.put, List.setIfInBounds_toArray, List.set_cons_zero, List.set_cons_succ]
          refine wpAnyH_ready (rs := [8]) (by kernel_rfl) (by simp) ?_
          refine AllReadyH.cons (o := _) rfl (fun K hK => ?_) AllReadyH.nil
          dsimp only [List.getElem_toArray, List.getElem_cons_succ, List.getElem_cons_zero]
          go_simp
          go_at_call 34
          (with_reducible refine (HS.out _).mono ?_)
          rintro e w2 ⟨rfl, hb2⟩
          have HB2 := Lib.hid (hHeld.2.2.2.2.2.2.2.2.2.2.out.trans (hb2.mono hHeld.2.2.2.2.2.2.2.2.2.2.out.size))
          go_wp2_with fail
          refine hK.out _ _ ⟨ekeep hb2 hHeld.1, ekeep hb2 hHeld.2.1, ekeep hb2 hHeld.2.2.1, ekeep hb2 hHeld.2.2.2.1, ekeep hb2 hHeld.2.2.2.2.1, ekeep hb2 hHeld.2.2.2.2.2.1, ekeep hb2 hHeld.2.2.2.2.2.2.1, ekeep hb2 hHeld.2.2.2.2.2.2.2.1, ekeep hb2 hHeld.2.2.2.2.2.2.2.2.1, ekeep hb2 hHeld.2.2.2.2.2.2.2.2.2.1, HB2⟩ (fun hHeld => ?_)
          clear hK K
          try simp only [Act.put, List.setIfInBounds_toArray, List.set_cons_zero, List.set_cons_succ]
          refine takeH 9 23 (v := ?vc9) rfl (by kernel_rfl) (by kernel_rfl) (by kernel_rfl) rfl (fun _ _ _ h => h) (by rfl) ?yc9 (by assumption) ?rc9
          case yc9 => (intro W hSw; (try dsimp only at hSw); go_simp; try with_reducible rfl)
          try simp only [Act.put, List.setIfInBounds_toArray, List.set_cons_zero, List.set_cons_succ]
          refine wpAnyH_done (by kernel_rfl) ?_ _
          have HI2 := Lib.hid (HI.out.below HB2.out)
          obtain ⟨z0, z1, z2, z3, z4⟩ := HZZ.out _ _ _ _ _ HI2.out
          unfold efld at z1 z2 z3 z4
          obtain ⟨a9, l9, c9, w9, hr9, HI9, HL9⟩ := HXZ.out _ _ _ _ _ HI2.out (by simp at hlen; omega)
          go_wp2_with (at_builtin; refine Lib.wpList_append_run _ rfl _ _ _ _ rfl _ _ rfl rfl _ _ hr9 ?_; clear hr9)
          obtain ⟨own9, hI9⟩ := HI9.out
          go_roundw
          case rel => exact ⟨k + 1, false, own9, a9, c9, os ++ [(⟨zt, zd, zq, zn, za, zc, zv⟩ : EIn)], by rw [HL9.out], rfl, by go_num, by omega, hI9, HE, by simp at hlen ⊢; omega⟩
          case measure => simp [intOf]; omega
    · obtain rfl : k = n := by omega
      have hdr : es.drop k = [] := List.drop_of_length_le (by rw [Hn.out]; exact Nat.le_refl _)
      rw [hdr] at HE
      have HE1 := HE.out
      cases b with
      | true =>
        have HQ : Hid (os = insR lessX es ⟨yt, yd, yq, yn, ya, yc, yv⟩) := by
          show _ = _
          rw [← HE1]
          exact (List.append_nil _).symm
        clear HE1 hdr HE
        go_wp2_with fail
        go_ret
        exact HEND.out _ _ _ _ _ HI.out HQ.out
      | false =>
        have HQ : Hid (os ++ [(⟨yt, yd, yq, yn, ya, yc, yv⟩ : EIn)] = insR lessX es ⟨yt, yd, yq, yn, ya, yc, yv⟩) := by
          show _ = _
          rw [← HE1]
          rfl
        clear HE1 hdr HE
        have hb := HYB.out wr HI.out.b
        have y0 : wr.cell? ⟨yb, 0, none⟩ = some (.int .i64 yt) := fcell_of_blk hb rfl
        have y1 : wr.cell? ⟨yb, 1, none⟩ = some (.int .i64 yd) := fcell_of_blk hb rfl
        have y2 : wr.cell? ⟨yb, 2, none⟩ = some (.int .i64 yq) := fcell_of_blk hb rfl
        have y3 : wr.cell? ⟨yb, 3, none⟩ = some (.string yn) := fcell_of_blk hb rfl
        have y4 : wr.cell? ⟨yb, 4, none⟩ = some (.slice ya yl yc) := fcell_of_blk hb rfl
        clear hb
        obtain ⟨a9, l9, c9, w9, hr9, HI9, HL9⟩ := HXY.out _ _ _ _ _ HI.out (by simp at hlen; omega)
        go_wp2_with (at_builtin; refine Lib.wpList_append_run _ rfl _ _ _ _ rfl _ _ rfl rfl _ _ hr9 ?_; clear hr9)
        obtain ⟨own9, hI9⟩ := HI9.out
        go_ret
        rw [HL9.out]
        exact HEND.out _ _ _ _ _ hI9 HQ.out

end Go.Proofs.Ytfmlgckfcclojaa
namespace Go.Proofs.Ytfmlgckfcclojaa
open Go.RowKit Go.Lib Go.Op

/-- No block that was is owned by a row on its way. -/
def No56 (w : World) (own : Nat → Nat) : Prop := ∀ b, b < w.heap.size → own b ≠ 5 ∧ own b ≠ 6

/-- The document's buffer: its box and its row are owner 4's. -/
structure RBuf (w : World) (own : Nat → Nat) (bb : Nat) (T : Int) (M : List Core) : Prop where
  ex : ∃ va vc es, w.heap[bb]? = some (.cells #[.slice va es.length vc, .int .i64 (T + 1)] 74 (0, 0)) ∧ KRow w own 4 (.slice va es.length vc) es ∧ es.map EIn.core = M
  obb : own bb = 4
  sort : M.Pairwise (fun a b => lessC a b = true)
  right : ∀ c ∈ M, rightC c = true
  len : M.length ≤ 256
  time : -1 ≤ T ∧ T ≤ 1099511627776

theorem RBuf.step {K : Nat → Prop} {w w' : World} {own own' : Nat → Nat} {bb : Nat} {T : Int} {M : List Core} (h : RBuf w own bb T M) (hs : OStep K own own' w w') (hk : ¬ K 4) (h0 : ¬ K 0) : RBuf w' own' bb T M := by
  obtain ⟨va, vc, es, h1, h2, h3⟩ := h.ex
  have hlt := (Array.getElem?_eq_some_iff.1 h1).1
  exact ⟨⟨va, vc, es, (hs.fr.block bb hlt (by rw [h.obb]; exact hk)).trans h1, h2.step hs hk h0, h3⟩, (hs.own bb hlt).trans h.obb, h.sort, h.right, h.len, h.time⟩
theorem RBuf.below {w w' : World} {own : Nat → Nat} {bb : Nat} {T : Int} {M : List Core} (h : RBuf w own bb T M) (hb : Below w.heap.size w w') : RBuf w' own bb T M := h.step (K := fun _ => False) (OStep.of_below hb) (fun h => h) (fun h => h)

theorem rtime_calls {w : World} {own : Nat → Nat} {bb : Nat} {T : Int} {M : List Core} (h : RBuf w own bb T M) :
    Calls Try.prog 46 #[.pointer (some ⟨bb, 0, none⟩)] w fun e w' => e = .returned (.int .i64 T) ∧ w = w' := by
  obtain ⟨va, vc, es, hb, _⟩ := h.ex
  have b1 : w.cell? ⟨bb, 1, none⟩ = some (.int .i64 (T + 1)) := fcell_of_blk hb rfl
  have ht := h.time
  have hw1 : IntKind.i64.wrap (T + 1 - 1) = T := by rw [IntKind.wrap_i64]; omega
  have hw2 : IntKind.i64.wrap T = T := by rw [IntKind.wrap_i64]; omega
  clear h hb ht
  go_enter Try.func46, Try.ntmps46
  go_wp2
  go_ret
  exact ⟨by first | rfl | rw [hw1] | rw [hw2], rfl⟩

/-- The new one. -/
theorem RBuf.new (w : World) (own : Nat → Nat) (hz : OZ w own) (h56 : No56 w own) : ∃ own', OStep (fun _ => False) own own' w (w.alloc (.cells #[.slice none 0 0, .int .i64 0] 74)) ∧ RBuf (w.alloc (.cells #[.slice none 0 0, .int .i64 0] 74)) own' w.heap.size (-1) [] ∧ OZ (w.alloc (.cells #[.slice none 0 0, .int .i64 0] 74)) own' ∧ No56 (w.alloc (.cells #[.slice none 0 0, .int .i64 0] 74)) own' := by
  have hba := (Below.refl w.heap.size w).alloc (Nat.le_refl _) (.cells #[.slice none 0 0, .int .i64 0] 74)
  have hsz : (w.alloc (.cells #[.slice none 0 0, .int .i64 0] 74)).heap.size = w.heap.size + 1 := by simp
  refine ⟨fun b => if b = w.heap.size then 4 else own b, ⟨OFr.of_below hba, fun b hb => if_neg (by omega)⟩, ⟨⟨none, 0, [], heap_alloc_new w _, KRow.nil _ _ _, rfl⟩, if_pos rfl, List.Pairwise.nil, (fun c hc => by cases hc), (by simp), (by omega)⟩, fun b hb => ?_, fun b hb => ?_⟩
  · rw [hsz] at hb
    show (if b = w.heap.size then 4 else own b) = 0
    rw [if_neg (by omega)]
    exact hz b (by omega)
  · rw [hsz] at hb
    show (if b = w.heap.size then 4 else own b) ≠ 5 ∧ (if b = w.heap.size then 4 else own b) ≠ 6
    by_cases e : b = w.heap.size
    · rw [if_pos e]; decide
    · rw [if_neg e]; exact h56 b (by omega)

/-- What New leaves. -/
def RNewP (w : World) (own : Nat → Nat) (e : Ending) (w' : World) : Prop :=
  ∃ own', e = .returned (.pointer (some ⟨w.heap.size, 0, none⟩)) ∧ OStep (fun _ => False) own own' w w' ∧ RBuf w' own' w.heap.size (-1) [] ∧ OZ w' own' ∧ No56 w' own' ∧ Below w.heap.size w w'
theorem rnew_calls (w : World) (own : Nat → Nat) (hz : OZ w own) (h56 : No56 w own) : Calls Try.prog 38 #[] w (RNewP w own) := by
  have HN := Lib.hid (RBuf.new w own hz h56)
  have HB : Hid (Below w.heap.size w (w.alloc (.cells #[.slice none 0 0, .int .i64 0] 74))) := (Below.refl w.heap.size w).alloc (Nat.le_refl _) (.cells #[.slice none 0 0, .int .i64 0] 74)
  clear hz h56
  go_enter Try.func38, Try.ntmps38
  go_wp2
  go_ret
  obtain ⟨own', h1, h2, h3, h4⟩ := HN.out
  exact ⟨own', rfl, h1, h2, h3, h4, HB.out⟩

end Go.Proofs.Ytfmlgckfcclojaa
namespace Go.Proofs.Ytfmlgckfcclojaa
open Go.RowKit Go.Lib Go.Op

set_option maxHeartbeats 1000000 in
set_option maxRecDepth 100000 in
theorem rright_calls (k n : Int) (s : ByteArray) (w : World) (hs : s.size ≤ maxLen) :
    Calls Try.prog 35 #[.agg #[.int .i64 k, .int .i64 n, .string s]] w fun e w' => e = .returned (.bool (rightV k n s)) ∧ w' = w.alloc (.cells #[.int .i64 k, .int .i64 n, .string s] 52) := by
  unfold maxLen at hs
  have hsl : s.data.toList.length = s.size := by simp
  by_cases hse : s.data.toList = []
  · obtain rfl := vempty hse
    clear hsl hse hs
    by_cases h3 : k = 3
    · subst h3
      rw [rightV_3]
      go_enter Try.func35, Try.ntmps35
      go_wp2
      all_goals (go_ret; exact ⟨vret_bool (by simp; omega), rfl⟩)
    by_cases h1 : k = 1
    · subst h1
      rw [rightV_1]
      go_enter Try.func35, Try.ntmps35
      go_wp2
      all_goals (go_ret; exact ⟨vret_bool (by simp; omega), rfl⟩)
    by_cases h2 : k = 2
    · subst h2
      rw [rightV_2]
      by_cases hn : n = 0
      · subst hn
        go_enter Try.func35, Try.ntmps35
        go_wp2
        all_goals (go_ret; exact ⟨vret_bool (by simp), rfl⟩)
      · go_enter Try.func35, Try.ntmps35
        go_wp2
        all_goals (go_ret; exact ⟨vret_bool (by simp; omega), rfl⟩)
    · rw [rightV_not h1 h2 h3]
      go_enter Try.func35, Try.ntmps35
      go_wp2
      all_goals (go_ret; exact ⟨vret_bool (by simp), rfl⟩)
  · have ha : (s.toList == []) = false := by rw [beq_eq_false_iff_ne, vtoL]; exact hse
    have hb : (!s.toList.isEmpty) = true := by rw [vtoL]; simpa using hse
    have hc : s.toList.isEmpty = false := by rw [vtoL]; simpa using hse
    by_cases h3 : k = 3
    · subst h3
      rw [rightV_3]
      go_enter Try.func35, Try.ntmps35
      go_wp2
      all_goals (go_ret; exact ⟨vret_bool (by first | rfl | (simp [hse]) | (simp; omega)), rfl⟩)
    by_cases h1 : k = 1
    · subst h1
      rw [rightV_1]
      go_enter Try.func35, Try.ntmps35
      go_wp2
      all_goals (go_ret; exact ⟨vret_bool (by first | rfl | (simp [hse]) | (simp; omega)), rfl⟩)
    by_cases h2 : k = 2
    · subst h2
      rw [rightV_2]
      by_cases hn : n = 0
      · subst hn
        clear ha hb hc
        go_enter Try.func35, Try.ntmps35
        go_wp2
        all_goals (go_ret; exact ⟨vret_bool (by simp [hsl]; try omega), rfl⟩)
      · clear ha hb hc
        go_enter Try.func35, Try.ntmps35
        go_wp2
        all_goals (go_ret; exact ⟨vret_bool (by simp; omega), rfl⟩)
    · rw [rightV_not h1 h2 h3]
      go_enter Try.func35, Try.ntmps35
      go_wp2
      all_goals (go_ret; exact ⟨vret_bool (by simp), rfl⟩)

/-- How far the document's digits are read. -/
def DigA (r : List UInt8) (i n : Nat) : Prop := i ≤ r.length ∧ dgo (r.drop i) i n = dgo r 0 0 ∧ n < 128 ^ i

theorem pow128' : ∀ i : Nat, i ≤ 7 → 128 ^ i ≤ 562949953421312
  | 0, _ => by decide
  | 1, _ => by decide
  | 2, _ => by decide
  | 3, _ => by decide
  | 4, _ => by decide
  | 5, _ => by decide
  | 6, _ => by decide
  | 7, _ => by decide
  | n + 8, h => by omega

theorem DigA.step {r : List UInt8} {i n : Nat} (h : DigA r i n) {c : UInt8} (hc : r[i]? = some c) (h128 : ¬ c.toNat < 128) : DigA r (i + 1) (n + c.toNat % 128 * 128 ^ i) := by
  obtain ⟨h1, h3, h4⟩ := h
  obtain ⟨hi, hx⟩ := List.getElem?_eq_some_iff.1 hc
  rw [List.drop_eq_getElem_cons hi, hx, dgo_cons, if_neg h128] at h3
  refine ⟨hi, h3, ?_⟩
  have h5 := Nat.mod_lt c.toNat (show 0 < 128 by omega)
  have h6 : c.toNat % 128 * 128 ^ i ≤ 127 * 128 ^ i := Nat.mul_le_mul_right _ (by omega)
  rw [Nat.pow_succ]
  omega

theorem DigA.stop {r : List UInt8} {i n : Nat} (h : DigA r i n) {c : UInt8} (hc : r[i]? = some c) (h128 : c.toNat < 128) : dgo r 0 0 = if c.toNat = 0 ∧ 0 < i then (0, 0) else (n + c.toNat % 128 * 128 ^ i, i + 1) := by
  obtain ⟨h1, h3, h4⟩ := h
  obtain ⟨hi, hx⟩ := List.getElem?_eq_some_iff.1 hc
  rw [List.drop_eq_getElem_cons hi, hx, dgo_cons, if_pos h128] at h3
  exact h3.symm

theorem DigA.fin {r : List UInt8} {i n : Nat} (h : DigA r i n) (hi : i = r.length) : dgo r 0 0 = (0, 0) := by
  obtain ⟨h1, h3, h4⟩ := h
  rw [← h3, List.drop_eq_nil_of_le (by omega)]
  rfl

theorem numSum {m p x : Nat} (hm : m < 562949953421312) (hp : p ≤ 562949953421312) : wrap64 ((m : Int) + wrap64 ((x : Int) % 128 * (p : Int))) = ((m + x % 128 * p : Nat) : Int) := by
  have h3 : ((x : Int) % 128 * (p : Int)) = ((x % 128 * p : Nat) : Int) := by simp
  have h4 : x % 128 * p ≤ 127 * 562949953421312 := Nat.mul_le_mul (by omega) hp
  rw [h3]
  generalize x % 128 * p = y at h4
  rw [IntWalk.wrap64_in (y : Int) (by omega), IntWalk.wrap64_in _ (by omega)]
  omega

/-- What the document's Number answers. -/
def numO (o : Option (Nat × Nat)) : Nat × Nat := o.getD (0, 0)
def NumPost (w : World) (o : Option (Nat × Nat)) (e : Ending) (w' : World) : Prop := e = .returned (.tuple #[.int .i64 (numO o).1, .int .i64 (numO o).2, .bool o.isSome]) ∧ w = w'

theorem NumPost.none {w : World} {o : Option (Nat × Nat)} (h : o = none) : NumPost w o (.returned (.tuple #[.int .i64 0, .int .i64 0, .bool false])) w := by
  rw [h]; exact ⟨rfl, rfl⟩
theorem NumPost.some {w : World} {o : Option (Nat × Nat)} {a b : Nat} {x y : Int} (h : o = some (a, b)) (hx : x = a) (hy : y = b) : NumPost w o (.returned (.tuple #[.int .i64 x, .int .i64 y, .bool true])) w := by
  rw [h, hx, hy]; exact ⟨rfl, rfl⟩

theorem numR_none {l : List UInt8} (h : (dgo (l.take 7) 0 0).2 = 0 ∨ 2199023255552 < (dgo (l.take 7) 0 0).1) : numR l = none := if_pos h
theorem numR_some {l : List UInt8} (h : ¬ ((dgo (l.take 7) 0 0).2 = 0 ∨ 2199023255552 < (dgo (l.take 7) 0 0).1)) : numR l = some (dgo (l.take 7) 0 0) := if_neg h

set_option maxHeartbeats 4000000 in
set_option maxRecDepth 100000 in
theorem number_calls (w : World) (v : Value) (bs : List UInt8) (h : BRow w v bs) : Calls Try.prog 63 #[v, .int .i64 2199023255552] w (NumPost w (numR bs)) := by
  obtain ⟨a, c, rfl, hc, hcm⟩ := h.len
  obtain ⟨l, hl⟩ : ∃ l, bs.length = l := ⟨_, rfl⟩
  have hlm : l ≤ maxLen := by omega
  unfold maxLen at hlm
  have H := Lib.hid h
  have HL := Lib.hid hl
  have hrl : (bs.take 7).length = min 7 l := by rw [List.length_take, hl]
  have Hrl := Lib.hid hrl
  rw [hl] at hc ⊢
  have HD0 : Hid (DigA (bs.take 7) 0 0) := ⟨Nat.zero_le _, rfl, by decide⟩
  clear hl h hrl
  go_enter Try.func63, Try.ntmps63
  go_wp2
  go_loop [7, 8, 9] (fun n b i => ∃ k m p : Nat, i = .int .i64 k ∧ n = .int .i64 m ∧ b = .int .i64 p ∧ k ≤ 7 ∧ p ≤ 562949953421312 ∧ m < 562949953421312 ∧ Hid (p = 128 ^ k) ∧ Hid (DigA (bs.take 7) k m)) (fun _ _ i => 7 - (intOf i).toNat)
  case atStart => exact ⟨0, 0, 1, rfl, rfl, rfl, by omega, by omega, by omega, rfl, HD0⟩
  case round =>
    obtain ⟨k, m, p, rfl, rfl, rfl, hk7, hp, hm, Hp, HD⟩ := hrel
    have hkr : k ≤ min 7 l := by have h9 := HD.out.1; rw [Hrl.out] at h9; exact h9
    by_cases hlt : k < l ∧ k < 7
    · obtain ⟨hkl, hk⟩ := hlt
      have hx : bs[k]? = some (bs[k]'(by rw [HL.out]; exact hkl)) := List.getElem?_eq_getElem _
      have hx7 : (bs.take 7)[k]? = bs[k]? := List.getElem?_take_of_lt hk
      generalize bs[k]'(by rw [HL.out]; exact hkl) = x at hx
      rw [hx] at hx7
      obtain ⟨A, rfl, hcell⟩ := H.out.atc hx
      have Hx := Lib.hid hx7
      have hx8 := x.toNat_lt
      have HS := Lib.hid (numSum (x := x.toNat) hm hp)
      clear hx hx7 hkr
      by_cases h128 : x.toNat < 128
      · have hstop := HD.out.stop Hx.out h128
        rw [← Hp.out] at hstop
        have Hstop := Lib.hid hstop
        clear hstop
        by_cases hz : x.toNat = 0 ∧ 0 < k
        · have hn : numR bs = none := numR_none (.inl (by rw [Hstop.out, if_pos hz]))
          have Hn := Lib.hid hn
          obtain ⟨hx0, hk0⟩ := hz
          clear hn
          go_wp2
          all_goals
            go_ret3
            exact NumPost.none Hn.out
        · have hs2 : dgo (bs.take 7) 0 0 = (m + x.toNat % 128 * p, k + 1) := by rw [Hstop.out, if_neg hz]
          have Hs2 := Lib.hid hs2
          clear hs2
          by_cases hbig : 2199023255552 < m + x.toNat % 128 * p
          · have hn : numR bs = none := numR_none (.inr (by rw [Hs2.out]; exact hbig))
            have Hn := Lib.hid hn
            have hd : (2199023255552 : Int) < wrap64 ((m : Int) + wrap64 ((x.toNat : Int) % 128 * (p : Int))) := by rw [HS.out]; omega
            clear hn hbig hz
            go_wp2
            all_goals
              go_ret3
              exact NumPost.none Hn.out
          · have hn : numR bs = some (m + x.toNat % 128 * p, k + 1) := by rw [numR_some (by rw [Hs2.out]; rw [not_or]; exact ⟨by simp, hbig⟩), Hs2.out]
            have Hn := Lib.hid hn
            have hd : ¬ ((2199023255552 : Int) < wrap64 ((m : Int) + wrap64 ((x.toNat : Int) % 128 * (p : Int)))) := by rw [HS.out]; omega
            clear hn
            by_cases hx0 : x.toNat = 0
            · have hk0 : ¬ 0 < k := fun h => hz ⟨hx0, h⟩
              have hd0 : ¬ ((2199023255552 : Int) < (m : Int)) := by rw [hx0] at hbig; simp at hbig; omega
              clear hz hbig hd
              go_wp2
              go_ret3
              exact NumPost.some Hn.out (by rw [hx0]; simp) (by simp)
            · clear hz hbig
              go_wp2
              all_goals
                go_ret3
                exact NumPost.some Hn.out HS.out (by simp)
      · have hst := HD.out.step Hx.out h128
        rw [← Hp.out] at hst
        have Hst := Lib.hid hst
        have Hp2 : Hid (p * 128 = 128 ^ (k + 1)) := by show _ = _; rw [Nat.pow_succ, ← Hp.out]
        have hp2 : p * 128 ≤ 562949953421312 := by rw [Hp2.out]; exact pow128' _ (by omega)
        have hm2 : m + x.toNat % 128 * p < 562949953421312 := Nat.lt_of_lt_of_le hst.2.2 (pow128' _ (by omega))
        clear hst
        go_wp2
        go_round
        case rel => exact ⟨k + 1, m + x.toNat % 128 * p, p * 128, by go_num, by rw [HS.out], by go_num, by omega, hp2, hm2, Hp2, Hst⟩
        case measure => simp [intOf]; omega
    · have hfin : numR bs = none := numR_none (.inl (by rw [HD.out.fin (by rw [Hrl.out]; omega)]))
      have Hfin := Lib.hid hfin
      clear hfin hkr
      by_cases hkl : k < l
      · have hk : ¬ k < 7 := fun h => hlt ⟨hkl, h⟩
        clear hlt
        go_wp2
        go_ret3
        exact NumPost.none Hfin.out
      · clear hlt
        go_wp2
        go_ret3
        exact NumPost.none Hfin.out

end Go.Proofs.Ytfmlgckfcclojaa
namespace Go.Proofs.Ytfmlgckfcclojaa
open Go.RowKit Go.Lib Go.Op

/-- What was looked at is as a word's beginning. -/
def RWordTo (l : List UInt8) (k : Nat) : Prop := (∀ c, 0 < k → l[0]? = some c → letterB c = true) ∧ ∀ j x, j < k → l[j]? = some x → charB x = true

theorem RWordTo.step {l : List UInt8} {k : Nat} (h : RWordTo l k) {c : UInt8} (hk : l[k]? = some c) (hc : charB c = true) (h0 : k = 0 → letterB c = true) : RWordTo l (k + 1) := by
  refine ⟨fun x _ hx => ?_, fun j x hj hx => ?_⟩
  · rcases Nat.eq_zero_or_pos k with e | e
    · subst e
      rw [hk] at hx
      injection hx with hx
      rw [← hx]; exact h0 rfl
    · exact h.1 x e hx
  · by_cases e : j = k
    · subst e
      rw [hk] at hx
      injection hx with hx
      rw [← hx]; exact hc
    · exact h.2 j x (by omega) hx

theorem RWordTo.fin {l : List UInt8} (h : RWordTo l l.length) (h1 : 1 ≤ l.length) (h2 : l.length ≤ 16) : wordB l = true :=
  wordB_yes (List.getElem?_eq_getElem (by omega)) (h.1 _ (by omega) (List.getElem?_eq_getElem (by omega))) h2 fun k x hx => h.2 k x (List.getElem?_eq_some_iff.1 hx).1 hx

theorem rletter_char {c : UInt8} (h : letterB c = true) : charB c = true := by unfold charB; rw [h]; rfl

set_option maxHeartbeats 4000000 in
set_option maxRecDepth 100000 in
theorem rword_calls (s : ByteArray) (w : World) (hs : s.size ≤ maxLen) :
    Calls Try.prog 29 #[.string s] w fun e w' => e = .returned (.bool (wordB s.data.toList)) ∧ w = w' := by
  unfold maxLen at hs
  have hsl : s.data.toList.length = s.size := by simp
  generalize hr : wordB s.data.toList = r
  have Hr : Hid (wordB s.data.toList = r) := hr
  have Hsl : Hid (s.data.toList.length = s.size) := hsl
  clear hr hsl
  go_enter Try.func29, Try.ntmps29
  go_wp2
  go_loop [3, 4, 5] (fun i x y => ∃ k : Nat, k ≤ s.size ∧ i = .int .i64 k ∧ Hid (RWordTo s.data.toList k)) (fun i _ _ => s.size - (intOf i).toNat)
  case atStart => exact ⟨0, Nat.zero_le _, rfl, fun c h => absurd h (Nat.not_lt_zero 0), fun j x hj => absurd hj (Nat.not_lt_zero j)⟩
  case round =>
    obtain ⟨k, hk, rfl, HK⟩ := hrel
    by_cases hlt : k < s.size
    · have hx : s.data.toList[k]? = some s[k] := by
        rw [List.getElem?_eq_getElem (by rw [Hsl.out]; exact hlt)]
        rfl
      have hb : s[k].toNat < 256 := s[k].toNat_lt
      have hstep := fun h1 h2 => Lib.hid (HK.out.step hx h1 h2)
      have hnot := fun h => (Lib.hid (Hr.out.symm.trans (wordB_not hx h)) : Hid (r = false))
      have hx0 : ∀ j, j = k → s.data.toList[j]? = some s[k] := fun j e => by rw [e]; exact hx
      have hfirst := fun (e : 0 = k) (hle : letterB s[k] = false) => (Lib.hid (Hr.out.symm.trans (wordB_first (l := s.data.toList) (c := s[k]) (hx0 0 e) hle)) : Hid (r = false))
      have hlo : letterB s[k] = decide (97 ≤ s[k].toNat ∧ s[k].toNat ≤ 122) := rfl
      have hco := charB_of (c := s[k])
      rw [hlo] at hstep hfirst
      rw [hco] at hstep hnot
      clear hlo hco hx hx0
      by_cases a1 : 97 ≤ s[k].toNat ∧ s[k].toNat ≤ 122
      · have hst := hstep (by simp [a1]) (fun _ => by simp [a1])
        obtain ⟨b1, b2⟩ := a1
        clear hstep hnot hfirst
        go_wp2
        go_round
        case rel => exact ⟨k + 1, by omega, by go_num, hst⟩
        case measure => simp [intOf]; omega
      · by_cases h0 : k = 0
        · have hst := (hfirst h0.symm (decide_eq_false a1)).out
          subst hst
          subst h0
          have h3 : (s[0].toNat < 97) ∨ (97 ≤ s[0].toNat ∧ 122 < s[0].toNat) := by omega
          clear hstep hnot hfirst a1
          rcases h3 with h3 | ⟨h3, h4⟩
          · go_wp2
            go_ret
            exact ⟨rfl, rfl⟩
          · have hd : decide ((s[0].toNat : Int) ≤ 122) = false := by simp; omega
            go_wp2
            go_ret
            exact ⟨rfl, rfl⟩
        · have hk0 : ((k : Int) == 0) = false := by rw [beq_eq_false_iff_ne]; omega
          have go1 : ∀ (_ : s[k].toNat = 95 ∨ (48 ≤ s[k].toNat ∧ s[k].toNat ≤ 57)), Hid (RWordTo s.data.toList (k + 1)) := fun h => hstep (by simp; omega) (fun e => absurd e h0)
          have go0 : ∀ (_ : ¬ s[k].toNat = 95) (_ : ¬ (48 ≤ s[k].toNat ∧ s[k].toNat ≤ 57)), Hid (r = false) := fun h1 h2 => hnot (by simp; omega)
          clear hstep hnot hfirst
          by_cases a2 : s[k].toNat = 95
          · have hst := go1 (.inl a2)
            have ht : ((s[k].toNat : Int) != 95) = false := by rw [bne_eq_false_iff_eq]; omega
            have h3 : s[k].toNat < 97 := by omega
            clear go1 go0 a1
            go_wp2
            go_round
            case rel => exact ⟨k + 1, by omega, by go_num, hst⟩
            case measure => simp [intOf]; omega
          have ht : ((s[k].toNat : Int) != 95) = true := by rw [bne_iff_ne]; omega
          by_cases a3 : 48 ≤ s[k].toNat ∧ s[k].toNat ≤ 57
          · have hst := go1 (.inr a3)
            obtain ⟨b1, b2⟩ := a3
            have h3 : s[k].toNat < 97 := by omega
            clear go1 go0 a1 a2
            go_wp2
            go_round
            case rel => exact ⟨k + 1, by omega, by go_num, hst⟩
            case measure => simp [intOf]; omega
          · have hst := (go0 a2 a3).out
            subst hst
            have h3 : (s[k].toNat < 97 ∧ s[k].toNat < 48) ∨ (s[k].toNat < 97 ∧ 48 ≤ s[k].toNat ∧ 57 < s[k].toNat) ∨ (97 ≤ s[k].toNat ∧ 122 < s[k].toNat ∧ 48 ≤ s[k].toNat ∧ 57 < s[k].toNat) := by omega
            clear go1 go0 a1 a2 a3
            rcases h3 with ⟨h3, h4⟩ | ⟨h3, h4, h5⟩ | ⟨h3, h4, h5, h6⟩
            · go_wp2
              go_ret
              exact ⟨rfl, rfl⟩
            · go_wp2
              go_ret
              exact ⟨rfl, rfl⟩
            · have hd : decide ((s[k].toNat : Int) ≤ 122) = false := by simp; omega
              go_wp2
              go_ret
              exact ⟨rfl, rfl⟩
    · obtain rfl : k = s.size := by omega
      by_cases h1 : s.size < 1
      · have hf : r = false := Hr.out.symm.trans (by
          have : s.data.toList = [] := List.eq_nil_of_length_eq_zero (by rw [Hsl.out]; omega)
          rw [this]; rfl)
        subst hf
        have hd : decide (1 ≤ (s.size : Int)) = false := by simp; omega
        go_wp2
        go_ret
        exact ⟨rfl, rfl⟩
      by_cases h2 : 16 < s.size
      · have hf : r = false := Hr.out.symm.trans (wordB_long (by rw [Hsl.out]; exact h2))
        subst hf
        have hd : decide ((s.size : Int) ≤ 16) = false := by simp; omega
        go_wp2
        go_ret
        exact ⟨rfl, rfl⟩
      have hf : r = true := Hr.out.symm.trans ((show RWordTo s.data.toList s.data.toList.length by rw [Hsl.out]; exact HK.out).fin (by rw [Hsl.out]; omega) (by rw [Hsl.out]; omega))
      subst hf
      have hd : decide ((s.size : Int) ≤ 16) = true := by simp; omega
      go_wp2
      go_ret
      exact ⟨rfl, rfl⟩

theorem rless_calls (t d s : Int) (n : ByteArray) (v : Value) (t' d' s' : Int) (n' : ByteArray) (v' : Value) (hv : ∃ a l c, v = .slice a l c) (hv' : ∃ a l c, v' = .slice a l c) (w : World) :
    Calls Try.prog 34 #[evV t d s n v, evV t' d' s' n' v'] w fun e w' => e = .returned (.bool (lessE t d s t' d' s')) ∧ Below w.heap.size w w' := by
  obtain ⟨a1, l1, c1, rfl⟩ := hv
  obtain ⟨a2, l2, c2, rfl⟩ := hv'
  by_cases h1 : t = t'
  · subst h1
    by_cases h2 : d = d'
    · subst h2
      have e : lessE t d s t d s' = decide (s < s') := by unfold lessE; simp
      rw [e]
      clear e
      by_cases h3 : s < s'
      · rw [decide_eq_true h3]
        go_enter Try.func34, Try.ntmps34
        go_wp2
        go_ret
        exact ⟨rfl, by repeat' (first | exact Below.refl _ _ | refine Below.alloc ?_ (by simp <;> omega) _)⟩
      · rw [decide_eq_false h3]
        go_enter Try.func34, Try.ntmps34
        go_wp2
        go_ret
        exact ⟨rfl, by repeat' (first | exact Below.refl _ _ | refine Below.alloc ?_ (by simp <;> omega) _)⟩
    · have e : lessE t d s t d' s' = decide (d < d') := by unfold lessE; simp [h2]
      rw [e]
      have hb : (d != d') = true := by rw [bne_iff_ne]; exact h2
      clear e
      by_cases h3 : d < d'
      · rw [decide_eq_true h3]
        go_enter Try.func34, Try.ntmps34
        go_wp2
        go_ret
        exact ⟨rfl, by repeat' (first | exact Below.refl _ _ | refine Below.alloc ?_ (by simp <;> omega) _)⟩
      · rw [decide_eq_false h3]
        go_enter Try.func34, Try.ntmps34
        go_wp2
        go_ret
        exact ⟨rfl, by repeat' (first | exact Below.refl _ _ | refine Below.alloc ?_ (by simp <;> omega) _)⟩
  · have e : lessE t d s t' d' s' = decide (t < t') := by unfold lessE; simp [h1]
    rw [e]
    have hb : (t != t') = true := by rw [bne_iff_ne]; exact h1
    clear e
    by_cases h3 : t < t'
    · rw [decide_eq_true h3]
      go_enter Try.func34, Try.ntmps34
      go_wp2
      go_ret
      exact ⟨rfl, by repeat' (first | exact Below.refl _ _ | refine Below.alloc ?_ (by simp <;> omega) _)⟩
    · rw [decide_eq_false h3]
      go_enter Try.func34, Try.ntmps34
      go_wp2
      go_ret
      exact ⟨rfl, by repeat' (first | exact Below.refl _ _ | refine Below.alloc ?_ (by simp <;> omega) _)⟩

/-- The first test of Right: all but the values. -/
def headE (t d s : Int) (n : ByteArray) : Bool := numB t && (numB s && (decide (0 ≤ d ∧ d ≤ 3) && wordB n.data.toList))

theorem rightE_head (t d s : Int) (n : ByteArray) (vs : List VIn) : rightE (pe t d s n vs) = (headE t d s n && (decide (vs.length ≤ 8) && (vs.map pv).all rightB)) := by
  rw [rightE_parts]
  unfold headE
  simp only [Bool.and_assoc]

set_option maxHeartbeats 4000000 in
set_option maxRecDepth 100000 in
theorem rrightE_calls (t d s : Int) (n : ByteArray) (a : Option Addr) (c : Nat) (vs : List VIn) (w : World) (hn : n.size ≤ maxLen) (hv : VRow w a vs) (hl : vs.length ≤ maxLen) :
    Calls Try.prog 55 #[evV t d s n (.slice a vs.length c)] w fun e w' => e = .returned (.bool (rightE (pe t d s n vs))) ∧ Below w.heap.size w w' := by
  rw [rightE_head]
  have HV := Lib.hid hv
  have HN := Lib.hid (fun W => rword_calls n W hn)
  obtain ⟨l, hll⟩ : ∃ l, vs.length = l := ⟨_, rfl⟩
  have Hl := Lib.hid hll
  rw [hll] at hl ⊢
  unfold maxLen at hl
  clear hv hll hn
  unfold headE numB
  by_cases h1 : t < 0
  · rw [decide_eq_false (show ¬ (0 ≤ t ∧ t ≤ 1099511627776) by omega)]
    go_enter Try.func55, Try.ntmps55
    go_wp2
    go_ret
    exact ⟨rfl, (Below.refl _ _).alloc (Nat.le_refl _) _⟩
  by_cases h2 : 1099511627776 < t
  · rw [decide_eq_false (show ¬ (0 ≤ t ∧ t ≤ 1099511627776) by omega)]
    go_enter Try.func55, Try.ntmps55
    go_wp2
    go_ret
    exact ⟨rfl, (Below.refl _ _).alloc (Nat.le_refl _) _⟩
  rw [decide_eq_true (show 0 ≤ t ∧ t ≤ 1099511627776 by omega), Bool.true_and]
  by_cases h3 : s < 0
  · rw [decide_eq_false (show ¬ (0 ≤ s ∧ s ≤ 1099511627776) by omega)]
    go_enter Try.func55, Try.ntmps55
    go_wp2
    go_ret
    exact ⟨rfl, (Below.refl _ _).alloc (Nat.le_refl _) _⟩
  by_cases h4 : 1099511627776 < s
  · rw [decide_eq_false (show ¬ (0 ≤ s ∧ s ≤ 1099511627776) by omega)]
    go_enter Try.func55, Try.ntmps55
    go_wp2
    go_ret
    exact ⟨rfl, (Below.refl _ _).alloc (Nat.le_refl _) _⟩
  rw [decide_eq_true (show 0 ≤ s ∧ s ≤ 1099511627776 by omega), Bool.true_and]
  by_cases h5 : d < 0
  · rw [decide_eq_false (show ¬ (0 ≤ d ∧ d ≤ 3) by omega)]
    go_enter Try.func55, Try.ntmps55
    go_wp2
    go_ret
    exact ⟨rfl, (Below.refl _ _).alloc (Nat.le_refl _) _⟩
  by_cases h6 : 3 < d
  · rw [decide_eq_false (show ¬ (0 ≤ d ∧ d ≤ 3) by omega)]
    go_enter Try.func55, Try.ntmps55
    go_wp2
    go_ret
    exact ⟨rfl, (Below.refl _ _).alloc (Nat.le_refl _) _⟩
  rw [decide_eq_true (show 0 ≤ d ∧ d ≤ 3 by omega), Bool.true_and]
  cases h7 : wordB n.data.toList with
  | false =>
    rw [h7] at HN
    go_enter Try.func55, Try.ntmps55
    go_wp2_with (go_at_call 29; refine (HN.out _).mono ?_; rintro e w1 ⟨rfl, rfl⟩)
    go_ret
    exact ⟨rfl, (Below.refl _ _).alloc (Nat.le_refl _) _⟩
  | true =>
  rw [h7] at HN
  rw [Bool.true_and]
  obtain ⟨res, hres⟩ : ∃ res, (decide (l ≤ 8) && (vs.map pv).all rightB) = res := ⟨_, rfl⟩
  have Hres := Lib.hid hres
  rw [hres]
  clear hres h7
  have HB0 : Hid (Below w.heap.size w (w.alloc (.cells #[.int .i64 t, .int .i64 d, .int .i64 s, .string n, .slice a l c] 25))) := (Below.refl _ _).alloc (Nat.le_refl _) _
  have HX4 : Hid ((w.alloc (.cells #[.int .i64 t, .int .i64 d, .int .i64 s, .string n, .slice a l c] 25)).cell? ⟨w.heap.size, 4, none⟩ = some (.slice a l c)) := by show _ = _; simp
  go_enter Try.func55, Try.ntmps55
  go_wp2_with (go_at_call 29; refine (HN.out _).mono ?_; rintro e w1 ⟨rfl, rfl⟩)
  generalize w.alloc (.cells #[.int .i64 t, .int .i64 d, .int .i64 s, .string n, .slice a l c] 25) = w0 at *
  go_loopw [3] (fun i wr => ∃ k : Nat, i = .int .i64 k ∧ k ≤ l ∧ Hid (RightTo vs k) ∧ Hid (Below w0.heap.size w0 wr)) (fun i _ => l - (intOf i).toNat)
  case atStart => exact ⟨0, rfl, Nat.zero_le _, fun j x hj => by omega, Below.refl _ _⟩
  case round =>
    obtain ⟨k, rfl, hk, HR, HB⟩ := hrel
    have HBw : Hid (Below w.heap.size w wr) := HB0.out.trans (HB.out.mono HB0.out.size)
    have x4 := ekeep HB.out HX4.out
    by_cases hlt : k < l
    · obtain ⟨x, hx⟩ : ∃ x, vs[k]? = some x := ⟨_, List.getElem?_eq_getElem (by rw [Hl.out]; exact hlt)⟩
      obtain ⟨A, rfl, c0, c1, c2, hs⟩ := (HV.out.below HBw.out) k x hx
      have hcall := rright_calls x.1 x.2.1 x.2.2 wr hs
      unfold efld at c1 c2
      have hrv : rightV x.1 x.2.1 x.2.2 = rightB (pv x) := rfl
      rw [hrv] at hcall
      cases hr : rightB (pv x) with
      | true =>
        have hst := Lib.hid (HR.out.step hx hr)
        rw [hr] at hcall
        obtain ⟨k1, n1, s1⟩ := x
        dsimp only at c0 c1 c2 hcall
        clear hx hrv hr
        go_wp2_with (go_at_call 35; refine hcall.mono ?_; rintro e w1 ⟨rfl, rfl⟩)
        have HB1 : Hid (Below w0.heap.size w0 (wr.alloc (.cells #[.int .i64 k1, .int .i64 n1, .string s1] 52))) := HB.out.alloc HB.out.size _
        clear hcall
        go_roundw
        case rel => exact ⟨k + 1, by go_num, by omega, hst, HB1⟩
        case measure => simp [intOf]; omega
      | false =>
        have hno := Lib.hid (notRight hx hr)
        rw [hr] at hcall
        obtain ⟨k1, n1, s1⟩ := x
        dsimp only at c0 c1 c2 hcall
        clear hx hrv hr
        go_wp2_with (go_at_call 35; refine hcall.mono ?_; rintro e w1 ⟨rfl, rfl⟩)
        go_ret
        exact ⟨by rw [← Hres.out, hno.out, Bool.and_false]; rfl, HBw.out.alloc HBw.out.size _⟩
    · obtain rfl : k = l := by omega
      have hall := Lib.hid (RightTo.all (vs := vs) (by rw [Hl.out]; exact HR.out))
      by_cases h8 : k ≤ 8
      · have hd : decide ((k : Int) ≤ 8) = true := by simp; omega
        have e8 : decide (k ≤ 8) = true := decide_eq_true h8
        go_wp2
        go_ret
        exact ⟨by rw [← Hres.out, hall.out, e8]; rfl, HBw.out⟩
      · have hd : decide ((k : Int) ≤ 8) = false := by simp; omega
        have e8 : decide (k ≤ 8) = false := decide_eq_false h8
        go_wp2
        go_ret
        exact ⟨by rw [← Hres.out, e8]; rfl, HBw.out⟩

end Go.Proofs.Ytfmlgckfcclojaa
namespace Go.Proofs.Ytfmlgckfcclojaa
open Go.RowKit Go.Lib Go.Op

theorem insR_core (y : EIn) : ∀ es : List EIn, (insR lessX es y).map EIn.core = insR lessC (es.map EIn.core) y.core
  | [] => rfl
  | z :: es => by
    have ih := insR_core y es
    rw [insR, List.map_cons, insR]
    have e : lessC y.core z.core = lessX y z := rfl
    rw [e]
    cases lessX y z with
    | true => rfl
    | false =>
      show z.core :: (insR lessX es y).map EIn.core = _
      rw [ih]
      rfl
theorem insR_mem {y x : EIn} : ∀ {es : List EIn}, x ∈ insR lessX es y → x ∈ es ∨ x = y
  | [], h => by
    rw [insR, List.mem_singleton] at h
    exact .inr h
  | z :: es, h => by
    rw [insR] at h
    split at h
    · rcases List.mem_cons.1 h with rfl | h
      · exact .inr rfl
      · exact .inl h
    · rcases List.mem_cons.1 h with rfl | h
      · exact .inl (by simp)
      · rcases insR_mem h with h | h
        · exact .inl (by simp [h])
        · exact .inr h

theorem put_there {T : Int} {M : List Core} {c : Core} (hs : M.Pairwise (fun a b => lessC a b = true)) (hr : rightC c = true) (ht : ¬ c.1 ≤ T) {z : Core} (hz : z ∈ M) (h1 : lessC c z = false) (h2 : lessC z c = false) : putCC T M c = 151 := by
  obtain ⟨x, hx, hx2⟩ := (there_iff lessC_trans hs).1 ⟨z, hz, h1, h2⟩
  unfold putCC
  rw [if_pos hr, if_neg ht, hx]
  dsimp only
  rw [if_neg (by rw [hx2]; decide)]
theorem put_apart {T : Int} {M : List Core} {c : Core} (hs : M.Pairwise (fun a b => lessC a b = true)) (hr : rightC c = true) (ht : ¬ c.1 ≤ T) (ha : ∀ z ∈ M, lessC c z = true ∨ lessC z c = true) : putCC T M c = if M.length < 256 then 0 else 2 := by
  unfold putCC
  rw [if_pos hr, if_neg ht]
  cases hx : M[posL lessC M c]? with
  | none => rfl
  | some z =>
    dsimp only
    cases h1 : lessC c z with
    | true => rfl
    | false =>
      obtain ⟨x, hx, h3, h4⟩ := (there_iff lessC_trans hs).2 ⟨z, hx, h1⟩
      rcases ha x hx with h | h
      · rw [h3] at h; cases h
      · rw [h4] at h; cases h

/-- What Put leaves. -/
def RPutP (w : World) (own : Nat → Nat) (bb : Nat) (T : Int) (M : List Core) (c : Core) (e : Ending) (w' : World) : Prop :=
  ∃ own', e = .returned (.int .i64 (putCC T M c)) ∧ RBuf w' own' bb T (putWC T M c) ∧ OStep (fun j => j = 4) own own' w w' ∧ OZ w' own' ∧ No56 w' own'
theorem No56.grow {w w' : World} {own : Nat → Nat} (h : No56 w own) (hz : OZ w own) : No56 w' own := fun b _ => by
  by_cases e : b < w.heap.size
  · exact h b e
  · rw [hz b (by omega)]; decide
theorem RPutP.refused {w w' : World} {own : Nat → Nat} {bb : Nat} {T : Int} {M : List Core} {c : Core} (h : RBuf w own bb T M) (hz : OZ w own) (h56 : No56 w own) (hb : Below w.heap.size w w') {z : Int} (hp : putCC T M c = z) (h0 : z ≠ 0) : RPutP w own bb T M c (.returned (.int .i64 z)) w' := by
  have e : putWC T M c = M := by unfold putWC; rw [if_neg (by rw [hp]; exact h0)]
  exact ⟨own, by rw [hp], by rw [e]; exact h.below hb, OStep.of_below hb, hz.step hb.size, h56.grow hz⟩

theorem rput_end {w : World} {own : Nat → Nat} {bb : Nat} {T : Int} {M : List Core} (h : RBuf w own bb T M) (_hz : OZ w own) (h56 : No56 w own) {y : EIn} (hy : Fit w own y) {va : Option Addr} {vc : Nat} {es : List EIn} (hb : w.heap[bb]? = some (.cells #[.slice va es.length vc, .int .i64 (T + 1)] 74 (0, 0)))
    (hr : KRow w own 4 (.slice va es.length vc) es) (hm : es.map EIn.core = M) {w1 w' : World} (hw1 : Below w.heap.size w w1) {own9 : Nat → Nat} {oa : Option Addr} {oc : Nat} {os : List EIn} (hi : InsS w1 w' own own9 va vc es oa oc os) (ho : os = insR lessX es y) (hap : ∀ z ∈ M, lessC y.core z = true ∨ lessC z y.core = true) (hp : putCC T M y.core = 0) (hl : M.length < 256) :
    RPutP w own bb T M y.core (.returned (.int .i64 0)) (w'.setCell ⟨bb, 0, none⟩ (.slice oa os.length oc)) := by
  have hbw := hw1.trans (hi.b.mono hw1.size)
  have hlt := (Array.getElem?_eq_some_iff.1 hb).1
  have hb6 : w'.heap[bb]? = some (.cells #[.slice va es.length vc, .int .i64 (T + 1)] 74 (0, 0)) := (hbw.block bb hlt).trans hb
  have hb7 : (w'.setCell ⟨bb, 0, none⟩ (.slice oa os.length oc)).heap[bb]? = some (.cells #[.slice oa os.length oc, .int .i64 (T + 1)] 74 (0, 0)) := heap_setCell_same w' bb 0 _ 74 (.slice oa os.length oc) hb6
  have hoth : ∀ g, g ≠ bb → (w'.setCell ⟨bb, 0, none⟩ (.slice oa os.length oc)).heap[g]? = w'.heap[g]? := fun g hgb => heap_setCell_other _ _ _ _ hgb
  have hfr : OFr (fun b => own b = 4) w (w'.setCell ⟨bb, 0, none⟩ (.slice oa os.length oc)) := (OFr.of_below hbw).setCell (fun _ => h.obb) _
  have hsz : (w'.setCell ⟨bb, 0, none⟩ (.slice oa os.length oc)).heap.size = w'.heap.size := by simp
  have hsw := hbw.size
  have hrow : ∀ g, (Value.slice oa os.length oc).ownBlock = some g → w.heap.size ≤ g ∧ g < w'.heap.size := fun g hg => by
    refine ⟨?_, (hi.r.row.lt g hg).2⟩
    have h5 := hi.r.own' g hg
    rcases Nat.lt_or_ge g w.heap.size with e | e
    · rw [hi.e g (Nat.lt_of_lt_of_le e hw1.size)] at h5
      exact absurd h5 (h56 g e).1
    · exact e
  generalize w'.setCell ⟨bb, 0, none⟩ (.slice oa os.length oc) = W at hb7 hoth hfr hsz ⊢
  obtain ⟨own', hown⟩ : ∃ own' : Nat → Nat, own' = fun b => if b < w.heap.size then own b else if (Value.slice oa os.length oc).ownBlock = some b then 4 else 0 := ⟨_, rfl⟩
  have o1 : ∀ b, b < w.heap.size → own' b = own b := fun b hb => by rw [hown]; exact if_pos hb
  have o2 : ∀ b, (Value.slice oa os.length oc).ownBlock = some b → own' b = 4 := fun b hb => by
    have := (hrow b hb).1
    rw [hown]
    show (if b < w.heap.size then own b else if (Value.slice oa os.length oc).ownBlock = some b then 4 else 0) = 4
    rw [if_neg (by omega), if_pos hb]
  have hpm : (putWC T M y.core) = insR lessC M y.core := by
    unfold putWC
    rw [if_pos hp, insR_eq lessC_asym hap]
  have hM : (putWC T M y.core).Perm (y.core :: M) := putWC_perm hp
  refine ⟨own', by rw [hp], ⟨⟨oa, oc, os, hb7, ⟨eowns_of_block hi.r.row (fun g hg => hoth g (by have := (hrow g hg).1; omega)), o2, fun x hx => ?_⟩, ?_⟩, (o1 bb hlt).trans h.obb, ?_, ?_, ?_, h.time⟩, ⟨hfr, o1⟩, fun b hb => ?_, fun b hb => ?_⟩
  · rw [ho] at hx
    have hx' : Fit w own x := by
      rcases insR_mem hx with hx | rfl
      · exact hr.vals x hx
      · exact hy
    exact ⟨hx'.1.ofr2 hfr (fun A hA hn => by rw [(hx'.2.1 A hA hn).2]; decide), fun A hA hn => ⟨by have := (hx'.2.1 A hA hn).1; omega, (o1 _ (hx'.2.1 A hA hn).1).trans (hx'.2.1 A hA hn).2⟩, hx'.2.2⟩
  · rw [ho, insR_core, hm, hpm]
  · rw [hpm, insR_eq lessC_asym hap]
    refine insL_sorted lessC_trans h.sort fun z hz => ?_
    rcases hap z (List.mem_of_getElem? hz) with e | e
    · exact e
    · exfalso
      have h1 : putCC T M y.core = 0 := hp
      unfold putCC at h1
      rw [if_pos (putCC_is hp).1, if_neg (by have := (putCC_is hp).2; omega), hz] at h1
      dsimp only at h1
      rw [if_neg (by rw [lessC_asym _ _ e]; decide)] at h1
      cases h1
  · intro c hc
    rcases List.mem_cons.1 (hM.mem_iff.1 hc) with rfl | hc
    · exact (putCC_is hp).1
    · exact h.right c hc
  · rw [hM.length_eq, List.length_cons]
    omega
  · rw [hown]
    show (if b < w.heap.size then own b else if (Value.slice oa os.length oc).ownBlock = some b then 4 else 0) = 0
    rw [if_neg (by omega), if_neg (fun e => by have := (hrow b e).2; omega)]
  · rw [hown]
    show (if b < w.heap.size then own b else if (Value.slice oa os.length oc).ownBlock = some b then 4 else 0) ≠ 5 ∧ (if b < w.heap.size then own b else if (Value.slice oa os.length oc).ownBlock = some b then 4 else 0) ≠ 6
    by_cases e : b < w.heap.size
    · rw [if_pos e]; exact h56 b e
    · rw [if_neg e]
      split <;> decide

end Go.Proofs.Ytfmlgckfcclojaa
namespace Go.Proofs.Ytfmlgckfcclojaa
open Go.RowKit Go.Lib Go.Op

theorem filter_core (time : Int) : ∀ es : List EIn, (es.filter fun x => decide (x.ts ≤ time)).map EIn.core = (es.map EIn.core).filter fun c => decide (c.1 ≤ time)
  | [] => rfl
  | x :: es => by
    have ih := filter_core time es
    rw [List.map_cons, List.filter_cons, List.filter_cons]
    have e : x.core.1 = x.ts := rfl
    rw [e]
    cases decide (x.ts ≤ time) <;> simp [ih]
theorem filterN_core (time : Int) : ∀ es : List EIn, (es.filter fun x => !decide (x.ts ≤ time)).map EIn.core = (es.map EIn.core).filter fun c => !decide (c.1 ≤ time)
  | [] => rfl
  | x :: es => by
    have ih := filterN_core time es
    rw [List.map_cons, List.filter_cons, List.filter_cons]
    have e : x.core.1 = x.ts := rfl
    rw [e]
    cases decide (x.ts ≤ time) <;> simp [ih]

/-- What is held while Advance goes: two rows more. -/
structure AdvS (w wr : World) (own own2 : Nat → Nat) (oa : Option Addr) (oc : Nat) (os : List EIn) (la : Option Addr) (lc : Nat) (ls : List EIn) : Prop where
  b : Below w.heap.size w wr
  e : ∀ i, i < w.heap.size → own2 i = own i
  z : OZ wr own2
  r : KRow wr own2 5 (.slice oa os.length oc) os
  l : KRow wr own2 6 (.slice la ls.length lc) ls
theorem AdvS.push5 {w wr : World} {own own2 : Nat → Nat} {oa : Option Addr} {oc : Nat} {os : List EIn} {la : Option Addr} {lc : Nat} {ls : List EIn} (h : AdvS w wr own own2 oa oc os la lc ls) (h56 : No56 w own) (x : EIn) (hx : Fit w own x) (hl : os.length ≤ 90000) :
    ∃ a9 l9 c9 w9, (Builtin.append_ #[66, 66] 66 #[.slice oa os.length oc, .slice (some ⟨wr.heap.size, 0, none⟩) 1 1]).run Try.prog (wr.alloc (.cells #[.int .i64 x.ts, .int .i64 x.dep, .int .i64 x.seq, .string x.nm, .slice x.a x.vs.length x.c] 25)) = .ok (.slice a9 l9 c9) w9 ∧ Hid (∃ own9, AdvS w w9 own own9 a9 c9 (os ++ [x]) la lc ls) ∧ Hid (l9 = (os ++ [x]).length) := by
  obtain ⟨a9, l9, c9, w9, own9, e1, e2, e3, e4, e5⟩ := h.r.append1 (by decide) h.z x ⟨hx.1.below h.b, fun A hA hn => ⟨Nat.lt_of_lt_of_le (hx.2.1 A hA hn).1 h.b.size, (h.e _ (hx.2.1 A hA hn).1).trans (hx.2.1 A hA hn).2⟩, hx.2.2⟩ hl
  refine ⟨a9, l9, c9, w9, e1, ⟨own9, ⟨h.b.trans ⟨e3.fr.os, e3.fr.tape, e3.fr.output, Nat.le_trans h.b.size e3.fr.size |> fun _ => e3.fr.size, fun i hi => e3.fr.block i (Nat.lt_of_lt_of_le hi h.b.size) (by rw [h.e i hi]; exact (h56 i hi).1)⟩, fun i hi => (e3.own i (Nat.lt_of_lt_of_le hi h.b.size)).trans (h.e i hi), e4, by rw [← e5]; exact e2, h.l.step e3 (by decide) (by decide)⟩⟩, e5⟩
theorem AdvS.push6 {w wr : World} {own own2 : Nat → Nat} {oa : Option Addr} {oc : Nat} {os : List EIn} {la : Option Addr} {lc : Nat} {ls : List EIn} (h : AdvS w wr own own2 oa oc os la lc ls) (h56 : No56 w own) (x : EIn) (hx : Fit w own x) (hl : ls.length ≤ 90000) :
    ∃ a9 l9 c9 w9, (Builtin.append_ #[66, 66] 66 #[.slice la ls.length lc, .slice (some ⟨wr.heap.size, 0, none⟩) 1 1]).run Try.prog (wr.alloc (.cells #[.int .i64 x.ts, .int .i64 x.dep, .int .i64 x.seq, .string x.nm, .slice x.a x.vs.length x.c] 25)) = .ok (.slice a9 l9 c9) w9 ∧ Hid (∃ own9, AdvS w w9 own own9 oa oc os a9 c9 (ls ++ [x])) ∧ Hid (l9 = (ls ++ [x]).length) := by
  obtain ⟨a9, l9, c9, w9, own9, e1, e2, e3, e4, e5⟩ := h.l.append1 (by decide) h.z x ⟨hx.1.below h.b, fun A hA hn => ⟨Nat.lt_of_lt_of_le (hx.2.1 A hA hn).1 h.b.size, (h.e _ (hx.2.1 A hA hn).1).trans (hx.2.1 A hA hn).2⟩, hx.2.2⟩ hl
  refine ⟨a9, l9, c9, w9, e1, ⟨own9, ⟨h.b.trans ⟨e3.fr.os, e3.fr.tape, e3.fr.output, Nat.le_trans h.b.size e3.fr.size |> fun _ => e3.fr.size, fun i hi => e3.fr.block i (Nat.lt_of_lt_of_le hi h.b.size) (by rw [h.e i hi]; exact (h56 i hi).2)⟩, fun i hi => (e3.own i (Nat.lt_of_lt_of_le hi h.b.size)).trans (h.e i hi), e4, h.r.step e3 (by decide) (by decide), by rw [← e5]; exact e2⟩⟩, e5⟩

/-- What Advance leaves: what it tells lies in a row of its own. -/
def RAdvP (w : World) (own : Nat → Nat) (bb : Nat) (T : Int) (M : List Core) (time : Int) (e : Ending) (w' : World) : Prop :=
  ∃ own' oa oc os, e = .returned (.tuple #[.slice oa os.length oc, .int .i64 (advC T time)]) ∧ RBuf w' own' bb (advT T time) (advWC T M time) ∧ EvRow w' oa os ∧ os.map EIn.core = advEC T M time ∧ OStep (fun j => j = 4) own own' w w' ∧ OZ w' own' ∧ No56 w' own'

theorem RAdvP.refused {w w' : World} {own : Nat → Nat} {bb : Nat} {T : Int} {M : List Core} {time : Int} (h : RBuf w own bb T M) (hz : OZ w own) (h56 : No56 w own) (hb : Below w.heap.size w w') {z : Int} (hp : advC T time = z) (h0 : z ≠ 0) : RAdvP w own bb T M time (.returned (.tuple #[.slice none 0 0, .int .i64 z])) w' := by
  have e1 : advWC T M time = M := by unfold advWC; rw [if_neg (by rw [hp]; exact h0)]
  have e2 : advT T time = T := by unfold advT; rw [if_neg (by rw [hp]; exact h0)]
  have e3 : advEC T M time = [] := by unfold advEC; rw [if_neg (by rw [hp]; exact h0)]
  exact ⟨own, none, 0, [], by rw [hp]; rfl, by rw [e1, e2]; exact h.below hb, ⟨fun j x hj => by simp at hj, fun x hx => by cases hx⟩, by rw [e3]; rfl, OStep.of_below hb, hz.step hb.size, h56.grow hz⟩

theorem radv_end {w : World} {own : Nat → Nat} {bb : Nat} {T : Int} {M : List Core} (h : RBuf w own bb T M) (_hz : OZ w own) (h56 : No56 w own) {time : Int} {va : Option Addr} {vc : Nat} {es : List EIn} (hb : w.heap[bb]? = some (.cells #[.slice va es.length vc, .int .i64 (T + 1)] 74 (0, 0)))
    (hr : KRow w own 4 (.slice va es.length vc) es) (hm : es.map EIn.core = M) {w' : World} {own9 : Nat → Nat} {oa : Option Addr} {oc : Nat} {os : List EIn} {la : Option Addr} {lc : Nat} {ls : List EIn} (hi : AdvS w w' own own9 oa oc os la lc ls) (ho : os = es.filter fun x => decide (x.ts ≤ time)) (hl : ls = es.filter fun x => !decide (x.ts ≤ time)) (hp : advC T time = 0) :
    RAdvP w own bb T M time (.returned (.tuple #[.slice oa os.length oc, .int .i64 0])) ((w'.setCell ⟨bb, 0, none⟩ (.slice la ls.length lc)).setCell ⟨bb, 1, none⟩ (.int .i64 (time + 1))) := by
  have hbw := hi.b
  have hlt := (Array.getElem?_eq_some_iff.1 hb).1
  have hb6 : w'.heap[bb]? = some (.cells #[.slice va es.length vc, .int .i64 (T + 1)] 74 (0, 0)) := (hbw.block bb hlt).trans hb
  have hb7 : (w'.setCell ⟨bb, 0, none⟩ (.slice la ls.length lc)).heap[bb]? = some (.cells #[.slice la ls.length lc, .int .i64 (T + 1)] 74 (0, 0)) := heap_setCell_same w' bb 0 _ 74 (.slice la ls.length lc) hb6
  have hb8 : ((w'.setCell ⟨bb, 0, none⟩ (.slice la ls.length lc)).setCell ⟨bb, 1, none⟩ (.int .i64 (time + 1))).heap[bb]? = some (.cells #[.slice la ls.length lc, .int .i64 (time + 1)] 74 (0, 0)) := heap_setCell_same _ bb 1 _ 74 (.int .i64 (time + 1)) hb7
  have hoth : ∀ g, g ≠ bb → ((w'.setCell ⟨bb, 0, none⟩ (.slice la ls.length lc)).setCell ⟨bb, 1, none⟩ (.int .i64 (time + 1))).heap[g]? = w'.heap[g]? := fun g hgb => (heap_setCell_other _ _ _ _ hgb).trans (heap_setCell_other _ _ _ _ hgb)
  have hfr : OFr (fun b => own b = 4) w ((w'.setCell ⟨bb, 0, none⟩ (.slice la ls.length lc)).setCell ⟨bb, 1, none⟩ (.int .i64 (time + 1))) := ((OFr.of_below hbw).setCell (fun _ => h.obb) _).setCell (fun _ => h.obb) _
  have hsz : ((w'.setCell ⟨bb, 0, none⟩ (.slice la ls.length lc)).setCell ⟨bb, 1, none⟩ (.int .i64 (time + 1))).heap.size = w'.heap.size := by simp
  have hsw := hbw.size
  have hrow : ∀ g, (Value.slice la ls.length lc).ownBlock = some g → w.heap.size ≤ g ∧ g < w'.heap.size := fun g hg => by
    refine ⟨?_, (hi.l.row.lt g hg).2⟩
    have h5 := hi.l.own' g hg
    rcases Nat.lt_or_ge g w.heap.size with e | e
    · rw [hi.e g e] at h5
      exact absurd h5 (h56 g e).2
    · exact e
  have hrow5 : ∀ g, (Value.slice oa os.length oc).ownBlock = some g → w.heap.size ≤ g := fun g hg => by
    have h5 := hi.r.own' g hg
    rcases Nat.lt_or_ge g w.heap.size with e | e
    · rw [hi.e g e] at h5
      exact absurd h5 (h56 g e).1
    · exact e
  generalize (w'.setCell ⟨bb, 0, none⟩ (.slice la ls.length lc)).setCell ⟨bb, 1, none⟩ (.int .i64 (time + 1)) = W at hb8 hoth hfr hsz ⊢
  obtain ⟨own', hown⟩ : ∃ own' : Nat → Nat, own' = fun b => if b < w.heap.size then own b else if (Value.slice la ls.length lc).ownBlock = some b then 4 else 0 := ⟨_, rfl⟩
  have o1 : ∀ b, b < w.heap.size → own' b = own b := fun b hb => by rw [hown]; exact if_pos hb
  have o2 : ∀ b, (Value.slice la ls.length lc).ownBlock = some b → own' b = 4 := fun b hb => by
    have := (hrow b hb).1
    rw [hown]
    show (if b < w.heap.size then own b else if (Value.slice la ls.length lc).ownBlock = some b then 4 else 0) = 4
    rw [if_neg (by omega), if_pos hb]
  have hd := dueC_filter time h.sort
  have hE : advEC T M time = M.filter fun c => decide (c.1 ≤ time) := by unfold advEC; rw [if_pos hp]; exact hd.1
  have hW : advWC T M time = M.filter fun c => !decide (c.1 ≤ time) := by unfold advWC; rw [if_pos hp]; exact hd.2
  have hT : advT T time = time := by unfold advT; rw [if_pos hp]
  have htt : 0 ≤ time ∧ time ≤ 1099511627776 := by
    unfold advC at hp
    split at hp
    · omega
    · omega
  have hfit : ∀ x, x ∈ es → VRow W x.a x.vs ∧ (∀ A, x.a = some A → x.vs ≠ [] → A.block < W.heap.size ∧ own' A.block = 0) ∧ x.vs.length ≤ maxLen ∧ x.nm.size ≤ maxLen := fun x hx => by
    have hx' := hr.vals x hx
    exact ⟨hx'.1.ofr2 hfr (fun A hA hn => by rw [(hx'.2.1 A hA hn).2]; decide), fun A hA hn => ⟨by have := (hx'.2.1 A hA hn).1; omega, (o1 _ (hx'.2.1 A hA hn).1).trans (hx'.2.1 A hA hn).2⟩, hx'.2.2⟩
  refine ⟨own', oa, oc, os, by rw [hp], ?_, ?_, ?_, ⟨hfr, o1⟩, fun b hb => ?_, fun b hb => ?_⟩
  · rw [hT]
    refine ⟨⟨la, lc, ls, hb8, ⟨eowns_of_block hi.l.row (fun g hg => hoth g (by have := (hrow g hg).1; omega)), o2, fun x hx => hfit x (by rw [hl] at hx; exact (List.mem_filter.1 hx).1)⟩, by rw [hl, filterN_core, hm, hW]⟩, (o1 bb hlt).trans h.obb, ?_, ?_, ?_, by omega⟩
    · rw [hW]; exact h.sort.filter _
    · rw [hW]; exact fun c hc => h.right c (List.mem_filter.1 hc).1
    · rw [hW]; exact Nat.le_trans (List.length_filter_le _ _) h.len
  · have hrow' : W.ownsRow 0 25 5 (.slice oa os.length oc) os.length (flat os) := eowns_of_block hi.r.row (fun g hg => hoth g (by have := hrow5 g hg; omega))
    exact ⟨ECells.of_owns hrow' rfl, fun x hx => ⟨(hfit x (by rw [ho] at hx; exact (List.mem_filter.1 hx).1)).1, (hfit x (by rw [ho] at hx; exact (List.mem_filter.1 hx).1)).2.2⟩⟩
  · rw [ho, filter_core, hm, hE]
  · rw [hown]
    show (if b < w.heap.size then own b else if (Value.slice la ls.length lc).ownBlock = some b then 4 else 0) = 0
    rw [if_neg (by omega), if_neg (fun e => by have := (hrow b e).2; omega)]
  · rw [hown]
    show (if b < w.heap.size then own b else if (Value.slice la ls.length lc).ownBlock = some b then 4 else 0) ≠ 5 ∧ (if b < w.heap.size then own b else if (Value.slice la ls.length lc).ownBlock = some b then 4 else 0) ≠ 6
    by_cases e : b < w.heap.size
    · rw [if_pos e]; exact h56 b e
    · rw [if_neg e]
      split <;> decide

end Go.Proofs.Ytfmlgckfcclojaa
namespace Go.Proofs.Ytfmlgckfcclojaa
open Go.RowKit Go.Lib Go.Op

set_option maxHeartbeats 4000000 in
set_option maxRecDepth 100000 in
theorem radvance_calls {w : World} {own : Nat → Nat} {bb : Nat} {T : Int} {M : List Core} (h : RBuf w own bb T M) (hz : OZ w own) (h56 : No56 w own) (time : Int) :
    Calls Try.prog 41 #[.pointer (some ⟨bb, 0, none⟩), .int .i64 time] w (RAdvP w own bb T M time) := by
  obtain ⟨va, vc, es, hb, hr, hm⟩ := h.ex
  have hlen := h.len
  have htime := h.time
  have hnes : es.length = M.length := by rw [← hm, List.length_map]
  have hlt := (Array.getElem?_eq_some_iff.1 hb).1
  have HREF : Hid (∀ W z, Below w.heap.size w W → advC T time = z → z ≠ 0 → RAdvP w own bb T M time (.returned (.tuple #[.slice none 0 0, .int .i64 z])) W) := fun W z hW hp h0 => RAdvP.refused h hz h56 hW hp h0
  have HEND : Hid (∀ w' own9 oa oc os la lc ls, AdvS w w' own own9 oa oc os la lc ls → os = (es.filter fun x => decide (x.ts ≤ time)) → ls = (es.filter fun x => !decide (x.ts ≤ time)) → advC T time = 0 → RAdvP w own bb T M time (.returned (.tuple #[.slice oa os.length oc, .int .i64 0])) ((w'.setCell ⟨bb, 0, none⟩ (.slice la ls.length lc)).setCell ⟨bb, 1, none⟩ (.int .i64 (time + 1)))) := fun w' own9 oa oc os la lc ls h1 h2 h3 h4 => radv_end h hz h56 hb hr hm h1 h2 h3 h4
  have HX5 : Hid (∀ W own2 oa oc os la lc ls, AdvS w W own own2 oa oc os la lc ls → os.length ≤ 2000 → ∀ x, x ∈ es → _) := fun W own2 oa oc os la lc ls hI hle x hx => hI.push5 h56 x (hr.vals x hx) (by omega)
  have HX6 : Hid (∀ W own2 oa oc os la lc ls, AdvS w W own own2 oa oc os la lc ls → ls.length ≤ 2000 → ∀ x, x ∈ es → _) := fun W own2 oa oc os la lc ls hI hle x hx => hI.push6 h56 x (hr.vals x hx) (by omega)
  have HBB : Hid (∀ W, Below w.heap.size w W → W.heap[bb]? = some (.cells #[.slice va es.length vc, .int .i64 (T + 1)] 74 (0, 0))) := fun W hW => (hW.block bb hlt).trans hb
  have HZC : Hid (∀ W, Below w.heap.size w W → ECells W va es) := fun W hW => by
    obtain ⟨a', c', e1, h1⟩ := (hr.below hW).slice
    injection e1 with e1 _ _
    subst e1
    exact h1.1
  have HI0 : Hid (AdvS w w own own none 0 [] none 0 []) := ⟨Below.refl _ _, fun _ _ => rfl, hz, KRow.nil _ _ _, KRow.nil _ _ _⟩
  obtain ⟨n, hn⟩ : ∃ n, es.length = n := ⟨_, rfl⟩
  have Hn := Lib.hid hn
  rw [hn] at HBB hnes
  have hn2 : n ≤ 256 := by omega
  have b1 : w.cell? ⟨bb, 1, none⟩ = some (.int .i64 (T + 1)) := fcell_of_blk (HBB.out w (Below.refl _ _)) rfl
  clear h hz h56 hb hr hm hlt hn hnes hlen
  by_cases h1 : time < 0
  · have hd0 : decide (time < 0) = true := by simpa using h1
    have hc : advC T time = 1 := by unfold advC; rw [if_pos (.inl h1)]
    have Hc := Lib.hid hc
    clear hc
    go_enter Try.func41, Try.ntmps41
    go_wp2
    go_ret2
    exact HREF.out _ 1 (Below.refl _ _) Hc.out (by decide)
  have hd0 : decide (time < 0) = false := by simpa using h1
  by_cases h2 : 1099511627776 < time
  · have hd1 : decide (1099511627776 < time) = true := by simpa using h2
    have hc : advC T time = 1 := by unfold advC; rw [if_pos (.inr h2)]
    have Hc := Lib.hid hc
    clear hc
    go_enter Try.func41, Try.ntmps41
    go_wp2
    go_ret2
    exact HREF.out _ 1 (Below.refl _ _) Hc.out (by decide)
  have hd1 : decide (1099511627776 < time) = false := by simpa using h2
  have hw1 : IntKind.i64.wrap (time + 1) = time + 1 := by rw [IntKind.wrap_i64]; omega
  by_cases h3 : time < T
  · have hd2 : decide (time + 1 < T + 1) = true := by simp; omega
    have hd3 : decide (time < T) = true := by simpa using h3
    have hc : advC T time = 61 := by unfold advC; rw [if_neg (by omega), if_pos h3]
    have Hc := Lib.hid hc
    clear hc
    go_enter Try.func41, Try.ntmps41
    go_wp2
    go_ret2
    exact HREF.out _ 61 (Below.refl _ _) Hc.out (by decide)
  have hd2 : decide (time + 1 < T + 1) = false := by simp; omega
  have hd3 : decide (time < T) = false := by simpa using h3
  have hc : advC T time = 0 := by unfold advC; rw [if_neg (by omega), if_neg h3]
  have Hc := Lib.hid hc
  clear hc
  go_enter Try.func41, Try.ntmps41
  go_wp2_with fail
  go_loopw [6, 7, 8] (fun o l i wr => ∃ (k : Nat) (own2 : Nat → Nat) (oa : Option Addr) (oc : Nat) (os : List EIn) (la : Option Addr) (lc : Nat) (ls : List EIn), o = .slice oa os.length oc ∧ l = .slice la ls.length lc ∧ i = .int .i64 k ∧ k ≤ n ∧ Hid (AdvS w wr own own2 oa oc os la lc ls) ∧ Hid (os = ((es.take k).filter fun x => decide (x.ts ≤ time)) ∧ ls = ((es.take k).filter fun x => !decide (x.ts ≤ time))) ∧ os.length ≤ k ∧ ls.length ≤ k) (fun _ _ i _ => n - (intOf i).toNat)
  case atStart => exact ⟨0, own, none, 0, [], none, 0, [], rfl, rfl, rfl, Nat.zero_le _, HI0, ⟨rfl, rfl⟩, Nat.le_refl _, Nat.le_refl _⟩
  case round =>
    obtain ⟨k, own2, oa, oc, os, la, lc, ls, rfl, rfl, rfl, hk, HI, HF, ho, hl⟩ := hrel
    have b0 : wr.cell? ⟨bb, 0, none⟩ = some (.slice va n vc) := fcell_of_blk (HBB.out wr HI.out.b) rfl
    by_cases hlt : k < n
    · obtain ⟨z, hzk⟩ : ∃ z, es[k]? = some z := ⟨_, List.getElem?_eq_getElem (by rw [Hn.out]; exact hlt)⟩
      have htk : es.take (k + 1) = es.take k ++ [z] := by rw [List.take_add_one, hzk]; rfl
      obtain ⟨A, rfl, z0, z1, z2, z3, z4⟩ := HZC.out wr HI.out.b k z hzk
      have HX5z : Hid (os.length ≤ 2000 → _) := fun hle => HX5.out wr own2 oa oc os la lc ls HI.out hle z (List.mem_of_getElem? hzk)
      have HX6z : Hid (ls.length ≤ 2000 → _) := fun hle => HX6.out wr own2 oa oc os la lc ls HI.out hle z (List.mem_of_getElem? hzk)
      have HT5 : Hid (decide (z.ts ≤ time) = true → (os ++ [z]) = ((es.take (k + 1)).filter fun x => decide (x.ts ≤ time)) ∧ ls = ((es.take (k + 1)).filter fun x => !decide (x.ts ≤ time))) := fun e => by
        rw [htk, List.filter_append, List.filter_append, ← HF.out.1, ← HF.out.2, List.filter_cons, List.filter_cons, e]
        exact ⟨rfl, (List.append_nil _).symm⟩
      have HT6 : Hid (decide (z.ts ≤ time) = false → os = ((es.take (k + 1)).filter fun x => decide (x.ts ≤ time)) ∧ (ls ++ [z]) = ((es.take (k + 1)).filter fun x => !decide (x.ts ≤ time))) := fun e => by
        rw [htk, List.filter_append, List.filter_append, ← HF.out.1, ← HF.out.2, List.filter_cons, List.filter_cons, e]
        exact ⟨(List.append_nil _).symm, rfl⟩
      obtain ⟨zt, zd, zq, zn, za, zc, zv⟩ := z
      dsimp only at z0 z1 z2 z3 z4 HX5z HX6z HT5 HT6
      unfold efld at z1 z2 z3 z4
      obtain ⟨zl, hzl⟩ : ∃ zl, zv.length = zl := ⟨_, rfl⟩
      rw [hzl] at z4 HX5z HX6z
      obtain ⟨g, hg⟩ : ∃ g, decide (zt ≤ time) = g := ⟨_, rfl⟩
      rw [hg] at HT5 HT6
      have hk0 : (0 : Int) ≤ (k : Int) := by omega
      have hk1 : (k : Int) < (n : Int) := by omega
      clear hzk htk hzl
      cases g with
      | true =>
        obtain ⟨a9, l9, c9, w9, hr9, HI9, HL9⟩ := HX5z.out (by omega)
        have HT := Lib.hid (HT5.out rfl)
        clear HT5 HT6
        go_wp2_with (at_builtin; refine Lib.wpList_append_run _ rfl _ _ _ _ rfl _ _ rfl rfl _ _ hr9 ?_; clear hr9)
        obtain ⟨own9, hI9⟩ := HI9.out
        go_roundw
        case rel => exact ⟨k + 1, own9, a9, c9, _, la, lc, ls, by rw [HL9.out], rfl, by go_num, by omega, hI9, HT, by simp; omega, by omega⟩
        case measure => simp [intOf]; omega
      | false =>
        obtain ⟨a9, l9, c9, w9, hr9, HI9, HL9⟩ := HX6z.out (by omega)
        have HT := Lib.hid (HT6.out rfl)
        clear HT5 HT6
        go_wp2_with (at_builtin; refine Lib.wpList_append_run _ rfl _ _ _ _ rfl _ _ rfl rfl _ _ hr9 ?_; clear hr9)
        obtain ⟨own9, hI9⟩ := HI9.out
        go_roundw
        case rel => exact ⟨k + 1, own9, oa, oc, os, a9, c9, _, rfl, by rw [HL9.out], by go_num, by omega, hI9, HT, by omega, by simp; omega⟩
        case measure => simp [intOf]; omega
    · obtain rfl : k = n := by omega
      have htk : es.take k = es := List.take_of_length_le (by rw [Hn.out]; exact Nat.le_refl _)
      have HEND2 := Lib.hid (HEND.out wr own2 oa oc os la lc ls HI.out (HF.out.1.trans (by rw [htk])) (HF.out.2.trans (by rw [htk])) Hc.out)
      have hbb := HBB.out wr HI.out.b
      have f0 : wr.frozen? ⟨bb, 0, none⟩ = false := frozen_of_row wr bb 0 _ 74 hbb
      have hbb2 := heap_setCell_same wr bb 0 _ 74 (.slice la ls.length lc) hbb
      have b2 : (wr.setCell ⟨bb, 0, none⟩ (.slice la ls.length lc)).cell? ⟨bb, 1, none⟩ = some (.int .i64 (T + 1)) := fcell_of_blk hbb2 rfl
      have f2 : (wr.setCell ⟨bb, 0, none⟩ (.slice la ls.length lc)).frozen? ⟨bb, 1, none⟩ = false := frozen_of_row _ bb 1 _ 74 hbb2
      clear htk HF hbb hbb2
      go_wp2
      go_ret2
      exact HEND2.out

end Go.Proofs.Ytfmlgckfcclojaa
namespace Go.Proofs.Ytfmlgckfcclojaa
open Go.RowKit Go.Lib Go.Op

set_option maxHeartbeats 2000000 in
set_option maxRecDepth 100000 in
theorem rsame2_calls {w : World} {a b : Option Addr} {c d : Nat} {es fs : List EIn} (hE : EvRow w a es) (hF : EvRow w b fs) (hc : es.map EIn.core = fs.map EIn.core) (hN : es.length ≤ 1000) :
    Calls Try.prog 42 #[.slice a es.length c, .slice b fs.length d] w fun e w' => e = .returned (.bool true) ∧ Below w.heap.size w w' := by
  have hm : fs.length = es.length := by
    have h := congrArg List.length hc
    simpa using h.symm
  have HEC := Lib.hid hE.1
  have HFC := Lib.hid hF.1
  have HAT : Hid (∀ k, k < es.length → ∃ t d s n a1 c1 a2 c2 vs, es[k]? = some ⟨t, d, s, n, a1, c1, vs⟩ ∧ fs[k]? = some ⟨t, d, s, n, a2, c2, vs⟩ ∧ VRow w a1 vs ∧ VRow w a2 vs ∧ vs.length ≤ maxLen) := fun k hk => by
    obtain ⟨x, hx⟩ : ∃ x, es[k]? = some x := ⟨_, List.getElem?_eq_getElem hk⟩
    obtain ⟨y, hy⟩ : ∃ y, fs[k]? = some y := ⟨_, List.getElem?_eq_getElem (by rw [hm]; exact hk)⟩
    have h1 : (es.map EIn.core)[k]? = some x.core := by rw [List.getElem?_map, hx]; rfl
    have h2 : (es.map EIn.core)[k]? = some y.core := by rw [hc, List.getElem?_map, hy]; rfl
    rw [h1] at h2
    injection h2 with h2
    have hvx := (hE.2 x (List.mem_of_getElem? hx))
    have hvy := (hF.2 y (List.mem_of_getElem? hy)).1
    obtain ⟨t, d, s, n, a1, c1, vs⟩ := x
    obtain ⟨t', d', s', n', a2, c2, vs'⟩ := y
    simp only [EIn.core, Prod.mk.injEq] at h2
    obtain ⟨rfl, rfl, rfl, rfl, rfl⟩ := h2
    exact ⟨t, d, s, n, a1, c1, a2, c2, vs, hx, hy, hvx.1, hvy, hvx.2.1⟩
  rw [hm]
  obtain ⟨l, hll⟩ : ∃ l, es.length = l := ⟨_, rfl⟩
  rw [hll] at hN HAT ⊢
  have ht : ((l : Int) != (l : Int)) = false := by simp
  clear hE hF hc hm hll
  go_enter Try.func42, Try.ntmps42
  go_wp2
  go_loopw [5] (fun i wr => ∃ k : Nat, i = .int .i64 k ∧ k ≤ l ∧ Hid (Below w.heap.size w wr)) (fun i _ => l - (intOf i).toNat)
  case atStart => exact ⟨0, rfl, Nat.zero_le _, Below.refl _ _⟩
  case round =>
    obtain ⟨k, rfl, hk, HB⟩ := hrel
    by_cases hlt : k < l
    · obtain ⟨t, d, s, n, a1, c1, a2, c2, vs, hx, hy, h1, h2, h3⟩ := HAT.out k hlt
      obtain ⟨A, rfl, x0, x1, x2, x3, x4⟩ := (ECells.kept (T := fun _ _ => False) (OKp.of_below HB.out) HEC.out (fun _ _ _ _ h => h)) k _ hx
      obtain ⟨B, rfl, y0, y1, y2, y3, y4⟩ := (ECells.kept (T := fun _ _ => False) (OKp.of_below HB.out) HFC.out (fun _ _ _ _ h => h)) k _ hy
      unfold efld at x1 x2 x3 x4 y1 y2 y3 y4
      dsimp only at x0 x1 x2 x3 x4 y0 y1 y2 y3 y4
      have HS : Hid (∀ W, Below wr.heap.size wr W → Calls Try.prog 32 #[evV t d s n (.slice a1 vs.length c1), evV t d s n (.slice a2 vs.length c2)] W fun e w' => e = .returned (.bool true) ∧ Below W.heap.size W w') := fun W hW =>
        sameOne_calls t d s n a1 c1 a2 c2 vs W ((h1.below HB.out).below hW) ((h2.below HB.out).below hW) h3
      have hk0 : (0 : Int) ≤ (k : Int) := by omega
      have hk1 : (k : Int) < (l : Int) := by omega
      obtain ⟨q, hq⟩ : ∃ q, vs.length = q := ⟨_, rfl⟩
      rw [hq] at x4 y4 HS
      clear hx hy h1 h2 h3 hq HAT
      go_upto_region 6 with fail
      go_region_with (go_at_call 32; (with_reducible refine (HS.out _ (vbelow_drew (Below.refl _ _))).mono ?_); rintro e w2 ⟨rfl, hb2⟩; have HB2 : Hid (Below wr.heap.size wr w2) := below_as hb2 rfl rfl rfl rfl; clear hb2)
      all_goals
        (go_wp2
         go_roundw
         case rel => exact ⟨k + 1, by go_num, by omega, HB.out.trans (HB2.out.mono HB.out.size)⟩
         case measure => simp [intOf]; omega)
    · go_wp2
      go_ret
      exact ⟨rfl, HB.out⟩

theorem ERow.ev {w : World} {own : Nat → Nat} {v : Value} {N : List Core} (h : ERow w own v N) (hr : ∀ c ∈ N, rightC c = true) : ∃ a c es, v = .slice a es.length c ∧ EvRow w a es ∧ es.map EIn.core = N := by
  obtain ⟨es, hE, rfl⟩ := h
  obtain ⟨a, c, e, hc⟩ := hE.slice
  refine ⟨a, c, es, e, ⟨hc, fun x hx => ⟨(hE.vals x hx).1, ?_⟩⟩, rfl⟩
  have hrx := rightE_iff.1 (hr x.core (List.mem_map_of_mem hx))
  refine ⟨?_, ?_⟩
  · have h5 : x.vs.length ≤ 8 := by simpa [pe, EIn.core] using hrx.2.2.2.2.1
    unfold maxLen
    omega
  · have h6 := (wordB_len hrx.2.2.2.1).2
    have h7 : x.nm.size ≤ 16 := by simpa [pe, EIn.core] using h6
    unfold maxLen
    omega

/-- Owners 5 and 6 renamed. -/
def ren (own : Nat → Nat) (b : Nat) : Nat := if own b = 5 ∨ own b = 6 then 7 else own b
theorem ren_is {own : Nat → Nat} {b k : Nat} (h : own b = k) (hk : k ≠ 5 ∧ k ≠ 6) : ren own b = k := by
  unfold ren
  rw [if_neg (by omega)]
  exact h

/-- What is held while calls come. -/
structure PlS (w wr : World) (own : Nat → Nat) (bb rb : Nat) (T : Int) (M : List Core) : Prop where
  a : OBk wr own 1 bb T M
  o : OWd w wr own
  r : RBuf wr own rb T M
  n : No56 wr own
theorem PlS.below {w wr w' : World} {own : Nat → Nat} {bb rb : Nat} {T : Int} {M : List Core} (h : PlS w wr own bb rb T M) (hb : Below wr.heap.size wr w') : PlS w w' own bb rb T M := ⟨h.a.below hb, h.o.below hb, h.r.below hb, h.n.grow h.o.oz⟩

theorem OBk.ren {w : World} {own : Nat → Nat} {bb : Nat} {T : Int} {M : List Core} (h : OBk w own 1 bb T M) : OBk w (ren own) 1 bb T M := by
  obtain ⟨L, h1, h2⟩ := h.ex
  obtain ⟨v, e1, e2, e3⟩ := h1.blk
  exact ⟨⟨L, ⟨⟨v, e1, e2, fun g hg => ren_is (e3 g hg) (by decide)⟩, ren_is h1.obb (by decide), fun x hx => ⟨(h1.vals x hx).1, fun A hA => ⟨((h1.vals x hx).2.1 A hA).1, ren_is ((h1.vals x hx).2.1 A hA).2 (by decide)⟩, (h1.vals x hx).2.2⟩, h1.sort, h1.len⟩, h2⟩⟩
theorem RBuf.ren {w : World} {own : Nat → Nat} {bb : Nat} {T : Int} {M : List Core} (h : RBuf w own bb T M) : RBuf w (ren own) bb T M := by
  obtain ⟨va, vc, es, h1, h2, h3⟩ := h.ex
  exact ⟨⟨va, vc, es, h1, ⟨h2.row, fun g hg => ren_is (h2.own' g hg) (by decide), fun x hx => ⟨(h2.vals x hx).1, fun A hA hn => ⟨((h2.vals x hx).2.1 A hA hn).1, ren_is ((h2.vals x hx).2.1 A hA hn).2 (by decide)⟩, (h2.vals x hx).2.2⟩⟩, h3⟩, ren_is h.obb (by decide), h.sort, h.right, h.len, h.time⟩
theorem OWd.ren {w0 w : World} {own : Nat → Nat} (h : OWd w0 w own) : OWd w0 w (ren own) := ⟨fun b hb => ren_is (h.oz b hb) (by decide), h.hb, fun b hb => ren_is (h.zo b hb) (by decide)⟩
theorem No56.ren (w : World) (own : Nat → Nat) : No56 w (Go.Proofs.Ytfmlgckfcclojaa.ren own) := fun b _ => by
  unfold Go.Proofs.Ytfmlgckfcclojaa.ren
  split
  · decide
  · omega

end Go.Proofs.Ytfmlgckfcclojaa
namespace Go.Proofs.Ytfmlgckfcclojaa
open Go.RowKit Go.Lib Go.Op

set_option maxHeartbeats 4000000 in
set_option maxRecDepth 100000 in
theorem rput_calls {w : World} {own : Nat → Nat} {bb : Nat} {T : Int} {M : List Core} (h : RBuf w own bb T M) (hz : OZ w own) (h56 : No56 w own) (y : EIn) (hy : Fit w own y) :
    Calls Try.prog 44 #[.pointer (some ⟨bb, 0, none⟩), y.v] w (RPutP w own bb T M y.core) := by
  obtain ⟨va, vc, es, hb, hr, hm⟩ := h.ex
  have hlen := h.len
  have htime := h.time
  have hnes : es.length = M.length := by rw [← hm, List.length_map]
  have hlt := (Array.getElem?_eq_some_iff.1 hb).1
  have HREF : Hid (∀ W z, Below w.heap.size w W → putCC T M y.core = z → z ≠ 0 → RPutP w own bb T M y.core (.returned (.int .i64 z)) W) := fun W z hW hp h0 => RPutP.refused h hz h56 hW hp h0
  have HEND : Hid (∀ w1 w' own9 oa oc os, Below w.heap.size w w1 → InsS w1 w' own own9 va vc es oa oc os → os = insR lessX es y → (∀ z ∈ M, lessC y.core z = true ∨ lessC z y.core = true) → putCC T M y.core = 0 → M.length < 256 → RPutP w own bb T M y.core (.returned (.int .i64 0)) (w'.setCell ⟨bb, 0, none⟩ (.slice oa os.length oc))) := fun w1 w' own9 oa oc os h1 h2 h3 h4 h5 h6 => rput_end h hz h56 hy hb hr hm h1 h2 h3 h4 h5 h6
  have HINS : Hid (∀ W, Below w.heap.size w W → Calls Try.prog 75 #[.slice va es.length vc, y.v] W (RInsP W own va vc es y)) := fun W hW => rinsert_calls (hr.below hW) (hz.step hW.size) (fun i hi => ((h56.grow hz : No56 W own) i hi).1) y ⟨hy.1.below hW, fun A hA hn => ⟨Nat.lt_of_lt_of_le (hy.2.1 A hA hn).1 hW.size, (hy.2.1 A hA hn).2⟩, hy.2.2⟩ (by omega)
  have HBB : Hid (∀ W, Below w.heap.size w W → W.heap[bb]? = some (.cells #[.slice va es.length vc, .int .i64 (T + 1)] 74 (0, 0))) := fun W hW => (hW.block bb hlt).trans hb
  have HZC : Hid (∀ W, Below w.heap.size w W → ECells W va es) := fun W hW => by
    obtain ⟨a', c', e1, h1⟩ := (hr.below hW).slice
    injection e1 with e1 _ _
    subst e1
    exact h1.1
  have HSO : Hid (M.Pairwise (fun a b => lessC a b = true)) := h.sort
  have Hm := Lib.hid hm
  obtain ⟨yt, yd, yq, yn, ya, yc, yv⟩ := y
  have hB0 : Below w.heap.size w (w.alloc (.cells #[.int .i64 yt, .int .i64 yd, .int .i64 yq, .string yn, .slice ya yv.length yc] 25)) := (Below.refl _ _).alloc (Nat.le_refl _) _
  have hnew : (w.alloc (.cells #[.int .i64 yt, .int .i64 yd, .int .i64 yq, .string yn, .slice ya yv.length yc] 25)).heap[w.heap.size]? = some (.cells #[.int .i64 yt, .int .i64 yd, .int .i64 yq, .string yn, .slice ya yv.length yc] 25 (0, 0)) := heap_alloc_new w _
  show Calls Try.prog 44 #[.pointer (some ⟨bb, 0, none⟩), evV yt yd yq yn (.slice ya yv.length yc)] w _
  have HINS : Hid (∀ W, Below w.heap.size w W → Calls Try.prog 75 #[.slice va es.length vc, evV yt yd yq yn (.slice ya yv.length yc)] W (RInsP W own va vc es ⟨yt, yd, yq, yn, ya, yc, yv⟩)) := HINS.out
  have HRR : Hid (∀ W, Below w.heap.size w W → Calls Try.prog 55 #[evV yt yd yq yn (.slice ya yv.length yc)] W fun e w' => e = .returned (.bool (rightC (EIn.core ⟨yt, yd, yq, yn, ya, yc, yv⟩))) ∧ Below W.heap.size W w') := fun W hW => rrightE_calls yt yd yq yn ya yc yv W hy.2.2.2 (hy.1.below hW) hy.2.2.1
  obtain ⟨yl, hyl⟩ : ∃ yl, yv.length = yl := ⟨_, rfl⟩
  rw [hyl] at hB0 hnew HINS HRR
  rw [hyl]
  obtain ⟨w1, hw1⟩ : ∃ w1, w.alloc (.cells #[.int .i64 yt, .int .i64 yd, .int .i64 yq, .string yn, .slice ya yl yc] 25) = w1 := ⟨_, rfl⟩
  rw [hw1] at hB0 hnew
  have HYB : Hid (∀ W, Below w1.heap.size w1 W → W.heap[w.heap.size]? = some (.cells #[.int .i64 yt, .int .i64 yd, .int .i64 yq, .string yn, .slice ya yl yc] 25 (0, 0))) := fun W hW => (hW.block _ (Array.getElem?_eq_some_iff.1 hnew).1).trans hnew
  have HB0 := Lib.hid hB0
  have HR := Lib.hid (HRR.out w1 hB0)
  obtain ⟨c, hc⟩ : ∃ c, EIn.core ⟨yt, yd, yq, yn, ya, yc, yv⟩ = c := ⟨_, rfl⟩
  have Hc := Lib.hid hc
  have Hct : Hid (c.1 = yt) := by rw [← hc]; rfl
  have HRC : Hid (∀ r, rightC c = r → (r = false → putCC T M c = 1)) := fun r e1 e2 => by unfold putCC; rw [if_neg (by rw [e1, e2]; decide)]
  rw [hc] at HREF HEND HR ⊢
  obtain ⟨n, hn⟩ : ∃ n, es.length = n := ⟨_, rfl⟩
  have Hn := Lib.hid hn
  rw [hn] at HBB HINS hnes
  have hn2 : n ≤ 256 := by omega
  have HnM : Hid (M.length = n) := hnes.symm
  obtain ⟨r, hrr⟩ : ∃ r, rightC c = r := ⟨_, rfl⟩
  have Hrr := Lib.hid hrr
  rw [hrr] at HR
  clear h hz h56 hy hb hr hm hlt hB0 hnew hyl HRR hc hn hnes hlen hrr
  have hyb9 := HYB.out w1 (Below.refl _ _)
  have y0 : w1.cell? ⟨w.heap.size, 0, none⟩ = some (.int .i64 yt) := fcell_of_blk hyb9 rfl
  have y1 : w1.cell? ⟨w.heap.size, 1, none⟩ = some (.int .i64 yd) := fcell_of_blk hyb9 rfl
  have y2 : w1.cell? ⟨w.heap.size, 2, none⟩ = some (.int .i64 yq) := fcell_of_blk hyb9 rfl
  have y3 : w1.cell? ⟨w.heap.size, 3, none⟩ = some (.string yn) := fcell_of_blk hyb9 rfl
  have y4 : w1.cell? ⟨w.heap.size, 4, none⟩ = some (.slice ya yl yc) := fcell_of_blk hyb9 rfl
  clear hyb9
  go_enter Try.func44, Try.ntmps44
  go_wp2_with fail
  try rw [hw1]
  clear hw1
  obtain ⟨yb, hyb⟩ : ∃ yb, w.heap.size = yb := ⟨_, rfl⟩
  rw [hyb] at HYB y0 y1 y2 y3 y4 ⊢
  clear hyb
  with_reducible refine HR.out.mono ?_
  rintro e w2 ⟨rfl, hb2⟩
  have HB2' := Lib.hid hb2
  clear HR hb2
  cases r with
  | false =>
    go_wp2
    go_ret
    exact HREF.out _ 1 (HB0.out.trans (HB2'.out.mono HB0.out.size)) (HRC.out _ Hrr.out rfl) (by decide)
  | true =>
  have HW2 := Lib.hid (HB0.out.trans (HB2'.out.mono HB0.out.size))
  clear y0 y1 y2 y3 y4
  have hyb9 : w2.drew.heap[yb]? = _ := HYB.out w2 HB2'.out
  have y0 : w2.drew.cell? ⟨yb, 0, none⟩ = some (.int .i64 yt) := fcell_of_blk hyb9 rfl
  have y1 : w2.drew.cell? ⟨yb, 1, none⟩ = some (.int .i64 yd) := fcell_of_blk hyb9 rfl
  have y2 : w2.drew.cell? ⟨yb, 2, none⟩ = some (.int .i64 yq) := fcell_of_blk hyb9 rfl
  have y3 : w2.drew.cell? ⟨yb, 3, none⟩ = some (.string yn) := fcell_of_blk hyb9 rfl
  have y4 : w2.drew.cell? ⟨yb, 4, none⟩ = some (.slice ya yl yc) := fcell_of_blk hyb9 rfl
  clear hyb9
  have hbb9 : w2.drew.heap[bb]? = _ := HBB.out w2 HW2.out
  have b1 : w2.drew.cell? ⟨bb, 1, none⟩ = some (.int .i64 (T + 1)) := fcell_of_blk hbb9 rfl
  have TB : Hid (Below w2.heap.size w2 w2.drew) := vbelow_drew (Below.refl _ _)
  clear hbb9
  obtain ⟨f, hf⟩ : ∃ f, decide (yt < T + 1) = f := ⟨_, rfl⟩
  have Hf := Lib.hid hf
  go_upto_region 3 with fail
  refine wp_region_held_drew (S := (fun W => W.cell? ⟨yb, 0, none⟩ = some (.int .i64 yt) ∧ W.cell? ⟨bb, 1, none⟩ = some (.int .i64 (T + 1)) ∧ Hid (Below w2.heap.size w2 W))) (by kernel_rfl) ⟨y0, b1, TB⟩ (fun hHeld => ?_)
  refine takeH 0 9 (v := ?vt0) rfl (by kernel_rfl) (by kernel_rfl) (by kernel_rfl) rfl (fun _ _ _ h => h) (by rfl) ?yt0 (by assumption) ?rt0
  case yt0 => (intro W hSw; (try dsimp only at hSw); go_simp; try with_reducible rfl)
  try simp only [Act.put, List.setIfInBounds_toArray, List.set_cons_zero, List.set_cons_succ]
  refine takeH 1 10 (v := ?vt1) rfl (by kernel_rfl) (by kernel_rfl) (by kernel_rfl) rfl (fun _ _ _ h => h) (by rfl) ?yt1 (by assumption) ?rt1
  case yt1 => (intro W hSw; (try dsimp only at hSw); go_simp; try with_reducible rfl)
  try simp only [Act.put, List.setIfInBounds_toArray, List.set_cons_zero, List.set_cons_succ]
  refine takeH 2 11 (v := ?vt2) rfl (by kernel_rfl) (by kernel_rfl) (by kernel_rfl) rfl (fun _ _ _ h => h) (by rfl) ?yt2 (by assumption) ?rt2
  case yt2 => (intro W hSw; (try dsimp only at hSw); go_simp; try with_reducible rfl)
  try simp only [Act.put, List.setIfInBounds_toArray, List.set_cons_zero, List.set_cons_succ]
  refine takeH 3 12 (v := ?vt3) rfl (by kernel_rfl) (by kernel_rfl) (by kernel_rfl) rfl (fun _ _ _ h => h) (by rfl) ?yt3 (by assumption) ?rt3
  case yt3 => (intro W hSw; (try dsimp only at hSw); go_simp; try with_reducible rfl)
  try simp only [Act.put, List.setIfInBounds_toArray, List.set_cons_zero, List.set_cons_succ]
  refine takeH 4 13 (v := ?vt4) rfl (by kernel_rfl) (by kernel_rfl) (by kernel_rfl) rfl (fun _ _ _ h => h) (by rfl) ?yt4 (by assumption) ?rt4
  case yt4 => (intro W hSw; (try dsimp only at hSw); go_simp; try with_reducible rfl)
  try simp only [Act.put, List.setIfInBounds_toArray, List.set_cons_zero, List.set_cons_succ]
  refine takeH 5 14 (v := ?vt5) rfl (by kernel_rfl) (by kernel_rfl) (by kernel_rfl) rfl (fun _ _ _ h => h) (by rfl) ?yt5 (by assumption) ?rt5
  case yt5 => (intro W hSw; (try dsimp only at hSw); go_simp; try with_reducible rfl)
  try simp only [Act.put, List.setIfInBounds_toArray, List.set_cons_zero, List.set_cons_succ]
  refine takeH 6 15 (v := ?vt6) rfl (by kernel_rfl) (by kernel_rfl) (by kernel_rfl) rfl (fun _ _ _ h => h) (by rfl) ?yt6 (by assumption) ?rt6
  case yt6 => (intro W hSw; (try dsimp only at hSw); go_simp; try with_reducible rfl)
  try simp only [Act.put, List.setIfInBounds_toArray, List.set_cons_zero, List.set_cons_succ]
  refine wpAnyH_done (by kernel_rfl) ?_ _
  clear hf
  cases f with
  | true =>
    go_wp2
    go_ret
    exact HREF.out _ 61 (HW2.out.trans (TB.out.mono HW2.out.size)) (by
      have h1 : yt < T + 1 := of_decide_eq_true Hf.out
      unfold putCC
      rw [if_pos Hrr.out, if_pos (by rw [Hct.out]; omega)]) (by decide)
  | false =>
  have hT : Hid (¬ c.1 ≤ T) := by
    have h1 : ¬ yt < T + 1 := of_decide_eq_false Hf.out
    show ¬ _
    rw [Hct.out]
    omega
  have HB3 : Hid (Below w1.heap.size w1 w2.drew) := HB2'.out.trans (TB.out.mono HB2'.out.size)
  have HLN : Hid (∀ W, Below w1.heap.size w1 W → W.cell? ⟨bb, 0, none⟩ = some (.slice va n vc)) := fun W hW => fcell_of_blk (HBB.out W (HB0.out.trans (hW.mono HB0.out.size))) rfl
  clear y0 y1 y2 y3 y4 b1 TB HW2 HB2' hHeld
  go_wp2_with fail
  go_loopw [5] (fun i wr => ∃ (k : Nat), i = .int .i64 k ∧ k ≤ n ∧ Hid (Below w1.heap.size w1 wr) ∧ Hid (∀ (j : Nat) (z : EIn), j < k → es[j]? = some z → lessC c z.core = true ∨ lessC z.core c = true)) (fun i _ => n - (intOf i).toNat)
  case atStart => exact ⟨0, rfl, Nat.zero_le _, HB3, fun j z hj => absurd hj (Nat.not_lt_zero _)⟩
  case round =>
    obtain ⟨k, rfl, hk, HB, HA⟩ := hrel
    have b0 := HLN.out wr HB.out
    have HWr := Lib.hid (HB0.out.trans (HB.out.mono HB0.out.size))
    by_cases hlt : k < n
    · obtain ⟨z, hzk⟩ : ∃ z, es[k]? = some z := ⟨_, List.getElem?_eq_getElem (by rw [Hn.out]; exact hlt)⟩
      obtain ⟨A, rfl, z0, z1, z2, z3, z4⟩ := HZC.out wr HWr.out k z hzk
      have HK := Lib.hid hzk
      obtain ⟨zt, zd, zq, zn, za, zc, zv⟩ := z
      dsimp only at z0 z1 z2 z3 z4
      unfold efld at z1 z2 z3 z4
      obtain ⟨zl, hzl⟩ : ∃ zl, zv.length = zl := ⟨_, rfl⟩
      rw [hzl] at z4
      obtain ⟨g, hg⟩ : ∃ g, lessE yt yd yq zt zd zq = g := ⟨_, rfl⟩
      obtain ⟨g2, hg2⟩ : ∃ g, lessE zt zd zq yt yd yq = g := ⟨_, rfl⟩
      have HS : Hid (∀ W, Calls Try.prog 34 #[evV yt yd yq yn (.slice ya yl yc), evV zt zd zq zn (.slice za zl zc)] W fun e w' => e = .returned (.bool g) ∧ Below W.heap.size W w') := fun W => by
        have h := oless_calls yt yd yq yn (.slice ya yl yc) zt zd zq zn (.slice za zl zc) ⟨_, _, _, rfl⟩ ⟨_, _, _, rfl⟩ W
        rw [hg] at h
        exact h
      have HS2 : Hid (∀ W, Calls Try.prog 34 #[evV zt zd zq zn (.slice za zl zc), evV yt yd yq yn (.slice ya yl yc)] W fun e w' => e = .returned (.bool g2) ∧ Below W.heap.size W w') := fun W => by
        have h := oless_calls zt zd zq zn (.slice za zl zc) yt yd yq yn (.slice ya yl yc) ⟨_, _, _, rfl⟩ ⟨_, _, _, rfl⟩ W
        rw [hg2] at h
        exact h
      have HG : Hid (lessC c (EIn.core ⟨zt, zd, zq, zn, za, zc, zv⟩) = g ∧ lessC (EIn.core ⟨zt, zd, zq, zn, za, zc, zv⟩) c = g2) := by
        rw [← Hc.out]
        exact ⟨hg, hg2⟩
      have HN : Hid ((g = true ∨ g2 = true) → ∀ (j : Nat) (x : EIn), j < k + 1 → es[j]? = some x → lessC c x.core = true ∨ lessC x.core c = true) := fun ho j x hj hx => by
        by_cases e : j = k
        · subst e
          rw [HK.out] at hx
          injection hx with hx
          subst hx
          rw [HG.out.1, HG.out.2]
          exact ho
        · exact HA.out j x (by omega) hx
      have HTH : Hid (g = false → g2 = false → putCC T M c = 151) := fun e1 e2 => put_there HSO.out Hrr.out (by have := hT.out; omega) (z := EIn.core ⟨zt, zd, zq, zn, za, zc, zv⟩) (by rw [← Hm.out]; exact List.mem_map_of_mem (List.mem_of_getElem? HK.out)) (HG.out.1.trans e1) (HG.out.2.trans e2)
      have hyb9 := HYB.out wr HB.out
      have y0 : wr.cell? ⟨yb, 0, none⟩ = some (.int .i64 yt) := fcell_of_blk hyb9 rfl
      have y1 : wr.cell? ⟨yb, 1, none⟩ = some (.int .i64 yd) := fcell_of_blk hyb9 rfl
      have y2 : wr.cell? ⟨yb, 2, none⟩ = some (.int .i64 yq) := fcell_of_blk hyb9 rfl
      have y3 : wr.cell? ⟨yb, 3, none⟩ = some (.string yn) := fcell_of_blk hyb9 rfl
      have y4 : wr.cell? ⟨yb, 4, none⟩ = some (.slice ya yl yc) := fcell_of_blk hyb9 rfl
      clear hyb9
      have hk0 : (0 : Int) ≤ (k : Int) := by omega
      have hk1 : (k : Int) < (n : Int) := by omega
      clear hzk hzl hg hg2
      cases g with
      | true =>
        go_upto_region 8 with fail
        refine wp_region_held_drew (S := (fun W => W.cell? ⟨yb, 0, none⟩ = some (.int .i64 yt) ∧ W.cell? ⟨yb, 1, none⟩ = some (.int .i64 yd) ∧ W.cell? ⟨yb, 2, none⟩ = some (.int .i64 yq) ∧ W.cell? ⟨yb, 3, none⟩ = some (.string yn) ∧ W.cell? ⟨yb, 4, none⟩ = some (.slice ya yl yc) ∧ W.cell? (A.add (k * 5)) = some (.int .i64 zt) ∧ W.cell? ⟨(A.add (k * 5)).block, (A.add (k * 5)).off + 1, none⟩ = some (.int .i64 zd) ∧ W.cell? ⟨(A.add (k * 5)).block, (A.add (k * 5)).off + 2, none⟩ = some (.int .i64 zq) ∧ W.cell? ⟨(A.add (k * 5)).block, (A.add (k * 5)).off + 3, none⟩ = some (.string zn) ∧ W.cell? ⟨(A.add (k * 5)).block, (A.add (k * 5)).off + 4, none⟩ = some (.slice za zl zc) ∧ W.cell? ⟨bb, 0, none⟩ = some (.slice (some A) n vc) ∧ Hid (Below wr.heap.size wr W))) (by kernel_rfl) ⟨y0, y1, y2, y3, y4, z0, z1, z2, z3, z4, b0, vbelow_drew (Below.refl _ _)⟩ (fun hHeld => ?_)
        refine takeH 0 25 (v := ?va0) rfl (by kernel_rfl) (by kernel_rfl) (by kernel_rfl) rfl (fun _ _ _ h => h) (by rfl) ?ya0 (by assumption) ?ra0
        case ya0 => (intro W hSw; (try dsimp only at hSw); go_simp; try with_reducible rfl)
        try simp only [Act.put, List.setIfInBounds_toArray, List.set_cons_zero, List.set_cons_succ]
        refine takeH 1 26 (v := ?va1) rfl (by kernel_rfl) (by kernel_rfl) (by kernel_rfl) rfl (fun _ _ _ h => h) (by rfl) ?ya1 (by assumption) ?ra1
        case ya1 => (intro W hSw; (try dsimp only at hSw); go_simp; try with_reducible rfl)
        try simp only [Act.put, List.setIfInBounds_toArray, List.set_cons_zero, List.set_cons_succ]
        refine takeH 2 27 (v := ?va2) rfl (by kernel_rfl) (by kernel_rfl) (by kernel_rfl) rfl (fun _ _ _ h => h) (by rfl) ?ya2 (by assumption) ?ra2
        case ya2 => (intro W hSw; (try dsimp only at hSw); go_simp; try with_reducible rfl)
        try simp only [Act.put, List.setIfInBounds_toArray, List.set_cons_zero, List.set_cons_succ]
        refine takeH 3 28 (v := ?va3) rfl (by kernel_rfl) (by kernel_rfl) (by kernel_rfl) rfl (fun _ _ _ h => h) (by rfl) ?ya3 (by assumption) ?ra3
        case ya3 => (intro W hSw; (try dsimp only at hSw); go_simp; try with_reducible rfl)
        try simp only [Act.put, List.setIfInBounds_toArray, List.set_cons_zero, List.set_cons_succ]
        refine takeH 4 29 (v := ?va4) rfl (by kernel_rfl) (by kernel_rfl) (by kernel_rfl) rfl (fun _ _ _ h => h) (by rfl) ?ya4 (by assumption) ?ra4
        case ya4 => (intro W hSw; (try dsimp only at hSw); go_simp; try with_reducible rfl)
        try simp only [Act.put, List.setIfInBounds_toArray, List.set_cons_zero, List.set_cons_succ]
        refine takeH 5 30 (v := ?va5) rfl (by kernel_rfl) (by kernel_rfl) (by kernel_rfl) rfl (fun _ _ _ h => h) (by rfl) ?ya5 (by assumption) ?ra5
        case ya5 => (intro W hSw; (try dsimp only at hSw); go_simp; try with_reducible rfl)
        try simp only [Act.put, List.setIfInBounds_toArray, List.set_cons_zero, List.set_cons_succ]
        refine takeH 6 31 (v := ?va6) rfl (by kernel_rfl) (by kernel_rfl) (by kernel_rfl) rfl (fun _ _ _ h => h) (by rfl) ?ya6 (by assumption) ?ra6
        case ya6 => (intro W hSw; (try dsimp only at hSw); go_simp; try with_reducible rfl)
        try simp only [Act.put, List.setIfInBounds_toArray, List.set_cons_zero, List.set_cons_succ]
        refine takeH 7 32 (v := ?va7) rfl (by kernel_rfl) (by kernel_rfl) (by kernel_rfl) rfl (fun _ _ _ h => h) (by rfl) ?ya7 (by assumption) ?ra7
        case ya7 => (intro W hSw; (try dsimp only at hSw); go_simp; try with_reducible rfl)
        try simp only [Act.put, List.setIfInBounds_toArray, List.set_cons_zero, List.set_cons_succ]
        refine wpAnyH_ready (rs := [8]) (by kernel_rfl) (by simp) ?_
        refine AllReadyH.cons (o := _) rfl (fun K hK => ?_) AllReadyH.nil
        dsimp only [List.getElem_toArray, List.getElem_cons_succ, List.getElem_cons_zero]
        go_simp
        go_at_call 34
        (with_reducible refine (HS.out _).mono ?_)
        rintro e w2 ⟨rfl, hb2⟩
        have HB2 := Lib.hid (hHeld.2.2.2.2.2.2.2.2.2.2.2.out.trans (hb2.mono hHeld.2.2.2.2.2.2.2.2.2.2.2.out.size))
        go_wp2_with fail
        refine hK.out _ _ ⟨ekeep hb2 hHeld.1, ekeep hb2 hHeld.2.1, ekeep hb2 hHeld.2.2.1, ekeep hb2 hHeld.2.2.2.1, ekeep hb2 hHeld.2.2.2.2.1, ekeep hb2 hHeld.2.2.2.2.2.1, ekeep hb2 hHeld.2.2.2.2.2.2.1, ekeep hb2 hHeld.2.2.2.2.2.2.2.1, ekeep hb2 hHeld.2.2.2.2.2.2.2.2.1, ekeep hb2 hHeld.2.2.2.2.2.2.2.2.2.1, ekeep hb2 hHeld.2.2.2.2.2.2.2.2.2.2.1, HB2⟩ (fun hHeld => ?_)
        clear hK K
        try simp only [Act.put, List.setIfInBounds_toArray, List.set_cons_zero, List.set_cons_succ]
        refine takeH 9 34 (v := ?va9) rfl (by kernel_rfl) (by kernel_rfl) (by kernel_rfl) rfl (fun _ _ _ h => h) (by rfl) ?ya9 (by assumption) ?ra9
        case ya9 => (intro W hSw; (try dsimp only at hSw); go_simp; try with_reducible rfl)
        try simp only [Act.put, List.setIfInBounds_toArray, List.set_cons_zero, List.set_cons_succ]
        refine takeH 10 35 (v := ?va10) rfl (by kernel_rfl) (by kernel_rfl) (by kernel_rfl) rfl (fun _ _ _ h => h) (by rfl) ?ya10 (by assumption) ?ra10
        case ya10 => (intro W hSw; (try dsimp only at hSw); go_simp; try with_reducible rfl)
        try simp only [Act.put, List.setIfInBounds_toArray, List.set_cons_zero, List.set_cons_succ]
        refine passH 11 36 (by kernel_rfl) (by kernel_rfl) (by kernel_rfl) (by kernel_rfl) (by rfl) (fun _ _ _ h => h) (by assumption) ?_
        try simp only [Act.put, List.setIfInBounds_toArray, List.set_cons_zero, List.set_cons_succ]
        refine passH 12 37 (by kernel_rfl) (by kernel_rfl) (by kernel_rfl) (by kernel_rfl) (by rfl) (fun _ _ _ h => h) (by assumption) ?_
        try simp only [Act.put, List.setIfInBounds_toArray, List.set_cons_zero, List.set_cons_succ]
        refine passH 13 38 (by kernel_rfl) (by kernel_rfl) (by kernel_rfl) (by kernel_rfl) (by rfl) (fun _ _ _ h => h) (by assumption) ?_
        try simp only [Act.put, List.setIfInBounds_toArray, List.set_cons_zero, List.set_cons_succ]
        refine passH 14 39 (by kernel_rfl) (by kernel_rfl) (by kernel_rfl) (by kernel_rfl) (by rfl) (fun _ _ _ h => h) (by assumption) ?_
        try simp only [Act.put, List.setIfInBounds_toArray, List.set_cons_zero, List.set_cons_succ]
        refine passH 15 40 (by kernel_rfl) (by kernel_rfl) (by kernel_rfl) (by kernel_rfl) (by rfl) (fun _ _ _ h => h) (by assumption) ?_
        try simp only [Act.put, List.setIfInBounds_toArray, List.set_cons_zero, List.set_cons_succ]
        refine passH 16 41 (by kernel_rfl) (by kernel_rfl) (by kernel_rfl) (by kernel_rfl) (by rfl) (fun _ _ _ h => h) (by assumption) ?_
        try simp only [Act.put, List.setIfInBounds_toArray, List.set_cons_zero, List.set_cons_succ]
        refine passH 17 42 (by kernel_rfl) (by kernel_rfl) (by kernel_rfl) (by kernel_rfl) (by rfl) (fun _ _ _ h => h) (by assumption) ?_
        try simp only [Act.put, List.setIfInBounds_toArray, List.set_cons_zero, List.set_cons_succ]
        refine passH 18 43 (by kernel_rfl) (by kernel_rfl) (by kernel_rfl) (by kernel_rfl) (by rfl) (fun _ _ _ h => h) (by assumption) ?_
        try simp only [Act.put, List.setIfInBounds_toArray, List.set_cons_zero, List.set_cons_succ]
        refine passH 19 44 (by kernel_rfl) (by kernel_rfl) (by kernel_rfl) (by kernel_rfl) (by rfl) (fun _ _ _ h => h) (by assumption) ?_
        try simp only [Act.put, List.setIfInBounds_toArray, List.set_cons_zero, List.set_cons_succ]
        refine passH 20 45 (by kernel_rfl) (by kernel_rfl) (by kernel_rfl) (by kernel_rfl) (by rfl) (fun _ _ _ h => h) (by assumption) ?_
        try simp only [Act.put, List.setIfInBounds_toArray, List.set_cons_zero, List.set_cons_succ]
        refine takeH 21 46 (v := ?va21) rfl (by kernel_rfl) (by kernel_rfl) (by kernel_rfl) rfl (fun _ _ _ h => h) (by rfl) ?ya21 (by assumption) ?ra21
        case ya21 => (intro W hSw; (try dsimp only at hSw); go_simp; try with_reducible rfl)
        try simp only [Act.put, List.setIfInBounds_toArray, List.set_cons_zero, List.set_cons_succ]
        refine wpAnyH_done (by kernel_rfl) ?_ _
        go_wp2
        go_roundw
        case rel => exact ⟨k + 1, by go_num, by omega, HB.out.trans (HB2.out.mono HB.out.size), HN.out (by simp)⟩
        case measure => simp [intOf]; omega
      | false =>
        cases g2 with
        | true =>
          go_upto_region 8 with fail
          refine wp_region_held_drew (S := (fun W => W.cell? ⟨yb, 0, none⟩ = some (.int .i64 yt) ∧ W.cell? ⟨yb, 1, none⟩ = some (.int .i64 yd) ∧ W.cell? ⟨yb, 2, none⟩ = some (.int .i64 yq) ∧ W.cell? ⟨yb, 3, none⟩ = some (.string yn) ∧ W.cell? ⟨yb, 4, none⟩ = some (.slice ya yl yc) ∧ W.cell? (A.add (k * 5)) = some (.int .i64 zt) ∧ W.cell? ⟨(A.add (k * 5)).block, (A.add (k * 5)).off + 1, none⟩ = some (.int .i64 zd) ∧ W.cell? ⟨(A.add (k * 5)).block, (A.add (k * 5)).off + 2, none⟩ = some (.int .i64 zq) ∧ W.cell? ⟨(A.add (k * 5)).block, (A.add (k * 5)).off + 3, none⟩ = some (.string zn) ∧ W.cell? ⟨(A.add (k * 5)).block, (A.add (k * 5)).off + 4, none⟩ = some (.slice za zl zc) ∧ W.cell? ⟨bb, 0, none⟩ = some (.slice (some A) n vc) ∧ Hid (Below wr.heap.size wr W))) (by kernel_rfl) ⟨y0, y1, y2, y3, y4, z0, z1, z2, z3, z4, b0, vbelow_drew (Below.refl _ _)⟩ (fun hHeld => ?_)
          refine takeH 0 25 (v := ?vb0) rfl (by kernel_rfl) (by kernel_rfl) (by kernel_rfl) rfl (fun _ _ _ h => h) (by rfl) ?yb0 (by assumption) ?rb0
          case yb0 => (intro W hSw; (try dsimp only at hSw); go_simp; try with_reducible rfl)
          try simp only [Act.put, List.setIfInBounds_toArray, List.set_cons_zero, List.set_cons_succ]
          refine takeH 1 26 (v := ?vb1) rfl (by kernel_rfl) (by kernel_rfl) (by kernel_rfl) rfl (fun _ _ _ h => h) (by rfl) ?yb1 (by assumption) ?rb1
          case yb1 => (intro W hSw; (try dsimp only at hSw); go_simp; try with_reducible rfl)
          try simp only [Act.put, List.setIfInBounds_toArray, List.set_cons_zero, List.set_cons_succ]
          refine takeH 2 27 (v := ?vb2) rfl (by kernel_rfl) (by kernel_rfl) (by kernel_rfl) rfl (fun _ _ _ h => h) (by rfl) ?yb2 (by assumption) ?rb2
          case yb2 => (intro W hSw; (try dsimp only at hSw); go_simp; try with_reducible rfl)
          try simp only [Act.put, List.setIfInBounds_toArray, List.set_cons_zero, List.set_cons_succ]
          refine takeH 3 28 (v := ?vb3) rfl (by kernel_rfl) (by kernel_rfl) (by kernel_rfl) rfl (fun _ _ _ h => h) (by rfl) ?yb3 (by assumption) ?rb3
          case yb3 => (intro W hSw; (try dsimp only at hSw); go_simp; try with_reducible rfl)
          try simp only [Act.put, List.setIfInBounds_toArray, List.set_cons_zero, List.set_cons_succ]
          refine takeH 4 29 (v := ?vb4) rfl (by kernel_rfl) (by kernel_rfl) (by kernel_rfl) rfl (fun _ _ _ h => h) (by rfl) ?yb4 (by assumption) ?rb4
          case yb4 => (intro W hSw; (try dsimp only at hSw); go_simp; try with_reducible rfl)
          try simp only [Act.put, List.setIfInBounds_toArray, List.set_cons_zero, List.set_cons_succ]
          refine takeH 5 30 (v := ?vb5) rfl (by kernel_rfl) (by kernel_rfl) (by kernel_rfl) rfl (fun _ _ _ h => h) (by rfl) ?yb5 (by assumption) ?rb5
          case yb5 => (intro W hSw; (try dsimp only at hSw); go_simp; try with_reducible rfl)
          try simp only [Act.put, List.setIfInBounds_toArray, List.set_cons_zero, List.set_cons_succ]
          refine takeH 6 31 (v := ?vb6) rfl (by kernel_rfl) (by kernel_rfl) (by kernel_rfl) rfl (fun _ _ _ h => h) (by rfl) ?yb6 (by assumption) ?rb6
          case yb6 => (intro W hSw; (try dsimp only at hSw); go_simp; try with_reducible rfl)
          try simp only [Act.put, List.setIfInBounds_toArray, List.set_cons_zero, List.set_cons_succ]
          refine takeH 7 32 (v := ?vb7) rfl (by kernel_rfl) (by kernel_rfl) (by kernel_rfl) rfl (fun _ _ _ h => h) (by rfl) ?yb7 (by assumption) ?rb7
          case yb7 => (intro W hSw; (try dsimp only at hSw); go_simp; try with_reducible rfl)
          try simp only [Act.put, List.setIfInBounds_toArray, List.set_cons_zero, List.set_cons_succ]
          refine wpAnyH_ready (rs := [8]) (by kernel_rfl) (by simp) ?_
          refine AllReadyH.cons (o := _) rfl (fun K hK => ?_) AllReadyH.nil
          dsimp only [List.getElem_toArray, List.getElem_cons_succ, List.getElem_cons_zero]
          go_simp
          go_at_call 34
          (with_reducible refine (HS.out _).mono ?_)
          rintro e w2 ⟨rfl, hb2⟩
          have HB2 := Lib.hid (hHeld.2.2.2.2.2.2.2.2.2.2.2.out.trans (hb2.mono hHeld.2.2.2.2.2.2.2.2.2.2.2.out.size))
          go_wp2_with fail
          refine hK.out _ _ ⟨ekeep hb2 hHeld.1, ekeep hb2 hHeld.2.1, ekeep hb2 hHeld.2.2.1, ekeep hb2 hHeld.2.2.2.1, ekeep hb2 hHeld.2.2.2.2.1, ekeep hb2 hHeld.2.2.2.2.2.1, ekeep hb2 hHeld.2.2.2.2.2.2.1, ekeep hb2 hHeld.2.2.2.2.2.2.2.1, ekeep hb2 hHeld.2.2.2.2.2.2.2.2.1, ekeep hb2 hHeld.2.2.2.2.2.2.2.2.2.1, ekeep hb2 hHeld.2.2.2.2.2.2.2.2.2.2.1, HB2⟩ (fun hHeld => ?_)
          clear hK K
          try simp only [Act.put, List.setIfInBounds_toArray, List.set_cons_zero, List.set_cons_succ]
          refine takeH 9 34 (v := ?vb9) rfl (by kernel_rfl) (by kernel_rfl) (by kernel_rfl) rfl (fun _ _ _ h => h) (by rfl) ?yb9 (by assumption) ?rb9
          case yb9 => (intro W hSw; (try dsimp only at hSw); go_simp; try with_reducible rfl)
          try simp only [Act.put, List.setIfInBounds_toArray, List.set_cons_zero, List.set_cons_succ]
          refine takeH 10 35 (v := ?vb10) rfl (by kernel_rfl) (by kernel_rfl) (by kernel_rfl) rfl (fun _ _ _ h => h) (by rfl) ?yb10 (by assumption) ?rb10
          case yb10 => (intro W hSw; (try dsimp only at hSw); go_simp; try with_reducible rfl)
          try simp only [Act.put, List.setIfInBounds_toArray, List.set_cons_zero, List.set_cons_succ]
          refine takeH 11 36 (v := ?vb11) rfl (by kernel_rfl) (by kernel_rfl) (by kernel_rfl) rfl (fun _ _ _ h => h) (by rfl) ?yb11 (by assumption) ?rb11
          case yb11 => (intro W hSw; (try dsimp only at hSw); go_simp; try with_reducible rfl)
          try simp only [Act.put, List.setIfInBounds_toArray, List.set_cons_zero, List.set_cons_succ]
          refine takeH 12 37 (v := ?vb12) rfl (by kernel_rfl) (by kernel_rfl) (by kernel_rfl) rfl (fun _ _ _ h => h) (by rfl) ?yb12 (by assumption) ?rb12
          case yb12 => (intro W hSw; (try dsimp only at hSw); go_simp; try with_reducible rfl)
          try simp only [Act.put, List.setIfInBounds_toArray, List.set_cons_zero, List.set_cons_succ]
          refine takeH 13 38 (v := ?vb13) rfl (by kernel_rfl) (by kernel_rfl) (by kernel_rfl) rfl (fun _ _ _ h => h) (by rfl) ?yb13 (by assumption) ?rb13
          case yb13 => (intro W hSw; (try dsimp only at hSw); go_simp; try with_reducible rfl)
          try simp only [Act.put, List.setIfInBounds_toArray, List.set_cons_zero, List.set_cons_succ]
          refine takeH 14 39 (v := ?vb14) rfl (by kernel_rfl) (by kernel_rfl) (by kernel_rfl) rfl (fun _ _ _ h => h) (by rfl) ?yb14 (by assumption) ?rb14
          case yb14 => (intro W hSw; (try dsimp only at hSw); go_simp; try with_reducible rfl)
          try simp only [Act.put, List.setIfInBounds_toArray, List.set_cons_zero, List.set_cons_succ]
          refine takeH 15 40 (v := ?vb15) rfl (by kernel_rfl) (by kernel_rfl) (by kernel_rfl) rfl (fun _ _ _ h => h) (by rfl) ?yb15 (by assumption) ?rb15
          case yb15 => (intro W hSw; (try dsimp only at hSw); go_simp; try with_reducible rfl)
          try simp only [Act.put, List.setIfInBounds_toArray, List.set_cons_zero, List.set_cons_succ]
          refine takeH 16 41 (v := ?vb16) rfl (by kernel_rfl) (by kernel_rfl) (by kernel_rfl) rfl (fun _ _ _ h => h) (by rfl) ?yb16 (by assumption) ?rb16
          case yb16 => (intro W hSw; (try dsimp only at hSw); go_simp; try with_reducible rfl)
          try simp only [Act.put, List.setIfInBounds_toArray, List.set_cons_zero, List.set_cons_succ]
          refine takeH 17 42 (v := ?vb17) rfl (by kernel_rfl) (by kernel_rfl) (by kernel_rfl) rfl (fun _ _ _ h => h) (by rfl) ?yb17 (by assumption) ?rb17
          case yb17 => (intro W hSw; (try dsimp only at hSw); go_simp; try with_reducible rfl)
          try simp only [Act.put, List.setIfInBounds_toArray, List.set_cons_zero, List.set_cons_succ]
          refine takeH 18 43 (v := ?vb18) rfl (by kernel_rfl) (by kernel_rfl) (by kernel_rfl) rfl (fun _ _ _ h => h) (by rfl) ?yb18 (by assumption) ?rb18
          case yb18 => (intro W hSw; (try dsimp only at hSw); go_simp; try with_reducible rfl)
          try simp only [Act.put, List.setIfInBounds_toArray, List.set_cons_zero, List.set_cons_succ]
          refine wpAnyH_ready (rs := [19]) (by kernel_rfl) (by simp) ?_
          refine AllReadyH.cons (o := _) rfl (fun K hK => ?_) AllReadyH.nil
          dsimp only [List.getElem_toArray, List.getElem_cons_succ, List.getElem_cons_zero]
          go_simp
          go_at_call 34
          (with_reducible refine (HS2.out _).mono ?_)
          rintro e w3 ⟨rfl, hb2⟩
          have HB3 := Lib.hid (hHeld.2.2.2.2.2.2.2.2.2.2.2.out.trans (hb2.mono hHeld.2.2.2.2.2.2.2.2.2.2.2.out.size))
          go_wp2_with fail
          refine hK.out _ _ ⟨ekeep hb2 hHeld.1, ekeep hb2 hHeld.2.1, ekeep hb2 hHeld.2.2.1, ekeep hb2 hHeld.2.2.2.1, ekeep hb2 hHeld.2.2.2.2.1, ekeep hb2 hHeld.2.2.2.2.2.1, ekeep hb2 hHeld.2.2.2.2.2.2.1, ekeep hb2 hHeld.2.2.2.2.2.2.2.1, ekeep hb2 hHeld.2.2.2.2.2.2.2.2.1, ekeep hb2 hHeld.2.2.2.2.2.2.2.2.2.1, ekeep hb2 hHeld.2.2.2.2.2.2.2.2.2.2.1, HB3⟩ (fun hHeld => ?_)
          clear hK K
          try simp only [Act.put, List.setIfInBounds_toArray, List.set_cons_zero, List.set_cons_succ]
          refine takeH 20 45 (v := ?vb20) rfl (by kernel_rfl) (by kernel_rfl) (by kernel_rfl) rfl (fun _ _ _ h => h) (by rfl) ?yb20 (by assumption) ?rb20
          case yb20 => (intro W hSw; (try dsimp only at hSw); go_simp; try with_reducible rfl)
          try simp only [Act.put, List.setIfInBounds_toArray, List.set_cons_zero, List.set_cons_succ]
          refine takeH 21 46 (v := ?vb21) rfl (by kernel_rfl) (by kernel_rfl) (by kernel_rfl) rfl (fun _ _ _ h => h) (by rfl) ?yb21 (by assumption) ?rb21
          case yb21 => (intro W hSw; (try dsimp only at hSw); go_simp; try with_reducible rfl)
          try simp only [Act.put, List.setIfInBounds_toArray, List.set_cons_zero, List.set_cons_succ]
          refine wpAnyH_done (by kernel_rfl) ?_ _
          go_wp2
          go_roundw
          case rel => exact ⟨k + 1, by go_num, by omega, HB.out.trans (HB3.out.mono HB.out.size), HN.out (by simp)⟩
          case measure => simp [intOf]; omega
        | false =>
          go_upto_region 8 with fail
          refine wp_region_held_drew (S := (fun W => W.cell? ⟨yb, 0, none⟩ = some (.int .i64 yt) ∧ W.cell? ⟨yb, 1, none⟩ = some (.int .i64 yd) ∧ W.cell? ⟨yb, 2, none⟩ = some (.int .i64 yq) ∧ W.cell? ⟨yb, 3, none⟩ = some (.string yn) ∧ W.cell? ⟨yb, 4, none⟩ = some (.slice ya yl yc) ∧ W.cell? (A.add (k * 5)) = some (.int .i64 zt) ∧ W.cell? ⟨(A.add (k * 5)).block, (A.add (k * 5)).off + 1, none⟩ = some (.int .i64 zd) ∧ W.cell? ⟨(A.add (k * 5)).block, (A.add (k * 5)).off + 2, none⟩ = some (.int .i64 zq) ∧ W.cell? ⟨(A.add (k * 5)).block, (A.add (k * 5)).off + 3, none⟩ = some (.string zn) ∧ W.cell? ⟨(A.add (k * 5)).block, (A.add (k * 5)).off + 4, none⟩ = some (.slice za zl zc) ∧ W.cell? ⟨bb, 0, none⟩ = some (.slice (some A) n vc) ∧ Hid (Below wr.heap.size wr W))) (by kernel_rfl) ⟨y0, y1, y2, y3, y4, z0, z1, z2, z3, z4, b0, vbelow_drew (Below.refl _ _)⟩ (fun hHeld => ?_)
          refine takeH 0 25 (v := ?vc0) rfl (by kernel_rfl) (by kernel_rfl) (by kernel_rfl) rfl (fun _ _ _ h => h) (by rfl) ?yc0 (by assumption) ?rc0
          case yc0 => (intro W hSw; (try dsimp only at hSw); go_simp; try with_reducible rfl)
          try simp only [Act.put, List.setIfInBounds_toArray, List.set_cons_zero, List.set_cons_succ]
          refine takeH 1 26 (v := ?vc1) rfl (by kernel_rfl) (by kernel_rfl) (by kernel_rfl) rfl (fun _ _ _ h => h) (by rfl) ?yc1 (by assumption) ?rc1
          case yc1 => (intro W hSw; (try dsimp only at hSw); go_simp; try with_reducible rfl)
          try simp only [Act.put, List.setIfInBounds_toArray, List.set_cons_zero, List.set_cons_succ]
          refine takeH 2 27 (v := ?vc2) rfl (by kernel_rfl) (by kernel_rfl) (by kernel_rfl) rfl (fun _ _ _ h => h) (by rfl) ?yc2 (by assumption) ?rc2
          case yc2 => (intro W hSw; (try dsimp only at hSw); go_simp; try with_reducible rfl)
          try simp only [Act.put, List.setIfInBounds_toArray, List.set_cons_zero, List.set_cons_succ]
          refine takeH 3 28 (v := ?vc3) rfl (by kernel_rfl) (by kernel_rfl) (by kernel_rfl) rfl (fun _ _ _ h => h) (by rfl) ?yc3 (by assumption) ?rc3
          case yc3 => (intro W hSw; (try dsimp only at hSw); go_simp; try with_reducible rfl)
          try simp only [Act.put, List.setIfInBounds_toArray, List.set_cons_zero, List.set_cons_succ]
          refine takeH 4 29 (v := ?vc4) rfl (by kernel_rfl) (by kernel_rfl) (by kernel_rfl) rfl (fun _ _ _ h => h) (by rfl) ?yc4 (by assumption) ?rc4
          case yc4 => (intro W hSw; (try dsimp only at hSw); go_simp; try with_reducible rfl)
          try simp only [Act.put, List.setIfInBounds_toArray, List.set_cons_zero, List.set_cons_succ]
          refine takeH 5 30 (v := ?vc5) rfl (by kernel_rfl) (by kernel_rfl) (by kernel_rfl) rfl (fun _ _ _ h => h) (by rfl) ?yc5 (by assumption) ?rc5
          case yc5 => (intro W hSw; (try dsimp only at hSw); go_simp; try with_reducible rfl)
          try simp only [Act.put, List.setIfInBounds_toArray, List.set_cons_zero, List.set_cons_succ]
          refine takeH 6 31 (v := ?vc6) rfl (by kernel_rfl) (by kernel_rfl) (by kernel_rfl) rfl (fun _ _ _ h => h) (by rfl) ?yc6 (by assumption) ?rc6
          case yc6 => (intro W hSw; (try dsimp only at hSw); go_simp; try with_reducible rfl)
          try simp only [Act.put, List.setIfInBounds_toArray, List.set_cons_zero, List.set_cons_succ]
          refine takeH 7 32 (v := ?vc7) rfl (by kernel_rfl) (by kernel_rfl) (by kernel_rfl) rfl (fun _ _ _ h => h) (by rfl) ?yc7 (by assumption) ?rc7
          case yc7 => (intro W hSw; (try dsimp only at hSw); go_simp; try with_reducible rfl)
          try simp only [Act.put, List.setIfInBounds_toArray, List.set_cons_zero, List.set_cons_succ]
          refine wpAnyH_ready (rs := [8]) (by kernel_rfl) (by simp) ?_
          refine AllReadyH.cons (o := _) rfl (fun K hK => ?_) AllReadyH.nil
          dsimp only [List.getElem_toArray, List.getElem_cons_succ, List.getElem_cons_zero]
          go_simp
          go_at_call 34
          (with_reducible refine (HS.out _).mono ?_)
          rintro e w2 ⟨rfl, hb2⟩
          have HB2 := Lib.hid (hHeld.2.2.2.2.2.2.2.2.2.2.2.out.trans (hb2.mono hHeld.2.2.2.2.2.2.2.2.2.2.2.out.size))
          go_wp2_with fail
          refine hK.out _ _ ⟨ekeep hb2 hHeld.1, ekeep hb2 hHeld.2.1, ekeep hb2 hHeld.2.2.1, ekeep hb2 hHeld.2.2.2.1, ekeep hb2 hHeld.2.2.2.2.1, ekeep hb2 hHeld.2.2.2.2.2.1, ekeep hb2 hHeld.2.2.2.2.2.2.1, ekeep hb2 hHeld.2.2.2.2.2.2.2.1, ekeep hb2 hHeld.2.2.2.2.2.2.2.2.1, ekeep hb2 hHeld.2.2.2.2.2.2.2.2.2.1, ekeep hb2 hHeld.2.2.2.2.2.2.2.2.2.2.1, HB2⟩ (fun hHeld => ?_)
          clear hK K
          try simp only [Act.put, List.setIfInBounds_toArray, List.set_cons_zero, List.set_cons_succ]
          refine takeH 9 34 (v := ?vc9) rfl (by kernel_rfl) (by kernel_rfl) (by kernel_rfl) rfl (fun _ _ _ h => h) (by rfl) ?yc9 (by assumption) ?rc9
          case yc9 => (intro W hSw; (try dsimp only at hSw); go_simp; try with_reducible rfl)
          try simp only [Act.put, List.setIfInBounds_toArray, List.set_cons_zero, List.set_cons_succ]
          refine takeH 10 35 (v := ?vc10) rfl (by kernel_rfl) (by kernel_rfl) (by kernel_rfl) rfl (fun _ _ _ h => h) (by rfl) ?yc10 (by assumption) ?rc10
          case yc10 => (intro W hSw; (try dsimp only at hSw); go_simp; try with_reducible rfl)
          try simp only [Act.put, List.setIfInBounds_toArray, List.set_cons_zero, List.set_cons_succ]
          refine takeH 11 36 (v := ?vc11) rfl (by kernel_rfl) (by kernel_rfl) (by kernel_rfl) rfl (fun _ _ _ h => h) (by rfl) ?yc11 (by assumption) ?rc11
          case yc11 => (intro W hSw; (try dsimp only at hSw); go_simp; try with_reducible rfl)
          try simp only [Act.put, List.setIfInBounds_toArray, List.set_cons_zero, List.set_cons_succ]
          refine takeH 12 37 (v := ?vc12) rfl (by kernel_rfl) (by kernel_rfl) (by kernel_rfl) rfl (fun _ _ _ h => h) (by rfl) ?yc12 (by assumption) ?rc12
          case yc12 => (intro W hSw; (try dsimp only at hSw); go_simp; try with_reducible rfl)
          try simp only [Act.put, List.setIfInBounds_toArray, List.set_cons_zero, List.set_cons_succ]
          refine takeH 13 38 (v := ?vc13) rfl (by kernel_rfl) (by kernel_rfl) (by kernel_rfl) rfl (fun _ _ _ h => h) (by rfl) ?yc13 (by assumption) ?rc13
          case yc13 => (intro W hSw; (try dsimp only at hSw); go_simp; try with_reducible rfl)
          try simp only [Act.put, List.setIfInBounds_toArray, List.set_cons_zero, List.set_cons_succ]
          refine takeH 14 39 (v := ?vc14) rfl (by kernel_rfl) (by kernel_rfl) (by kernel_rfl) rfl (fun _ _ _ h => h) (by rfl) ?yc14 (by assumption) ?rc14
          case yc14 => (intro W hSw; (try dsimp only at hSw); go_simp; try with_reducible rfl)
          try simp only [Act.put, List.setIfInBounds_toArray, List.set_cons_zero, List.set_cons_succ]
          refine takeH 15 40 (v := ?vc15) rfl (by kernel_rfl) (by kernel_rfl) (by kernel_rfl) rfl (fun _ _ _ h => h) (by rfl) ?yc15 (by assumption) ?rc15
          case yc15 => (intro W hSw; (try dsimp only at hSw); go_simp; try with_reducible rfl)
          try simp only [Act.put, List.setIfInBounds_toArray, List.set_cons_zero, List.set_cons_succ]
          refine takeH 16 41 (v := ?vc16) rfl (by kernel_rfl) (by kernel_rfl) (by kernel_rfl) rfl (fun _ _ _ h => h) (by rfl) ?yc16 (by assumption) ?rc16
          case yc16 => (intro W hSw; (try dsimp only at hSw); go_simp; try with_reducible rfl)
          try simp only [Act.put, List.setIfInBounds_toArray, List.set_cons_zero, List.set_cons_succ]
          refine takeH 17 42 (v := ?vc17) rfl (by kernel_rfl) (by kernel_rfl) (by kernel_rfl) rfl (fun _ _ _ h => h) (by rfl) ?yc17 (by assumption) ?rc17
          case yc17 => (intro W hSw; (try dsimp only at hSw); go_simp; try with_reducible rfl)
          try simp only [Act.put, List.setIfInBounds_toArray, List.set_cons_zero, List.set_cons_succ]
          refine takeH 18 43 (v := ?vc18) rfl (by kernel_rfl) (by kernel_rfl) (by kernel_rfl) rfl (fun _ _ _ h => h) (by rfl) ?yc18 (by assumption) ?rc18
          case yc18 => (intro W hSw; (try dsimp only at hSw); go_simp; try with_reducible rfl)
          try simp only [Act.put, List.setIfInBounds_toArray, List.set_cons_zero, List.set_cons_succ]
          refine wpAnyH_ready (rs := [19]) (by kernel_rfl) (by simp) ?_
          refine AllReadyH.cons (o := _) rfl (fun K hK => ?_) AllReadyH.nil
          dsimp only [List.getElem_toArray, List.getElem_cons_succ, List.getElem_cons_zero]
          go_simp
          go_at_call 34
          (with_reducible refine (HS2.out _).mono ?_)
          rintro e w3 ⟨rfl, hb2⟩
          have HB3 := Lib.hid (hHeld.2.2.2.2.2.2.2.2.2.2.2.out.trans (hb2.mono hHeld.2.2.2.2.2.2.2.2.2.2.2.out.size))
          go_wp2_with fail
          refine hK.out _ _ ⟨ekeep hb2 hHeld.1, ekeep hb2 hHeld.2.1, ekeep hb2 hHeld.2.2.1, ekeep hb2 hHeld.2.2.2.1, ekeep hb2 hHeld.2.2.2.2.1, ekeep hb2 hHeld.2.2.2.2.2.1, ekeep hb2 hHeld.2.2.2.2.2.2.1, ekeep hb2 hHeld.2.2.2.2.2.2.2.1, ekeep hb2 hHeld.2.2.2.2.2.2.2.2.1, ekeep hb2 hHeld.2.2.2.2.2.2.2.2.2.1, ekeep hb2 hHeld.2.2.2.2.2.2.2.2.2.2.1, HB3⟩ (fun hHeld => ?_)
          clear hK K
          try simp only [Act.put, List.setIfInBounds_toArray, List.set_cons_zero, List.set_cons_succ]
          refine takeH 20 45 (v := ?vc20) rfl (by kernel_rfl) (by kernel_rfl) (by kernel_rfl) rfl (fun _ _ _ h => h) (by rfl) ?yc20 (by assumption) ?rc20
          case yc20 => (intro W hSw; (try dsimp only at hSw); go_simp; try with_reducible rfl)
          try simp only [Act.put, List.setIfInBounds_toArray, List.set_cons_zero, List.set_cons_succ]
          refine takeH 21 46 (v := ?vc21) rfl (by kernel_rfl) (by kernel_rfl) (by kernel_rfl) rfl (fun _ _ _ h => h) (by rfl) ?yc21 (by assumption) ?rc21
          case yc21 => (intro W hSw; (try dsimp only at hSw); go_simp; try with_reducible rfl)
          try simp only [Act.put, List.setIfInBounds_toArray, List.set_cons_zero, List.set_cons_succ]
          refine wpAnyH_done (by kernel_rfl) ?_ _
          go_wp2
          go_ret
          exact HREF.out _ 151 (HWr.out.trans (HB3.out.mono HWr.out.size)) (HTH.out (by simp) (by simp)) (by decide)
    · obtain rfl : k = n := by omega
      have HAP : Hid (∀ z ∈ M, lessC c z = true ∨ lessC z c = true) := fun z hz => by
        rw [← Hm.out] at hz
        obtain ⟨x, hx, rfl⟩ := List.mem_map.1 hz
        obtain ⟨j, hj⟩ := List.mem_iff_getElem?.1 hx
        exact HA.out j x (by have := (List.getElem?_eq_some_iff.1 hj).1; rw [Hn.out] at this; exact this) hj
      have hpc := put_apart (T := T) HSO.out Hrr.out (by have := hT.out; omega) HAP.out
      rw [HnM.out] at hpc
      by_cases hful : k < 256
      · rw [if_pos hful] at hpc
        have Hpc := Lib.hid hpc
        have hd8 : decide ((256 : Int) ≤ (k : Int)) = false := by simp; omega
        have hd9 : decide (256 ≤ k) = false := by simp; omega
        clear hpc
        have hyb9 := HYB.out wr HB.out
        have y0 : wr.cell? ⟨yb, 0, none⟩ = some (.int .i64 yt) := fcell_of_blk hyb9 rfl
        have y1 : wr.cell? ⟨yb, 1, none⟩ = some (.int .i64 yd) := fcell_of_blk hyb9 rfl
        have y2 : wr.cell? ⟨yb, 2, none⟩ = some (.int .i64 yq) := fcell_of_blk hyb9 rfl
        have y3 : wr.cell? ⟨yb, 3, none⟩ = some (.string yn) := fcell_of_blk hyb9 rfl
        have y4 : wr.cell? ⟨yb, 4, none⟩ = some (.slice ya yl yc) := fcell_of_blk hyb9 rfl
        clear hyb9
        go_upto_region 12 with fail
        have HIN := Lib.hid (HINS.out wr.drew (HWr.out.trans ((vbelow_drew (Below.refl _ _)).mono HWr.out.size)))
        have HFF : Hid (∀ W, Below wr.drew.heap.size wr.drew W → W.cell? ⟨bb, 0, none⟩ = some (.slice va k vc) ∧ W.frozen? ⟨bb, 0, none⟩ = false) := fun W hW => by
          have h1 := HBB.out W (HWr.out.trans (((vbelow_drew (Below.refl _ _)).trans hW).mono HWr.out.size))
          exact ⟨fcell_of_blk h1 rfl, frozen_of_row W bb 0 _ 74 h1⟩
        go_region_with (go_at_call 75; (with_reducible refine HIN.out.mono ?_); rintro e w6 ⟨own9, oa, oc, os, rfl, hI, hos⟩; obtain ⟨r6, f6⟩ := HFF.out w6 hI.b; have HI := Lib.hid hI; have HOS := Lib.hid hos; clear hI hos)
        all_goals
          (go_wp2
           go_ret
           exact HEND.out wr.drew _ _ _ _ _ (HWr.out.trans ((vbelow_drew (Below.refl _ _)).mono HWr.out.size)) HI.out HOS.out HAP.out Hpc.out (by rw [HnM.out]; exact hful))
      · rw [if_neg hful] at hpc
        have Hpc := Lib.hid hpc
        have hd8 : decide ((256 : Int) ≤ (k : Int)) = true := by simp; omega
        have hd9 : decide (256 ≤ k) = true := by simp; omega
        clear hpc
        go_wp2
        go_ret
        exact HREF.out _ 2 HWr.out Hpc.out (by decide)

end Go.Proofs.Ytfmlgckfcclojaa
namespace Go.Proofs.Ytfmlgckfcclojaa
open Go.RowKit Go.Lib Go.Op

theorem padvEC_mem {T : Int} {M : List Core} {time : Int} {c : Core} (h : c ∈ advEC T M time) : c ∈ M := by
  rw [← adv_split (T := T) (M := M) (time := time)]
  exact List.mem_append_left _ h

set_option maxHeartbeats 4000000 in
set_option maxRecDepth 100000 in
theorem plays_walk (w : World) (a : Option Addr) (c : Nat) (l : List OpIn) (hl : OpRow w a l) (hn : l.length ≤ maxLen) :
    Calls Try.prog 9 #[.slice a l.length c] w fun e w' => e = .returned (.bool true) ∧ Below w.heap.size w w' := by
  have HH := Lib.hid (ohead_calls w)
  have HL := Lib.hid hl
  have HGr : Hid (∀ W, Below w.heap.size w W → Calls Try.prog 39 #[.slice a l.length c] W (OGreatP W l.length)) := fun W hW => ogreat_calls W a c l (hl.below hW) hn
  obtain ⟨n, hnn⟩ : ∃ n, l.length = n := ⟨_, rfl⟩
  have Hn := Lib.hid hnn
  rw [hnn] at hn HGr ⊢
  unfold maxLen at hn
  clear hl hnn
  go_enter Try.func9, Try.ntmps9
  go_wp2_with fail
  with_reducible refine HH.out.mono ?_
  rintro e w1 ⟨rfl, hb1⟩
  have HO1 : Hid (OWd w w1 (fun _ => 0)) := ⟨fun _ _ => rfl, hb1, fun _ _ => rfl⟩
  clear HH hb1
  have HN := Lib.hid (HO1.out.new 1)
  go_wp2_with fail
  refine HN.out.mono ?_
  rintro e w2 ⟨own2, rfl, _, ha2, ho2⟩
  have HA2 : Hid (OBk w2 (ren own2) 1 w1.heap.size (-1) [] ∧ OWd w w2 (ren own2) ∧ No56 w2 (ren own2)) := ⟨ha2.ren, ho2.ren, No56.ren _ _⟩
  clear HN ha2 ho2
  have HN2 := Lib.hid (rnew_calls w2 (ren own2) HA2.out.2.1.oz HA2.out.2.2)
  go_wp2_with fail
  with_reducible refine HN2.out.mono ?_
  rintro e w3 ⟨own3, rfl, hs3, hr3, hz3, h563, _⟩
  have HS3 : Hid (PlS w w3 own3 w1.heap.size w2.heap.size (-1) []) := ⟨HA2.out.1.step hs3 (fun h => h) (fun h => h), HA2.out.2.1.step hs3 (fun h => h) hz3, hr3, h563⟩
  clear HN2 hs3 hr3 hz3 h563 HA2
  obtain ⟨bb, hbb⟩ : ∃ bb, w1.heap.size = bb := ⟨_, rfl⟩
  obtain ⟨rb, hrb⟩ : ∃ rb, w2.heap.size = rb := ⟨_, rfl⟩
  rw [hbb, hrb] at HS3
  rw [hbb, hrb]
  clear hbb hrb HO1
  go_wp2_with fail
  with_reducible refine (HGr.out _ HS3.out.o.hb).mono ?_
  rintro e w4 ⟨g, rfl, hb4, _⟩
  have HS4 := Lib.hid (HS3.out.below hb4)
  clear hb4 HGr HS3
  cases g with
  | true =>
    go_wp2
    go_ret
    exact ⟨rfl, HS4.out.o.hb⟩
  | false =>
  go_wp2_with fail
  go_loopw [6] (fun i wr => ∃ (k : Nat) (own : Nat → Nat) (T : Int) (M : List Core), i = .int .i64 k ∧ k ≤ n ∧ Hid (PlS w wr own bb rb T M)) (fun i _ => n - (intOf i).toNat)
  case atStart => exact ⟨0, own3, -1, [], rfl, Nat.zero_le _, HS4⟩
  case round =>
    obtain ⟨k, own, T, M, rfl, hk, HS⟩ := hrel
    by_cases hlt : k < n
    · obtain ⟨x, hx⟩ : ∃ x, l[k]? = some x := ⟨_, List.getElem?_eq_getElem (by rw [Hn.out]; exact hlt)⟩
      have hce : ∀ W, Below w.heap.size w W → _ := fun W hW => (HL.out.below hW) k x hx
      have HCE := Lib.hid hce
      obtain ⟨A, rfl, c0, c1, c2, c3, c4, c5, c6, h7, h8, h9⟩ := hce wr HS.out.o.hb
      clear c0 c1 c2 c3 c4 c5 c6 h7 hce
      have HCE : Hid (∀ W, Below w.heap.size w W → W.cell? (A.add (k * 7)) = some (.int .i64 x.what) ∧ W.cell? (efld A 7 k 1) = some (.int .i64 x.e.ts) ∧ W.cell? (efld A 7 k 2) = some (.int .i64 x.e.dep) ∧ W.cell? (efld A 7 k 3) = some (.int .i64 x.e.seq) ∧ W.cell? (efld A 7 k 4) = some (.string x.e.nm) ∧ W.cell? (efld A 7 k 5) = some (.slice x.e.a x.e.vs.length x.e.c) ∧ W.cell? (efld A 7 k 6) = some (.int .i64 x.n) ∧ VRow W x.e.a x.e.vs) := fun W hW => by
        obtain ⟨A', e1, c0, c1, c2, c3, c4, c5, c6, h7, _⟩ := HCE.out W hW
        injection e1 with e1
        subst e1
        exact ⟨c0, c1, c2, c3, c4, c5, c6, h7⟩
      have H7 : Hid (VRow w x.e.a x.e.vs) := by
        obtain ⟨_, _, _, _, _, _, _, _, _, h, _⟩ := HL.out k _ hx
        exact h
      obtain ⟨wh, ⟨t, d, s, nm, va, vc, vs⟩, xn⟩ := x
      dsimp only at h8 h9 H7
      have HX : Hid (nm.size ≤ maxLen ∧ vs.length ≤ maxLen) := ⟨h9, h8⟩
      obtain ⟨c0, c1, c2, c3, c4, c5, c6, h7⟩ := HCE.out wr HS.out.o.hb
      have hk0 : (0 : Int) ≤ (k : Int) := by omega
      have hk1 : (k : Int) < (n : Int) := by omega
      have hTT : (T != T) = false := by simp
      obtain ⟨vl, hvl⟩ : ∃ vl, vs.length = vl := ⟨_, rfl⟩
      have Hvl := Lib.hid hvl
      unfold efld at c1 c2 c3 c4 c5 c6
      try dsimp only at c0 c1 c2 c3 c4 c5 c6
      rw [hvl] at c5
      clear hx h8 h9 h7
      by_cases hw3 : wh = 3
      · subst hw3
        have HAD : Hid (Calls Try.prog 40 #[.pointer (some ⟨bb, 0, none⟩), .int .i64 xn] wr (AdvK w wr own 1 bb T M xn)) := HS.out.a.adv (by decide) HS.out.o xn
        clear hvl
        go_wp2_with fail
        with_reducible refine HAD.out.mono ?_
        rintro e w5 ⟨v5, rfl, h5, hr5, hs5, ho5⟩
        have HR5 : Hid (RBuf w5 own rb T M ∧ No56 w5 own ∧ OZ w5 own) := ⟨HS.out.r.step hs5 (by decide) (by decide), HS.out.n.grow HS.out.o.oz, ho5.oz⟩
        have HA5 := Lib.hid h5
        have HO5 := Lib.hid ho5
        have HE5 := Lib.hid hr5
        obtain ⟨a5, c5', rfl⟩ := hr5.slice
        obtain ⟨nl, hnl⟩ : ∃ nl, (advEC T M xn).length = nl := ⟨_, rfl⟩
        have Hnl := Lib.hid hnl
        rw [hnl] at HE5 ⊢
        have HRA := Lib.hid (radvance_calls HR5.out.1 HR5.out.2.2 HR5.out.2.1 xn)
        have c6 : w5.cell? ⟨(A.add (k * 7)).block, (A.add (k * 7)).off + 6, none⟩ = some (.int .i64 xn) := (HCE.out w5 ho5.hb).2.2.2.2.2.2.1
        clear h5 hr5 hs5 ho5 HAD hnl c0 c1 c2 c3 c4 c5
        go_wp2_with fail
        with_reducible refine HRA.out.mono ?_
        rintro e w6 ⟨own6, oa, oc, os, rfl, hr6, hv6, hm6, hs6, hz6, hn6⟩
        have HS6 : Hid (PlS w w6 own6 bb rb (advT T xn) (advWC T M xn)) := ⟨HA5.out.step hs6 (by decide) (by decide), HO5.out.step hs6 (by decide) hz6, hr6, hn6⟩
        have hlM : (advEC T M xn).length ≤ 256 := by
          have h1 := congrArg List.length (adv_split (T := T) (M := M) (time := xn))
          rw [List.length_append] at h1
          have := HS.out.a.len
          omega
        have HSm : Hid (Calls Try.prog 42 #[.slice a5 nl c5', .slice oa os.length oc] w6 fun e w' => e = .returned (.bool true) ∧ Below w6.heap.size w6 w') := by
          obtain ⟨a', c', es', e1, e2, e3⟩ := (HE5.out.step hs6 (by decide)).ev (fun c hc => HS.out.a.right c (padvEC_mem hc))
          injection e1 with e1 e4 e5
          subst e1 e4 e5
          exact rsame2_calls e2 hv6 (e3.trans hm6.symm) (by rw [Hnl.out.symm] ; omega)
        obtain ⟨ol, hol⟩ : ∃ ol, os.length = ol := ⟨_, rfl⟩
        rw [hol] at HSm ⊢
        have hzz : ((advC T xn) != (advC T xn)) = false := by simp
        obtain ⟨z, hz⟩ : ∃ z, advC T xn = z := ⟨_, rfl⟩
        rw [hz] at hzz ⊢
        clear hr6 hv6 hm6 hs6 hz6 hn6 HRA hol hz hlM
        go_wp2_with fail
        with_reducible refine HSm.out.mono ?_
        rintro e w7 ⟨rfl, hb7⟩
        have HS7 := Lib.hid (HS6.out.below hb7)
        have hT7 : (advT T xn != advT T xn) = false := by simp
        obtain ⟨T7, hT7'⟩ : ∃ T7, advT T xn = T7 := ⟨_, rfl⟩
        rw [hT7'] at HS7 hT7
        have HT1 := Lib.hid HS7.out.a.time
        have HT2 := Lib.hid (rtime_calls HS7.out.r)
        clear hb7 HSm
        go_wp2_with (first | (go_at_call 45; (with_reducible refine HT1.out.mono ?_); rintro e w8 ⟨rfl, rfl⟩) | (go_at_call 46; (with_reducible refine HT2.out.mono ?_); rintro e w8 ⟨rfl, rfl⟩))
        go_roundw
        case rel => exact ⟨k + 1, own6, _, _, by go_num, by omega, HS7⟩
        case measure => simp [intOf]; omega
      · have hd3 : (wh == 3) = false := by simpa using hw3
        have HPU : Hid (Calls Try.prog 43 #[.pointer (some ⟨bb, 0, none⟩), evV t d s nm (.slice va vl vc)] wr (PutK w wr own 1 bb T M (EIn.core ⟨t, d, s, nm, va, vc, vs⟩))) := by
          rw [← Hvl.out]
          exact HS.out.a.put (by decide) HS.out.o ⟨t, d, s, nm, va, vc, vs⟩ (H7.out.below HS.out.o.hb) HX.out.1 HX.out.2
        clear hvl
        go_wp2_with fail
        with_reducible refine HPU.out.mono ?_
        rintro e w5 ⟨own5, rfl, h5, hs5, ho5⟩
        have HS5 : Hid (OBk w5 (ren own5) 1 bb T (putWC T M (EIn.core ⟨t, d, s, nm, va, vc, vs⟩)) ∧ OWd w w5 (ren own5) ∧ RBuf w5 (ren own5) rb T M ∧ No56 w5 (ren own5)) := ⟨h5.ren, ho5.ren, (HS.out.r.step hs5 (by decide) (by decide)).ren, No56.ren _ _⟩
        obtain ⟨c0, c1, c2, c3, c4, c5, c6, h7⟩ := HCE.out w5 ho5.hb
        unfold efld at c1 c2 c3 c4 c5 c6
        try dsimp only at c0 c1 c2 c3 c4 c5 c6
        rw [Hvl.out] at c5
        have HRP : Hid (Calls Try.prog 44 #[.pointer (some ⟨rb, 0, none⟩), evV t d s nm (.slice va vl vc)] w5 (RPutP w5 (ren own5) rb T M (EIn.core ⟨t, d, s, nm, va, vc, vs⟩))) := by
          rw [← Hvl.out]
          refine rput_calls HS5.out.2.2.1 HS5.out.2.1.oz HS5.out.2.2.2 ⟨t, d, s, nm, va, vc, vs⟩ ⟨h7, fun A' hA hnv => ?_, HX.out.2, HX.out.1⟩
          have hlt := H7.out.lt hA hnv
          have h4b := HS5.out.2.1.hb.size
          exact ⟨by omega, HS5.out.2.1.zo _ hlt⟩
        clear h5 hs5 ho5 HPU h7
        go_wp2_with fail
        with_reducible refine HRP.out.mono ?_
        rintro e w6 ⟨own6, rfl, hr6, hs6, hz6, hn6⟩
        have HS6 : Hid (PlS w w6 own6 bb rb T (putWC T M (EIn.core ⟨t, d, s, nm, va, vc, vs⟩))) := ⟨HS5.out.1.step hs6 (by decide) (by decide), HS5.out.2.1.step hs6 (by decide) hz6, hr6, hn6⟩
        have HT1 := Lib.hid HS6.out.a.time
        have HT2 := Lib.hid (rtime_calls HS6.out.r)
        obtain ⟨z, hz⟩ : ∃ z, putCC T M (EIn.core ⟨t, d, s, nm, va, vc, vs⟩) = z := ⟨_, rfl⟩
        rw [hz]
        have hzz : (z != z) = false := by simp
        clear hr6 hs6 hz6 hn6 HRP hz c0 c1 c2 c3 c4 c5 c6
        go_wp2_with (first | (go_at_call 45; (with_reducible refine HT1.out.mono ?_); rintro e w8 ⟨rfl, rfl⟩) | (go_at_call 46; (with_reducible refine HT2.out.mono ?_); rintro e w8 ⟨rfl, rfl⟩))
        go_roundw
        case rel => exact ⟨k + 1, own6, _, _, by go_num, by omega, HS6⟩
        case measure => simp [intOf]; omega
    · have hd3 : decide ((k : Int) < (n : Int)) = false := by simp; omega
      obtain ⟨va, vc, es, hbx, hrx, hmx⟩ := HS.out.r.ex
      obtain ⟨m, hm⟩ : ∃ m, M.length = m := ⟨_, rfl⟩
      have Hm := Lib.hid hm
      have hesm : es.length = m := by rw [← hm, ← hmx, List.length_map]
      have HWt : Hid (∀ W, Below wr.heap.size wr W → Calls Try.prog 47 #[.pointer (some ⟨bb, 0, none⟩)] W (WaitQ W own M)) := fun W hW => (HS.out.a.below hW).wait (HS.out.o.below hW)
      have HSM : Hid (∀ W v, Below wr.heap.size wr W → ERow W own v M → Calls Try.prog 42 #[v, .slice va es.length vc] W fun e w' => e = .returned (.bool true) ∧ Below W.heap.size W w') := fun W v hW hv => by
        obtain ⟨a', c', es', rfl, e2, e3⟩ := hv.ev HS.out.a.right
        obtain ⟨a2, c2, e4, e5⟩ := (hrx.below hW).slice
        injection e4 with e4 _ _
        subst e4
        exact rsame2_calls e2 e5 (e3.trans hmx.symm) (by have h1 := congrArg List.length e3; rw [List.length_map] at h1; have := HS.out.a.len; omega)
      rw [hesm] at HSM hbx
      have b0 : wr.drew.cell? ⟨rb, 0, none⟩ = some (.slice va m vc) := by
        have h1 : wr.drew.heap[rb]? = some (.cells #[.slice va m vc, .int .i64 (T + 1)] 74 (0, 0)) := hbx
        exact fcell_of_blk h1 rfl
      clear hbx hrx hmx hm hesm
      go_upto_region 20 with fail
      refine wp_region_held_drew (S := (fun W => W.cell? ⟨rb, 0, none⟩ = some (.slice va m vc) ∧ Hid (Below wr.heap.size wr W))) (by kernel_rfl) ⟨b0, vbelow_drew (Below.refl _ _)⟩ (fun hHeld => ?_)
      refine takeH 0 90 (v := ?va0) rfl (by kernel_rfl) (by kernel_rfl) (by kernel_rfl) rfl (fun _ _ _ h => h) (by rfl) ?ya0 (by assumption) ?ra0
      case ya0 => (intro W hSw; (try dsimp only at hSw); go_simp; try with_reducible rfl)
      try simp only [Act.put, List.setIfInBounds_toArray, List.set_cons_zero, List.set_cons_succ]
      refine takeH 1 91 (v := ?va1) rfl (by kernel_rfl) (by kernel_rfl) (by kernel_rfl) rfl (fun _ _ _ h => h) (by rfl) ?ya1 (by assumption) ?ra1
      case ya1 => (intro W hSw; (try dsimp only at hSw); go_simp; try with_reducible rfl)
      try simp only [Act.put, List.setIfInBounds_toArray, List.set_cons_zero, List.set_cons_succ]
      refine takeH 2 92 (v := ?va2) rfl (by kernel_rfl) (by kernel_rfl) (by kernel_rfl) rfl (fun _ _ _ h => h) (by rfl) ?ya2 (by assumption) ?ra2
      case ya2 => (intro W hSw; (try dsimp only at hSw); go_simp; try with_reducible rfl)
      try simp only [Act.put, List.setIfInBounds_toArray, List.set_cons_zero, List.set_cons_succ]
      refine takeH 4 94 (v := ?va4) rfl (by kernel_rfl) (by kernel_rfl) (by kernel_rfl) rfl (fun _ _ _ h => h) (by rfl) ?ya4 (by assumption) ?ra4
      case ya4 => (intro W hSw; (try dsimp only at hSw); go_simp; try with_reducible rfl)
      try simp only [Act.put, List.setIfInBounds_toArray, List.set_cons_zero, List.set_cons_succ]
      refine takeH 5 95 (v := ?va5) rfl (by kernel_rfl) (by kernel_rfl) (by kernel_rfl) rfl (fun _ _ _ h => h) (by rfl) ?ya5 (by assumption) ?ra5
      case ya5 => (intro W hSw; (try dsimp only at hSw); go_simp; try with_reducible rfl)
      try simp only [Act.put, List.setIfInBounds_toArray, List.set_cons_zero, List.set_cons_succ]
      refine takeH 6 96 (v := ?va6) rfl (by kernel_rfl) (by kernel_rfl) (by kernel_rfl) rfl (fun _ _ _ h => h) (by rfl) ?ya6 (by assumption) ?ra6
      case ya6 => (intro W hSw; (try dsimp only at hSw); go_simp; try with_reducible rfl)
      try simp only [Act.put, List.setIfInBounds_toArray, List.set_cons_zero, List.set_cons_succ]
      refine takeH 7 97 (v := ?va7) rfl (by kernel_rfl) (by kernel_rfl) (by kernel_rfl) rfl (fun _ _ _ h => h) (by rfl) ?ya7 (by assumption) ?ra7
      case ya7 => (intro W hSw; (try dsimp only at hSw); go_simp; try with_reducible rfl)
      try simp only [Act.put, List.setIfInBounds_toArray, List.set_cons_zero, List.set_cons_succ]
      refine wpAnyH_ready (rs := [3]) (by kernel_rfl) (by simp) ?_
      refine AllReadyH.cons (o := _) rfl (fun K hK => ?_) AllReadyH.nil
      dsimp only [List.getElem_toArray, List.getElem_cons_succ, List.getElem_cons_zero]
      go_simp
      go_at_call 47
      (with_reducible refine (HWt.out _ hHeld.2.out).mono ?_)
      rintro e w7 ⟨v7, rfl, hb7, hr7⟩
      have HSm := Lib.hid (HSM.out w7 v7 (hHeld.2.out.trans (hb7.mono hHeld.2.out.size)) hr7)
      obtain ⟨a7, c7, rfl⟩ := hr7.slice
      have HB7 := Lib.hid (hHeld.2.out.trans (hb7.mono hHeld.2.out.size))
      rw [Hm.out] at HSm ⊢
      go_wp2_with fail
      refine hK.out _ _ ⟨ekeep hb7 hHeld.1, HB7⟩ (fun hHeld => ?_)
      clear hK K
      try simp only [Act.put, List.setIfInBounds_toArray, List.set_cons_zero, List.set_cons_succ]
      refine wpAnyH_ready (rs := [8]) (by kernel_rfl) (by simp) ?_
      refine AllReadyH.cons (o := _) rfl (fun K hK => ?_) AllReadyH.nil
      dsimp only [List.getElem_toArray, List.getElem_cons_succ, List.getElem_cons_zero]
      go_simp
      go_at_call 42
      (with_reducible refine HSm.out.mono ?_)
      rintro e w8 ⟨rfl, hb8⟩
      have HB8 := Lib.hid (HB7.out.trans (hb8.mono HB7.out.size))
      go_wp2_with fail
      refine hK.out _ _ ⟨ekeep hb8 hHeld.1, HB8⟩ (fun hHeld => ?_)
      clear hK K
      try simp only [Act.put, List.setIfInBounds_toArray, List.set_cons_zero, List.set_cons_succ]
      refine takeH 9 99 (v := ?va9) rfl (by kernel_rfl) (by kernel_rfl) (by kernel_rfl) rfl (fun _ _ _ h => h) (by rfl) ?ya9 (by assumption) ?ra9
      case ya9 => (intro W hSw; (try dsimp only at hSw); go_simp; try with_reducible rfl)
      try simp only [Act.put, List.setIfInBounds_toArray, List.set_cons_zero, List.set_cons_succ]
      refine takeH 10 2 (v := ?va10) rfl (by kernel_rfl) (by kernel_rfl) (by kernel_rfl) rfl (fun _ _ _ h => h) (by rfl) ?ya10 (by assumption) ?ra10
      case ya10 => (intro W hSw; (try dsimp only at hSw); go_simp; try with_reducible rfl)
      try simp only [Act.put, List.setIfInBounds_toArray, List.set_cons_zero, List.set_cons_succ]
      refine wpAnyH_done (by kernel_rfl) ?_ _
      go_wp2
      go_ret
      exact ⟨rfl, HS.out.o.hb.trans (HB8.out.mono HS.out.o.hb.size)⟩

end Go.Proofs.Ytfmlgckfcclojaa
namespace Go.Proofs.Ytfmlgckfcclojaa
open Go.ChangeShapes Go.WideShapes Go.ChangeAt Go.RowKit Go.Lib Go.Deep
open Go.ChangeMaps (open_string shut_string)

instance : Inhabited OpIn := ⟨⟨0, default, 0⟩⟩

section
variable {H : Type} {enc : TypeId × Value → H} {w : World} {base : Nat} {spare : Nat → Bool} {held : Bool}

set_option maxRecDepth 100000 in
theorem open_oops {fuel : Nat} {a : Option Addr} {len cap : Nat} {x : DataW H × List MemPlace} (h : DataW.trod enc Try.prog w base spare held fuel 58 [.slice a len cap] = some x) :
    ∃ es : List OpIn, len = es.length ∧ es.length ≤ maxLen ∧ OpRow w a es := by
  rcases open_slice Try.underlying58 h with ⟨hcs, _⟩ | ⟨A, l, c, m, n, D, Pl, hcs, _, hl, hm, hmm, _, hx⟩
  · simp at hcs
    obtain ⟨rfl, rfl, rfl⟩ := hcs
    exact ⟨[], rfl, Nat.zero_le _, fun j s hj => by simp at hj⟩
  · simp at hcs
    obtain ⟨rfl, rfl, rfl⟩ := hcs
    have hlm : len ≤ m := by rw [hmm]; split <;> omega
    have c7 : Try.prog.cellsOf 65 = 7 := by kernel_rfl
    have hall : ∀ i, i < len → ∃ q : OpIn, w.cell? (A.add (i * 7)) = some (.int .i64 q.what) ∧ w.cell? (efld A 7 i 1) = some (.int .i64 q.e.ts) ∧ w.cell? (efld A 7 i 2) = some (.int .i64 q.e.dep) ∧ w.cell? (efld A 7 i 3) = some (.int .i64 q.e.seq) ∧ w.cell? (efld A 7 i 4) = some (.string q.e.nm) ∧ w.cell? (efld A 7 i 5) = some (.slice q.e.a q.e.vs.length q.e.c) ∧ w.cell? (efld A 7 i 6) = some (.int .i64 q.n) ∧
        VRow w q.e.a q.e.vs ∧ q.e.vs.length ≤ maxLen ∧ q.e.nm.size ≤ maxLen := fun i hi => by
      obtain ⟨cs', h1, h2⟩ := hx i (by omega)
      rw [c7] at h1
      obtain ⟨_, hlen, hcell⟩ := World.cells?_some h1
      obtain ⟨xs, k, hk, hxy, _, hxl, hf⟩ := DataW.trod_struct Try.underlying65 h2
      match xs, hxl, cs', hlen with
      | [z0, z1, z2], _, [u0, v0, v1, v2, v3, v4, u6], _ =>
        have ki : Try.prog.cellsOf 3 = 1 := by kernel_rfl
        have ke : Try.prog.cellsOf 25 = 5 := by kernel_rfl
        have k0 : Try.prog.cellsOf 2 = 1 := by kernel_rfl
        have f0 := hf 0 _ rfl
        have f1 := hf 1 _ rfl
        have f2 := hf 2 _ rfl
        simp [ki] at f0
        simp [ke] at f1
        simp [k0] at f2
        have p0 : w.cell? (A.add (i * 7)) = some u0 := hcell 0 (by omega)
        have e0 : w.cell? (efld A 7 i 1) = some v0 := hcell 1 (by omega)
        have e1 : w.cell? (efld A 7 i 2) = some v1 := hcell 2 (by omega)
        have e2 : w.cell? (efld A 7 i 3) = some v2 := hcell 3 (by omega)
        have e3 : w.cell? (efld A 7 i 4) = some v3 := hcell 4 (by omega)
        have e4 : w.cell? (efld A 7 i 5) = some v4 := hcell 5 (by omega)
        have p6 : w.cell? (efld A 7 i 6) = some u6 := hcell 6 (by omega)
        obtain ⟨m0, hu0, _, _⟩ := DataW.trod_int Try.underlying3 f0
        obtain ⟨m6, hu6, _, _⟩ := DataW.trod_int Try.underlying2 f2
        simp at hu0 hu6
        subst hu0 hu6
        obtain ⟨ys, k', hk', hxy', _, hyl, hg⟩ := DataW.trod_struct Try.underlying25 f1
        match ys, hyl with
        | [y0, y1, y2, y3, y4], _ =>
          have k1 : Try.prog.cellsOf 3 = 1 := by kernel_rfl
          have k3 : Try.prog.cellsOf 9 = 1 := by kernel_rfl
          have k4 : Try.prog.cellsOf 23 = 1 := by kernel_rfl
          have g0 := hg 0 _ rfl
          have g1 := hg 1 _ rfl
          have g2 := hg 2 _ rfl
          have g3 := hg 3 _ rfl
          have g4 := hg 4 _ rfl
          simp [k0] at g0
          simp [k1] at g1
          simp [k0] at g2
          simp [k3] at g3
          simp [k4] at g4
          obtain ⟨n0, hv0, _, _⟩ := DataW.trod_int Try.underlying2 g0
          obtain ⟨n1, hv1, _, _⟩ := DataW.trod_int Try.underlying3 g1
          obtain ⟨n2, hv2, _, _⟩ := DataW.trod_int Try.underlying2 g2
          obtain ⟨s3, hv3, _, hs3⟩ := DataW.trod_string Try.underlying9 g3
          simp at hv0 hv1 hv2 hv3
          subst hv0 hv1 hv2 hv3
          obtain ⟨a4, l4, c4, rfl⟩ : ∃ a l c, v4 = .slice a l c := by
            rcases DataW.trod_slice Try.underlying23 g4 with ⟨h, _⟩ | ⟨a, l, c, _, _, _, _, h, _⟩
            · simp at h; exact ⟨_, _, _, h⟩
            · simp at h; exact ⟨_, _, _, h⟩
          obtain ⟨vs, rfl, hl4, hr4⟩ := open_vals g4
          exact ⟨⟨m0, ⟨n0, n1, n2, s3, a4, c4, vs⟩, m6⟩, p0, e0, e1, e2, e3, e4, p6, hr4, hl4, hs3⟩
    obtain ⟨q, hq⟩ := choose_lt hall
    refine ⟨(List.range len).map q, by simp, by simp; omega, fun j o hj => ⟨A, rfl, ?_⟩⟩
    obtain ⟨hjl, rfl⟩ := List.getElem?_eq_some_iff.1 hj
    simp at hjl ⊢
    exact hq j hjl
end

end Go.Proofs.Ytfmlgckfcclojaa
namespace Go.Proofs.Ytfmlgckfcclojaa
open Go.ChangeShapes Go.WideShapes Go.ChangeAt Go.RowKit Go.Lib Go.Deep
open Go.ChangeMaps (open_string shut_string)

namespace orderPlays
set_option maxRecDepth 100000 in
theorem lifted (os : Os) (started : os.Started) (H : Type) (enc : TypeId × Value → H) :
    ReturnsInHanded {} Try.checked os 9 .any (Rows.orderPlaysSpec.pre6 enc Try.prog Try.f9 Rows.orderPlaysRow.domain false) (Rows.orderPlaysSpec.post enc Try.prog Try.f9 false true false false) := by
  refine returnsInHanded_of_change (C := Try.checked) eown_ started (by kernel_rfl) Try.func9
    (ChangeSpec.witness6 (enc := enc) (C := Try.checked) false ⟨#[], #[.slice none 0 0], []⟩ 8 (by kernel_rfl) (by kernel_rfl) (by kernel_rfl) (by kernel_rfl)) ?_
  intro W base args ds gs before hval0 hW _ _
  have hval : ∀ (j : Nat) t v, Try.f9.params[j]? = some t → args[j]? = some v → Value.okWide Try.prog W .any base t v := hval0
  have hW' := hW
  obtain ⟨p, q, hA0, hV, rfl, _, _⟩ := hW
  have hA : DataW.TrodAll enc Try.prog W 0 (fun _ => true) true Try.f9.params.toList args.toList ds p := hA0
  rw [Try.params9] at hA hval
  obtain ⟨v0, vs0, d0, ds0, p0, q0, hargs, rfl, rfl, h0, r0⟩ := trodAll_cons hA
  obtain ⟨rfl, rfl, rfl⟩ := trodAll_nil r0
  obtain rfl : args = #[v0] := by cases args; simp_all
  obtain ⟨rfl, rfl⟩ := trodVars_none hV
  have lt0 : ∀ x ∈ p0, x.block < W.heap.size := by obtain ⟨m, hm⟩ := h0; exact DataW.trod_lt m _ _ _ hm
  have k0 := h0
  obtain ⟨a0, l0, c0, rfl⟩ := okWide_slice Try.underlying58 (hval 0 58 v0 rfl rfl)
  obtain ⟨m0, hm0⟩ := h0
  obtain ⟨os0, rfl, hl0, hr0⟩ := open_oops hm0
  clear hA0 hval0
  refine (plays_walk W a0 c0 os0 hr0 hl0).mono fun e W' ⟨he, bel⟩ => ?_
  subst he
  exact ⟨_, rfl, _, _, _, [], _, [], hW', trodAll_mk1 (shut_bool Try.underlying4 _), (trodAll_cons_mk (Below.trod elaidOut (by kernel_rfl) (of_decide_eq_true (by kernel_rfl)) k0 bel lt0) trodAll_mk0), rfl, bel.frame _, fun h => by cases h⟩

theorem holds : Rows.OrderPlaysSaid :=
  OpenClaim.holds_of_wide 9 Try.f9 rfl rfl rfl rfl rfl rfl rfl ⟨rfl, rfl, rfl, rfl, rfl⟩ rfl rfl rfl rfl rfl (by kernel_rfl) Try.func9 (by kernel_rfl)
    (of_decide_eq_true (by kernel_rfl)) (by unfold Func.isWrapper; first | (rw [if_pos (by decide +kernel)]; kernel_rfl) | (rw [if_neg (by decide +kernel)]; exact ⟨rfl, rfl⟩))
    (fun os started H enc _ => lifted os started H enc)
end orderPlays
end Go.Proofs.Ytfmlgckfcclojaa

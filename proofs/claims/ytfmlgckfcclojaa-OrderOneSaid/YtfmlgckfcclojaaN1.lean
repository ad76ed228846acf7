/- OrderOne holds: all that was taken goes, once, each behind all that is ahead of it; at last nothing waits. No condition. -/
import Derived.Test.YtfmlgckfcclojaaMB
import Derived.Deep.RegionHeld3
import Derived.Deep.Upon
namespace Go.Proofs.Ytfmlgckfcclojaa
open Go.RowKit Go.Lib Go.Op

def greatM : Int → List VIn → Int
  | m, [] => m
  | m, x :: r => if m < 9000 then greatM (wrap64 (m + min (x.2.2.size : Int) 9000)) r else m
def greatEB (nm : ByteArray) (vs : List VIn) : Bool := decide (9000 ≤ greatM (wrap64 ((nm.size : Int) + (vs.length : Int))) vs)
theorem greatM_big {m : Int} (h : ¬ m < 9000) : ∀ vs, greatM m vs = m
  | [] => rfl
  | x :: r => by rw [greatM, if_neg h]

set_option maxHeartbeats 2000000 in
set_option maxRecDepth 100000 in
theorem greatEB_calls (t d s : Int) (n : ByteArray) (a : Option Addr) (c : Nat) (vs : List VIn) (w : World) (hn : n.size ≤ maxLen) (hv : VRow w a vs) (hl : vs.length ≤ maxLen) :
    Calls Try.prog 16 #[evV t d s n (.slice a vs.length c)] w fun e w' => e = .returned (.bool (greatEB n vs)) ∧ Below w.heap.size w w' := by
  have hb0 : Below w.heap.size w (w.alloc (.cells #[.int .i64 t, .int .i64 d, .int .i64 s, .string n, .slice a vs.length c] 25)) := (Below.refl _ _).alloc (Nat.le_refl _) _
  have HV := Lib.hid (hv.below hb0)
  obtain ⟨z, hz⟩ : ∃ z, greatM (wrap64 ((n.size : Int) + (vs.length : Int))) vs = z := ⟨_, rfl⟩
  unfold greatEB
  rw [hz]
  obtain ⟨l, hll⟩ : ∃ l, vs.length = l := ⟨_, rfl⟩
  have Hl := Lib.hid hll
  rw [hll] at hl hb0 HV hz ⊢
  have HB0 := Lib.hid hb0
  have Hz := Lib.hid hz
  unfold maxLen at hl hn
  clear hv hll hb0 hz
  go_enter Try.func16, Try.ntmps16
  go_wp2
  go_loop [3, 4] (fun x i => ∃ (k : Nat) (m : Int), i = .int .i64 k ∧ k ≤ l ∧ x = .int .i64 m ∧ Hid (greatM m (vs.drop k) = z)) (fun _ i => l - (intOf i).toNat)
  case atStart => exact ⟨0, _, rfl, Nat.zero_le _, rfl, Hz⟩
  case round =>
    obtain ⟨k, m, rfl, hk, rfl, HM⟩ := hrel
    by_cases hlt : k < l
    · by_cases hm : m < 9000
      · obtain ⟨x, hx⟩ : ∃ x, vs[k]? = some x := ⟨_, List.getElem?_eq_getElem (by rw [Hl.out]; exact hlt)⟩
        obtain ⟨A, rfl, c0, c1, c2, hs⟩ := HV.out k x hx
        have hdr : vs.drop k = x :: vs.drop (k + 1) := by
          rw [List.drop_eq_getElem_cons (by rw [Hl.out]; exact hlt)]
          congr 1
          rw [List.getElem?_eq_getElem (by rw [Hl.out]; exact hlt)] at hx
          injection hx
        have HN : Hid (greatM (wrap64 (m + min (x.2.2.size : Int) 9000)) (vs.drop (k + 1)) = z) := by
          show _ = _
          rw [← HM.out, hdr, greatM, if_pos hm]
        obtain ⟨k1, n1, s1⟩ := x
        dsimp only at c0 c1 c2 hs HN
        unfold efld at c1 c2
        have hd : decide (m < 9000) = true := by simpa using hm
        clear hx hdr
        go_wp2
        go_round
        case rel => exact ⟨k + 1, _, by go_num, by omega, rfl, HN⟩
        case measure => simp [intOf]; omega
      · have hd : decide (m < 9000) = false := by simpa using hm
        have HE : Hid (m = z) := by show _ = _; rw [← HM.out, greatM_big hm]
        go_wp2
        go_ret
        exact ⟨vret_bool (by have h := HE.out; symm; rw [decide_eq_true_eq]; omega), HB0.out⟩
    · have HE : Hid (m = z) := by
        show _ = _
        rw [← HM.out, List.drop_of_length_le (by rw [Hl.out]; omega)]
        rfl
      go_wp2
      go_ret
      exact ⟨vret_bool (by rw [HE.out]), HB0.out⟩

end Go.Proofs.Ytfmlgckfcclojaa
namespace Go.Proofs.Ytfmlgckfcclojaa
open Go.RowKit Go.Lib Go.Op

/-- A call, as it was handed in. -/
structure OpIn where
  what : Int
  e : EIn
  n : Int

def OpRow (w : World) (a : Option Addr) (l : List OpIn) : Prop := ∀ j x, l[j]? = some x → ∃ A, a = some A ∧ w.cell? (A.add (j * 7)) = some (.int .i64 x.what) ∧ w.cell? (efld A 7 j 1) = some (.int .i64 x.e.ts) ∧ w.cell? (efld A 7 j 2) = some (.int .i64 x.e.dep) ∧ w.cell? (efld A 7 j 3) = some (.int .i64 x.e.seq) ∧ w.cell? (efld A 7 j 4) = some (.string x.e.nm) ∧ w.cell? (efld A 7 j 5) = some (.slice x.e.a x.e.vs.length x.e.c) ∧ w.cell? (efld A 7 j 6) = some (.int .i64 x.n) ∧
  VRow w x.e.a x.e.vs ∧ x.e.vs.length ≤ maxLen ∧ x.e.nm.size ≤ maxLen

theorem OpRow.below {w w' : World} {a : Option Addr} {l : List OpIn} (h : OpRow w a l) (hb : Below w.heap.size w w') : OpRow w' a l := fun j x hj => by
  obtain ⟨A, e, h0, h1, h2, h3, h4, h5, h6, h7, h8, h9⟩ := h j x hj
  exact ⟨A, e, ekeep hb h0, ekeep hb h1, ekeep hb h2, ekeep hb h3, ekeep hb h4, ekeep hb h5, ekeep hb h6, h7.below hb, h8, h9⟩

/-- What Great answers. -/
def OGreatP (w : World) (n : Nat) (e : Ending) (w' : World) : Prop := ∃ g : Bool, e = .returned (.bool g) ∧ Below w.heap.size w w' ∧ (g = false → n ≤ 600)

section
variable {P : Program} {ops : Array Oper} {Q : Exit → Act → World → Prop} {md : Region.Mode} {S : World → Prop}

/-- An operation that is not wanted is passed over. -/
theorem passH (i d : Nat) {fuel : Nat} {listed : Array Bool} {a : Act} {w : World} (hs : Region.noSelect ops = true) (hf : Region.free md ops listed i = true)
    (hr : (Region.ready md ops listed).contains i = true) (hd : (ops[i]?).map (·.dst) = some (some d)) (hw : ((ops[i]?).map fun o => Region.wanted o (yielded ops a.tmps)) = some false)
    (hQ : ∀ c a w, Q (.panic c) (a.put (some d) undef) w → Q (.panic c) a w) (hS : S w)
    (h : wpAnyH P md ops Q S fuel (listed.setIfInBounds i true) (a.put (some d) undef) w) : wpAnyH P md ops Q S (fuel + 1) listed a w := by
  cases ho : ops[i]? with
  | none => rw [ho] at hd; cases hd
  | some o =>
    rw [ho] at hd hw
    simp only [Option.map_some, Option.some.injEq] at hd hw
    refine wpAnyH_take ho hs hf hr ?_ (Or.inr ⟨hw, rfl⟩) hS ?_
    · rw [hd]; exact hQ
    · rw [hd]; exact h

/-- An operation that is wanted, and yields v. -/
theorem takeH (i d : Nat) {o : Oper} {v : Value} {fuel : Nat} {listed : Array Bool} {a : Act} {w : World} (ho : ops[i]? = some o) (hs : Region.noSelect ops = true) (hf : Region.free md ops listed i = true)
    (hr : (Region.ready md ops listed).contains i = true) (hd : o.dst = some d)
    (hQ : ∀ c a w, Q (.panic c) (a.put (some d) v) w → Q (.panic c) a w) (hw : Region.wanted o (yielded ops a.tmps) = true) (hy : ∀ w, S w → (execOp a.eval o).run P w = .ok (.value v) w) (hS : S w)
    (h : wpAnyH P md ops Q S fuel (listed.setIfInBounds i true) (a.put (some d) v) w) : wpAnyH P md ops Q S (fuel + 1) listed a w :=
  wpAnyH_take ho hs hf hr (by rw [hd]; exact hQ) (Or.inl ⟨hw, hy⟩) hS (by rw [hd]; exact h)
end

set_option maxHeartbeats 4000000 in
set_option maxRecDepth 100000 in
theorem ogreat_calls (w : World) (a : Option Addr) (c : Nat) (l : List OpIn) (hl : OpRow w a l) (hn : l.length ≤ maxLen) :
    Calls Try.prog 39 #[.slice a l.length c] w (OGreatP w l.length) := by
  have HL := Lib.hid hl
  obtain ⟨n, hnn⟩ : ∃ n, l.length = n := ⟨_, rfl⟩
  have Hn := Lib.hid hnn
  rw [hnn] at hn ⊢
  unfold maxLen at hn
  clear hl hnn
  go_enter Try.func39, Try.ntmps39
  go_wp2
  go_loopw [3] (fun i wr => ∃ k : Nat, i = .int .i64 k ∧ k ≤ n ∧ Hid (Below w.heap.size w wr)) (fun i _ => n - (intOf i).toNat)
  case atStart => exact ⟨0, rfl, Nat.zero_le _, Below.refl _ _⟩
  case round =>
    obtain ⟨k, rfl, hk, HB⟩ := hrel
    by_cases hlt : k < n
    · by_cases h7 : k < 700
      · have hd : decide ((k : Int) < 700) = true := by simp; omega
        obtain ⟨x, hx⟩ : ∃ x, l[k]? = some x := ⟨_, List.getElem?_eq_getElem (by rw [Hn.out]; exact hlt)⟩
        obtain ⟨A, rfl, c0, c1, c2, c3, c4, c5, c6, h7, h8, h9⟩ := (HL.out.below HB.out) k x hx
        obtain ⟨wh, ⟨t, d, s, nm, va, vc, vs⟩, xn⟩ := x
        unfold efld at c1 c2 c3 c4 c5 c6
        dsimp only at c0 c1 c2 c3 c4 c5 c6 h7 h8 h9
        obtain ⟨g, hg⟩ : ∃ g, greatEB nm vs = g := ⟨_, rfl⟩
        have HG : Hid (∀ W, (W.cell? ⟨(A.add (k * 7)).block, (A.add (k * 7)).off + 1, none⟩ = some (.int .i64 t) ∧ W.cell? ⟨(A.add (k * 7)).block, (A.add (k * 7)).off + 2, none⟩ = some (.int .i64 d) ∧ W.cell? ⟨(A.add (k * 7)).block, (A.add (k * 7)).off + 3, none⟩ = some (.int .i64 s) ∧ W.cell? ⟨(A.add (k * 7)).block, (A.add (k * 7)).off + 4, none⟩ = some (.string nm) ∧ W.cell? ⟨(A.add (k * 7)).block, (A.add (k * 7)).off + 5, none⟩ = some (.slice va vs.length vc) ∧ Hid (Below wr.heap.size wr W)) → Calls Try.prog 16 #[evV t d s nm (.slice va vs.length vc)] W fun e w' => e = .returned (.bool g) ∧ w'.cell? ⟨(A.add (k * 7)).block, (A.add (k * 7)).off + 1, none⟩ = some (.int .i64 t) ∧ w'.cell? ⟨(A.add (k * 7)).block, (A.add (k * 7)).off + 2, none⟩ = some (.int .i64 d) ∧ w'.cell? ⟨(A.add (k * 7)).block, (A.add (k * 7)).off + 3, none⟩ = some (.int .i64 s) ∧ w'.cell? ⟨(A.add (k * 7)).block, (A.add (k * 7)).off + 4, none⟩ = some (.string nm) ∧ w'.cell? ⟨(A.add (k * 7)).block, (A.add (k * 7)).off + 5, none⟩ = some (.slice va vs.length vc) ∧ Hid (Below wr.heap.size wr w')) := fun W ⟨a1, a2, a3, a4, a5, hB⟩ =>
          (greatEB_calls t d s nm va vc vs W h9 (h7.below hB.out) h8).mono fun e w' ⟨he, hb⟩ => ⟨by rw [he, hg], ekeep hb a1, ekeep hb a2, ekeep hb a3, ekeep hb a4, ekeep hb a5, hB.out.trans (hb.mono hB.out.size)⟩
        clear hg
        obtain ⟨q, hq⟩ : ∃ q, vs.length = q := ⟨_, rfl⟩
        rw [hq] at c5 HG h8
        have hk0 : (0 : Int) ≤ (k : Int) := by omega
        have hk1 : (k : Int) < (n : Int) := by omega
        unfold maxLen at h8 h9
        clear hx h7 hq HL
        go_upto_region 4 with fail
        have d1 : wr.drew.cell? _ = _ := c1
        have d2 : wr.drew.cell? _ = _ := c2
        have d3 : wr.drew.cell? _ = _ := c3
        have d4 : wr.drew.cell? _ = _ := c4
        have d5 : wr.drew.cell? _ = _ := c5
        have d6 : Hid (Below wr.heap.size wr wr.drew) := vbelow_drew (Below.refl _ _)
        clear c0 c1 c2 c3 c4 c5 c6
        cases g with
        | true =>
          refine wp_region_held_drew (S := (fun W => W.cell? ⟨(A.add (k * 7)).block, (A.add (k * 7)).off + 1, none⟩ = some (.int .i64 t) ∧ W.cell? ⟨(A.add (k * 7)).block, (A.add (k * 7)).off + 2, none⟩ = some (.int .i64 d) ∧ W.cell? ⟨(A.add (k * 7)).block, (A.add (k * 7)).off + 3, none⟩ = some (.int .i64 s) ∧ W.cell? ⟨(A.add (k * 7)).block, (A.add (k * 7)).off + 4, none⟩ = some (.string nm) ∧ W.cell? ⟨(A.add (k * 7)).block, (A.add (k * 7)).off + 5, none⟩ = some (.slice va q vc) ∧ Hid (Below wr.heap.size wr W))) (by kernel_rfl) (by refine ⟨?_, ?_, ?_, ?_, ?_, ?_⟩ <;> assumption) (fun hHeld => ?_)
          refine takeH 0 14 (v := ?va0) rfl (by kernel_rfl) (by kernel_rfl) (by kernel_rfl) rfl (fun _ _ _ h => h) (by rfl) ?ya0 (by assumption) ?ra0
          case ya0 => (intro W hSw; (try dsimp only at hSw); go_simp; try with_reducible rfl)
          try simp only [Act.put, List.setIfInBounds_toArray, List.set_cons_zero, List.set_cons_succ]
          refine takeH 1 15 (v := ?va1) rfl (by kernel_rfl) (by kernel_rfl) (by kernel_rfl) rfl (fun _ _ _ h => h) (by rfl) ?ya1 (by assumption) ?ra1
          case ya1 => (intro W hSw; (try dsimp only at hSw); go_simp; try with_reducible rfl)
          try simp only [Act.put, List.setIfInBounds_toArray, List.set_cons_zero, List.set_cons_succ]
          refine takeH 2 16 (v := ?va2) rfl (by kernel_rfl) (by kernel_rfl) (by kernel_rfl) rfl (fun _ _ _ h => h) (by rfl) ?ya2 (by assumption) ?ra2
          case ya2 => (intro W hSw; (try dsimp only at hSw); go_simp; try with_reducible rfl)
          try simp only [Act.put, List.setIfInBounds_toArray, List.set_cons_zero, List.set_cons_succ]
          refine takeH 3 17 (v := ?va3) rfl (by kernel_rfl) (by kernel_rfl) (by kernel_rfl) rfl (fun _ _ _ h => h) (by rfl) ?ya3 (by assumption) ?ra3
          case ya3 => (intro W hSw; (try dsimp only at hSw); go_simp; try with_reducible rfl)
          try simp only [Act.put, List.setIfInBounds_toArray, List.set_cons_zero, List.set_cons_succ]
          refine takeH 4 18 (v := ?va4) rfl (by kernel_rfl) (by kernel_rfl) (by kernel_rfl) rfl (fun _ _ _ h => h) (by rfl) ?ya4 (by assumption) ?ra4
          case ya4 => (intro W hSw; (try dsimp only at hSw); go_simp; try with_reducible rfl)
          try simp only [Act.put, List.setIfInBounds_toArray, List.set_cons_zero, List.set_cons_succ]
          refine wpAnyH_ready (rs := [5]) (by kernel_rfl) (by simp) ?_
          refine AllReadyH.cons (o := _) rfl (fun K hK => ?_) AllReadyH.nil
          dsimp only [List.getElem_toArray, List.getElem_cons_succ, List.getElem_cons_zero]
          go_simp
          go_at_call 16
          (with_reducible refine (HG.out _ ?_).mono ?_)
          · (refine ⟨?_, ?_, ?_, ?_, ?_, ?_⟩ <;> assumption)
          rintro e w2 ⟨rfl, s1, s2, s3, s4, s5, s6⟩
          go_wp2_with fail
          refine hK.out _ _ ⟨s1, s2, s3, s4, s5, s6⟩ (fun hHeld => ?_)
          clear hK K
          try simp only [Act.put, List.setIfInBounds_toArray, List.set_cons_zero, List.set_cons_succ]
          refine takeH 6 20 (v := ?va6) rfl (by kernel_rfl) (by kernel_rfl) (by kernel_rfl) rfl (fun _ _ _ h => h) (by rfl) ?ya6 (by assumption) ?ra6
          case ya6 => (intro W hSw; (try dsimp only at hSw); go_simp; try with_reducible rfl)
          try simp only [Act.put, List.setIfInBounds_toArray, List.set_cons_zero, List.set_cons_succ]
          refine passH 7 21 (by kernel_rfl) (by kernel_rfl) (by kernel_rfl) (by kernel_rfl) (by rfl) (fun _ _ _ h => h) (by assumption) ?_
          try simp only [Act.put, List.setIfInBounds_toArray, List.set_cons_zero, List.set_cons_succ]
          refine passH 8 22 (by kernel_rfl) (by kernel_rfl) (by kernel_rfl) (by kernel_rfl) (by rfl) (fun _ _ _ h => h) (by assumption) ?_
          try simp only [Act.put, List.setIfInBounds_toArray, List.set_cons_zero, List.set_cons_succ]
          refine passH 9 23 (by kernel_rfl) (by kernel_rfl) (by kernel_rfl) (by kernel_rfl) (by rfl) (fun _ _ _ h => h) (by assumption) ?_
          try simp only [Act.put, List.setIfInBounds_toArray, List.set_cons_zero, List.set_cons_succ]
          refine passH 10 24 (by kernel_rfl) (by kernel_rfl) (by kernel_rfl) (by kernel_rfl) (by rfl) (fun _ _ _ h => h) (by assumption) ?_
          try simp only [Act.put, List.setIfInBounds_toArray, List.set_cons_zero, List.set_cons_succ]
          refine passH 11 25 (by kernel_rfl) (by kernel_rfl) (by kernel_rfl) (by kernel_rfl) (by rfl) (fun _ _ _ h => h) (by assumption) ?_
          try simp only [Act.put, List.setIfInBounds_toArray, List.set_cons_zero, List.set_cons_succ]
          refine passH 12 26 (by kernel_rfl) (by kernel_rfl) (by kernel_rfl) (by kernel_rfl) (by rfl) (fun _ _ _ h => h) (by assumption) ?_
          try simp only [Act.put, List.setIfInBounds_toArray, List.set_cons_zero, List.set_cons_succ]
          refine passH 13 27 (by kernel_rfl) (by kernel_rfl) (by kernel_rfl) (by kernel_rfl) (by rfl) (fun _ _ _ h => h) (by assumption) ?_
          try simp only [Act.put, List.setIfInBounds_toArray, List.set_cons_zero, List.set_cons_succ]
          refine passH 14 28 (by kernel_rfl) (by kernel_rfl) (by kernel_rfl) (by kernel_rfl) (by rfl) (fun _ _ _ h => h) (by assumption) ?_
          try simp only [Act.put, List.setIfInBounds_toArray, List.set_cons_zero, List.set_cons_succ]
          refine passH 15 29 (by kernel_rfl) (by kernel_rfl) (by kernel_rfl) (by kernel_rfl) (by rfl) (fun _ _ _ h => h) (by assumption) ?_
          try simp only [Act.put, List.setIfInBounds_toArray, List.set_cons_zero, List.set_cons_succ]
          refine passH 16 30 (by kernel_rfl) (by kernel_rfl) (by kernel_rfl) (by kernel_rfl) (by rfl) (fun _ _ _ h => h) (by assumption) ?_
          try simp only [Act.put, List.setIfInBounds_toArray, List.set_cons_zero, List.set_cons_succ]
          refine passH 17 31 (by kernel_rfl) (by kernel_rfl) (by kernel_rfl) (by kernel_rfl) (by rfl) (fun _ _ _ h => h) (by assumption) ?_
          try simp only [Act.put, List.setIfInBounds_toArray, List.set_cons_zero, List.set_cons_succ]
          refine passH 18 32 (by kernel_rfl) (by kernel_rfl) (by kernel_rfl) (by kernel_rfl) (by rfl) (fun _ _ _ h => h) (by assumption) ?_
          try simp only [Act.put, List.setIfInBounds_toArray, List.set_cons_zero, List.set_cons_succ]
          refine passH 19 33 (by kernel_rfl) (by kernel_rfl) (by kernel_rfl) (by kernel_rfl) (by rfl) (fun _ _ _ h => h) (by assumption) ?_
          try simp only [Act.put, List.setIfInBounds_toArray, List.set_cons_zero, List.set_cons_succ]
          refine passH 20 34 (by kernel_rfl) (by kernel_rfl) (by kernel_rfl) (by kernel_rfl) (by rfl) (fun _ _ _ h => h) (by assumption) ?_
          try simp only [Act.put, List.setIfInBounds_toArray, List.set_cons_zero, List.set_cons_succ]
          refine passH 21 35 (by kernel_rfl) (by kernel_rfl) (by kernel_rfl) (by kernel_rfl) (by rfl) (fun _ _ _ h => h) (by assumption) ?_
          try simp only [Act.put, List.setIfInBounds_toArray, List.set_cons_zero, List.set_cons_succ]
          refine passH 22 36 (by kernel_rfl) (by kernel_rfl) (by kernel_rfl) (by kernel_rfl) (by rfl) (fun _ _ _ h => h) (by assumption) ?_
          try simp only [Act.put, List.setIfInBounds_toArray, List.set_cons_zero, List.set_cons_succ]
          refine takeH 23 37 (v := ?va23) rfl (by kernel_rfl) (by kernel_rfl) (by kernel_rfl) rfl (fun _ _ _ h => h) (by rfl) ?ya23 (by assumption) ?ra23
          case ya23 => (intro W hSw; (try dsimp only at hSw); go_simp; try with_reducible rfl)
          try simp only [Act.put, List.setIfInBounds_toArray, List.set_cons_zero, List.set_cons_succ]
          refine wpAnyH_done (by kernel_rfl) ?_ _
          go_wp2
          go_ret
          exact ⟨true, rfl, HB.out.trans (s6.out.mono HB.out.size), fun h => by cases h⟩
        | false =>
          refine wp_region_held_drew (S := (fun W => W.cell? ⟨(A.add (k * 7)).block, (A.add (k * 7)).off + 1, none⟩ = some (.int .i64 t) ∧ W.cell? ⟨(A.add (k * 7)).block, (A.add (k * 7)).off + 2, none⟩ = some (.int .i64 d) ∧ W.cell? ⟨(A.add (k * 7)).block, (A.add (k * 7)).off + 3, none⟩ = some (.int .i64 s) ∧ W.cell? ⟨(A.add (k * 7)).block, (A.add (k * 7)).off + 4, none⟩ = some (.string nm) ∧ W.cell? ⟨(A.add (k * 7)).block, (A.add (k * 7)).off + 5, none⟩ = some (.slice va q vc) ∧ Hid (Below wr.heap.size wr W))) (by kernel_rfl) (by refine ⟨?_, ?_, ?_, ?_, ?_, ?_⟩ <;> assumption) (fun hHeld => ?_)
          refine takeH 0 14 (v := ?vb0) rfl (by kernel_rfl) (by kernel_rfl) (by kernel_rfl) rfl (fun _ _ _ h => h) (by rfl) ?yb0 (by assumption) ?rb0
          case yb0 => (intro W hSw; (try dsimp only at hSw); go_simp; try with_reducible rfl)
          try simp only [Act.put, List.setIfInBounds_toArray, List.set_cons_zero, List.set_cons_succ]
          refine takeH 1 15 (v := ?vb1) rfl (by kernel_rfl) (by kernel_rfl) (by kernel_rfl) rfl (fun _ _ _ h => h) (by rfl) ?yb1 (by assumption) ?rb1
          case yb1 => (intro W hSw; (try dsimp only at hSw); go_simp; try with_reducible rfl)
          try simp only [Act.put, List.setIfInBounds_toArray, List.set_cons_zero, List.set_cons_succ]
          refine takeH 2 16 (v := ?vb2) rfl (by kernel_rfl) (by kernel_rfl) (by kernel_rfl) rfl (fun _ _ _ h => h) (by rfl) ?yb2 (by assumption) ?rb2
          case yb2 => (intro W hSw; (try dsimp only at hSw); go_simp; try with_reducible rfl)
          try simp only [Act.put, List.setIfInBounds_toArray, List.set_cons_zero, List.set_cons_succ]
          refine takeH 3 17 (v := ?vb3) rfl (by kernel_rfl) (by kernel_rfl) (by kernel_rfl) rfl (fun _ _ _ h => h) (by rfl) ?yb3 (by assumption) ?rb3
          case yb3 => (intro W hSw; (try dsimp only at hSw); go_simp; try with_reducible rfl)
          try simp only [Act.put, List.setIfInBounds_toArray, List.set_cons_zero, List.set_cons_succ]
          refine takeH 4 18 (v := ?vb4) rfl (by kernel_rfl) (by kernel_rfl) (by kernel_rfl) rfl (fun _ _ _ h => h) (by rfl) ?yb4 (by assumption) ?rb4
          case yb4 => (intro W hSw; (try dsimp only at hSw); go_simp; try with_reducible rfl)
          try simp only [Act.put, List.setIfInBounds_toArray, List.set_cons_zero, List.set_cons_succ]
          refine wpAnyH_ready (rs := [5]) (by kernel_rfl) (by simp) ?_
          refine AllReadyH.cons (o := _) rfl (fun K hK => ?_) AllReadyH.nil
          dsimp only [List.getElem_toArray, List.getElem_cons_succ, List.getElem_cons_zero]
          go_simp
          go_at_call 16
          (with_reducible refine (HG.out _ ?_).mono ?_)
          · (refine ⟨?_, ?_, ?_, ?_, ?_, ?_⟩ <;> assumption)
          rintro e w2 ⟨rfl, s1, s2, s3, s4, s5, s6⟩
          go_wp2_with fail
          refine hK.out _ _ ⟨s1, s2, s3, s4, s5, s6⟩ (fun hHeld => ?_)
          clear hK K
          try simp only [Act.put, List.setIfInBounds_toArray, List.set_cons_zero, List.set_cons_succ]
          refine takeH 6 20 (v := ?vb6) rfl (by kernel_rfl) (by kernel_rfl) (by kernel_rfl) rfl (fun _ _ _ h => h) (by rfl) ?yb6 (by assumption) ?rb6
          case yb6 => (intro W hSw; (try dsimp only at hSw); go_simp; try with_reducible rfl)
          try simp only [Act.put, List.setIfInBounds_toArray, List.set_cons_zero, List.set_cons_succ]
          refine takeH 7 21 (v := ?vb7) rfl (by kernel_rfl) (by kernel_rfl) (by kernel_rfl) rfl (fun _ _ _ h => h) (by rfl) ?yb7 (by assumption) ?rb7
          case yb7 => (intro W hSw; (try dsimp only at hSw); go_simp; try with_reducible rfl)
          try simp only [Act.put, List.setIfInBounds_toArray, List.set_cons_zero, List.set_cons_succ]
          refine takeH 8 22 (v := ?vb8) rfl (by kernel_rfl) (by kernel_rfl) (by kernel_rfl) rfl (fun _ _ _ h => h) (by rfl) ?yb8 (by assumption) ?rb8
          case yb8 => (intro W hSw; (try dsimp only at hSw); go_simp; try with_reducible rfl)
          try simp only [Act.put, List.setIfInBounds_toArray, List.set_cons_zero, List.set_cons_succ]
          refine takeH 9 23 (v := ?vb9) rfl (by kernel_rfl) (by kernel_rfl) (by kernel_rfl) rfl (fun _ _ _ h => h) (by rfl) ?yb9 (by assumption) ?rb9
          case yb9 => (intro W hSw; (try dsimp only at hSw); go_simp; try with_reducible rfl)
          try simp only [Act.put, List.setIfInBounds_toArray, List.set_cons_zero, List.set_cons_succ]
          refine takeH 10 24 (v := ?vb10) rfl (by kernel_rfl) (by kernel_rfl) (by kernel_rfl) rfl (fun _ _ _ h => h) (by rfl) ?yb10 (by assumption) ?rb10
          case yb10 => (intro W hSw; (try dsimp only at hSw); go_simp; try with_reducible rfl)
          try simp only [Act.put, List.setIfInBounds_toArray, List.set_cons_zero, List.set_cons_succ]
          refine takeH 11 25 (v := ?vb11) rfl (by kernel_rfl) (by kernel_rfl) (by kernel_rfl) rfl (fun _ _ _ h => h) (by rfl) ?yb11 (by assumption) ?rb11
          case yb11 => (intro W hSw; (try dsimp only at hSw); go_simp; try with_reducible rfl)
          try simp only [Act.put, List.setIfInBounds_toArray, List.set_cons_zero, List.set_cons_succ]
          refine takeH 12 26 (v := ?vb12) rfl (by kernel_rfl) (by kernel_rfl) (by kernel_rfl) rfl (fun _ _ _ h => h) (by rfl) ?yb12 (by assumption) ?rb12
          case yb12 => (intro W hSw; (try dsimp only at hSw); go_simp; try with_reducible rfl)
          try simp only [Act.put, List.setIfInBounds_toArray, List.set_cons_zero, List.set_cons_succ]
          refine takeH 13 27 (v := ?vb13) rfl (by kernel_rfl) (by kernel_rfl) (by kernel_rfl) rfl (fun _ _ _ h => h) (by rfl) ?yb13 (by assumption) ?rb13
          case yb13 => (intro W hSw; (try dsimp only at hSw); go_simp; try with_reducible rfl)
          try simp only [Act.put, List.setIfInBounds_toArray, List.set_cons_zero, List.set_cons_succ]
          refine takeH 14 28 (v := ?vb14) rfl (by kernel_rfl) (by kernel_rfl) (by kernel_rfl) rfl (fun _ _ _ h => h) (by rfl) ?yb14 (by assumption) ?rb14
          case yb14 => (intro W hSw; (try dsimp only at hSw); go_simp; try with_reducible rfl)
          try simp only [Act.put, List.setIfInBounds_toArray, List.set_cons_zero, List.set_cons_succ]
          refine takeH 15 29 (v := ?vb15) rfl (by kernel_rfl) (by kernel_rfl) (by kernel_rfl) rfl (fun _ _ _ h => h) (by rfl) ?yb15 (by assumption) ?rb15
          case yb15 => (intro W hSw; (try dsimp only at hSw); go_simp; try with_reducible rfl)
          try simp only [Act.put, List.setIfInBounds_toArray, List.set_cons_zero, List.set_cons_succ]
          refine takeH 16 30 (v := ?vb16) rfl (by kernel_rfl) (by kernel_rfl) (by kernel_rfl) rfl (fun _ _ _ h => h) (by rfl) ?yb16 (by assumption) ?rb16
          case yb16 => (intro W hSw; (try dsimp only at hSw); go_simp; try with_reducible rfl)
          try simp only [Act.put, List.setIfInBounds_toArray, List.set_cons_zero, List.set_cons_succ]
          refine takeH 17 31 (v := ?vb17) rfl (by kernel_rfl) (by kernel_rfl) (by kernel_rfl) rfl (fun _ _ _ h => h) (by rfl) ?yb17 (by assumption) ?rb17
          case yb17 => (intro W hSw; (try dsimp only at hSw); go_simp; try with_reducible rfl)
          try simp only [Act.put, List.setIfInBounds_toArray, List.set_cons_zero, List.set_cons_succ]
          refine takeH 18 32 (v := ?vb18) rfl (by kernel_rfl) (by kernel_rfl) (by kernel_rfl) rfl (fun _ _ _ h => h) (by rfl) ?yb18 (by assumption) ?rb18
          case yb18 => (intro W hSw; (try dsimp only at hSw); go_simp; try with_reducible rfl)
          try simp only [Act.put, List.setIfInBounds_toArray, List.set_cons_zero, List.set_cons_succ]
          refine takeH 19 33 (v := ?vb19) rfl (by kernel_rfl) (by kernel_rfl) (by kernel_rfl) rfl (fun _ _ _ h => h) (by rfl) ?yb19 (by assumption) ?rb19
          case yb19 => (intro W hSw; (try dsimp only at hSw); go_simp; try with_reducible rfl)
          try simp only [Act.put, List.setIfInBounds_toArray, List.set_cons_zero, List.set_cons_succ]
          refine takeH 20 34 (v := ?vb20) rfl (by kernel_rfl) (by kernel_rfl) (by kernel_rfl) rfl (fun _ _ _ h => h) (by rfl) ?yb20 (by assumption) ?rb20
          case yb20 => (intro W hSw; (try dsimp only at hSw); go_simp; try with_reducible rfl)
          try simp only [Act.put, List.setIfInBounds_toArray, List.set_cons_zero, List.set_cons_succ]
          refine takeH 21 35 (v := ?vb21) rfl (by kernel_rfl) (by kernel_rfl) (by kernel_rfl) rfl (fun _ _ _ h => h) (by rfl) ?yb21 (by assumption) ?rb21
          case yb21 => (intro W hSw; (try dsimp only at hSw); go_simp; try with_reducible rfl)
          try simp only [Act.put, List.setIfInBounds_toArray, List.set_cons_zero, List.set_cons_succ]
          refine takeH 22 36 (v := ?vb22) rfl (by kernel_rfl) (by kernel_rfl) (by kernel_rfl) rfl (fun _ _ _ h => h) (by rfl) ?yb22 (by assumption) ?rb22
          case yb22 => (intro W hSw; (try dsimp only at hSw); go_simp; try with_reducible rfl)
          try simp only [Act.put, List.setIfInBounds_toArray, List.set_cons_zero, List.set_cons_succ]
          refine takeH 23 37 (v := ?vb23) rfl (by kernel_rfl) (by kernel_rfl) (by kernel_rfl) rfl (fun _ _ _ h => h) (by rfl) ?yb23 (by assumption) ?rb23
          case yb23 => (intro W hSw; (try dsimp only at hSw); go_simp; try with_reducible rfl)
          try simp only [Act.put, List.setIfInBounds_toArray, List.set_cons_zero, List.set_cons_succ]
          refine wpAnyH_done (by kernel_rfl) ?_ _
          obtain ⟨b, hb⟩ : ∃ b, decide (400 < IntKind.i64.wrap ((nm.size : Int) + (q : Int))) = b := ⟨_, rfl⟩
          try simp only [hb]
          cases b with
          | true =>
            go_wp2
            go_ret
            exact ⟨true, rfl, HB.out.trans (s6.out.mono HB.out.size), fun h => by cases h⟩
          | false =>
            go_wp2
            go_round
            case rel => exact ⟨k + 1, by go_num, by omega, HB.out.trans (s6.out.mono HB.out.size)⟩
            case measure => simp [intOf]; omega
      · have hd : decide ((k : Int) < 700) = false := by simp; omega
        have hd2 : decide (600 < (n : Int)) = true := by simp; omega
        go_wp2
        go_ret
        exact ⟨true, rfl, HB.out, fun h => by cases h⟩
    · by_cases h6 : 600 < n
      · have hd2 : decide (600 < (n : Int)) = true := by simp; omega
        go_wp2
        go_ret
        exact ⟨true, rfl, HB.out, fun h => by cases h⟩
      · have hd2 : decide (600 < (n : Int)) = false := by simp; omega
        go_wp2
        go_ret
        exact ⟨false, rfl, HB.out, fun _ => by omega⟩

end Go.Proofs.Ytfmlgckfcclojaa
namespace Go.Proofs.Ytfmlgckfcclojaa
open Go.RowKit Go.Lib Go.Op

theorem bytes_ne {a b : ByteArray} (h : a ≠ b) : (a.toList == b.toList) = false := by
  rw [beq_eq_false_iff_ne, vtoL, vtoL]
  intro e
  apply h
  obtain ⟨x⟩ := a
  obtain ⟨y⟩ := b
  congr 1
  exact Array.toList_inj.1 e

set_option maxHeartbeats 2000000 in
set_option maxRecDepth 100000 in
theorem vsame_any (a : Option Addr) (c : Nat) (b : Option Addr) (d : Nat) (us vs : List VIn) (w : World) (ha : VRow w a us) (hb : VRow w b vs) (hl : us.length ≤ maxLen) (hm : vs.length ≤ maxLen) :
    Calls Try.prog 65 #[.slice a us.length c, .slice b vs.length d] w fun e w' => (∃ g, e = .returned (.bool g)) ∧ Below w.heap.size w w' := by
  have HA := Lib.hid ha
  have HB := Lib.hid hb
  obtain ⟨l, hll⟩ : ∃ l, us.length = l := ⟨_, rfl⟩
  obtain ⟨m, hmm⟩ : ∃ m, vs.length = m := ⟨_, rfl⟩
  rw [hll] at hl ⊢
  rw [hmm] at hm ⊢
  have Hl := Lib.hid hll
  have Hm := Lib.hid hmm
  unfold maxLen at hl hm
  clear ha hb hll hmm
  by_cases hlm : l = m
  · subst hlm
    go_enter Try.func65, Try.ntmps65
    go_wp2
    go_loopw [5] (fun i wr => ∃ k : Nat, i = .int .i64 k ∧ k ≤ l ∧ Hid (Below w.heap.size w wr)) (fun i _ => l - (intOf i).toNat)
    case atStart => exact ⟨0, rfl, Nat.zero_le _, Below.refl _ _⟩
    case round =>
      obtain ⟨k, rfl, hk, HBl⟩ := hrel
      by_cases hlt : k < l
      · obtain ⟨x, hx⟩ : ∃ x, us[k]? = some x := ⟨_, List.getElem?_eq_getElem (by rw [Hl.out]; exact hlt)⟩
        obtain ⟨y, hy⟩ : ∃ y, vs[k]? = some y := ⟨_, List.getElem?_eq_getElem (by rw [Hm.out]; exact hlt)⟩
        obtain ⟨A, rfl, c0, c1, c2, _⟩ := (HA.out.below HBl.out) k x hx
        obtain ⟨B, rfl, d0, d1, d2, _⟩ := (HB.out.below HBl.out) k y hy
        obtain ⟨k1, n1, s1⟩ := x
        obtain ⟨k2, n2, s2⟩ := y
        dsimp only at c0 c1 c2 d0 d1 d2
        unfold efld at c1 c2 d1 d2
        have hk0 : (0 : Int) ≤ (k : Int) := by omega
        have hk1 : (k : Int) < (l : Int) := by omega
        clear hx hy
        by_cases hkk : k1 = k2
        · subst hkk
          by_cases hnn : n1 = n2
          · subst hnn
            by_cases hss : s1 = s2
            · subst hss
              go_wp2_with fail
              go_quiet (fail)
              have HB1 : Hid (Below w.heap.size w (wr.drewN nq)) := vbelow_drewN HBl.out _
              go_wp2_with fail
              go_roundw
              case rel => exact ⟨k + 1, by go_num, by omega, HB1⟩
              case measure => simp [intOf]; omega
            · have e1 : (s1.toList == s2.toList) = false := bytes_ne hss
              go_wp2_with fail
              go_quiet (fail)
              have HB1 : Hid (Below w.heap.size w (wr.drewN nq)) := vbelow_drewN HBl.out _
              go_wp2_with fail
              go_ret
              exact ⟨⟨_, rfl⟩, HB1.out⟩
          · have e1 : (n1 == n2) = false := by rw [beq_eq_false_iff_ne]; exact hnn
            go_wp2_with fail
            go_quiet (fail)
            have HB1 : Hid (Below w.heap.size w (wr.drewN nq)) := vbelow_drewN HBl.out _
            go_wp2_with fail
            go_ret
            exact ⟨⟨_, rfl⟩, HB1.out⟩
        · have e1 : (k1 == k2) = false := by rw [beq_eq_false_iff_ne]; exact hkk
          go_wp2_with fail
          go_quiet (fail)
          have HB1 : Hid (Below w.heap.size w (wr.drewN nq)) := vbelow_drewN HBl.out _
          go_wp2_with fail
          go_ret
          exact ⟨⟨_, rfl⟩, HB1.out⟩
      · go_wp2
        go_ret
        exact ⟨⟨_, rfl⟩, HBl.out⟩
  · have hd : ((l : Int) != (m : Int)) = true := by simp; omega
    go_enter Try.func65, Try.ntmps65
    go_wp2
    go_ret
    exact ⟨⟨_, rfl⟩, Below.refl _ _⟩

set_option maxHeartbeats 2000000 in
set_option maxRecDepth 100000 in
theorem sameOne_any (x y : EIn) (w : World) (hx : VRow w x.a x.vs) (hy : VRow w y.a y.vs) (hl : x.vs.length ≤ maxLen) (hm : y.vs.length ≤ maxLen) :
    Calls Try.prog 32 #[x.v, y.v] w fun e w' => (∃ g : Bool, e = .returned (.bool g) ∧ (x.core = y.core → g = true)) ∧ Below w.heap.size w w' := by
  obtain ⟨t, d, s, n, a, c, vs⟩ := x
  obtain ⟨t', d', s', n', a', c', vs'⟩ := y
  by_cases hc : (t, d, s, n, vs) = (t', d', s', n', vs')
  · simp only [Prod.mk.injEq] at hc
    obtain ⟨rfl, rfl, rfl, rfl, rfl⟩ := hc
    exact (sameOne_calls t d s n a c a' c' vs w hx hy hl).mono fun e w' ⟨h1, h2⟩ => ⟨⟨true, h1, fun _ => rfl⟩, h2⟩
  have hB0 : Below w.heap.size w ((w.alloc (.cells #[.int .i64 t, .int .i64 d, .int .i64 s, .string n, .slice a vs.length c] 25)).alloc (.cells #[.int .i64 t', .int .i64 d', .int .i64 s', .string n', .slice a' vs'.length c'] 25)) := ((Below.refl _ _).alloc (Nat.le_refl _) _).alloc (by simp) _
  have HS := Lib.hid (vsame_any a c a' c' vs vs' _ (hx.below hB0) (hy.below hB0) hl hm)
  have HC : Hid (∀ g : Bool, (EIn.core ⟨t, d, s, n, a, c, vs⟩ = EIn.core ⟨t', d', s', n', a', c', vs'⟩ → g = true)) := fun g h => absurd h hc
  show Calls Try.prog 32 #[evV t d s n (.slice a vs.length c), evV t' d' s' n' (.slice a' vs'.length c')] w _
  obtain ⟨l, hll⟩ : ∃ l, vs.length = l := ⟨_, rfl⟩
  obtain ⟨m, hmm⟩ : ∃ m, vs'.length = m := ⟨_, rfl⟩
  rw [hll, hmm] at hB0 HS
  rw [hll, hmm]
  have HB0 := Lib.hid hB0
  clear hx hy hll hmm hB0 hl hm
  obtain ⟨P, hP⟩ : ∃ P : Bool → Prop, ∀ g : Bool, P g ↔ (EIn.core ⟨t, d, s, n, a, c, vs⟩ = EIn.core ⟨t', d', s', n', a', c', vs'⟩ → g = true) := ⟨_, fun _ => Iff.rfl⟩
  have HP : Hid (∀ g, P g) := fun g => (hP g).2 (HC.out g)
  simp only [← hP]
  clear hP HC hc
  by_cases h1 : t = t'
  · subst h1
    by_cases h2 : d = d'
    · subst h2
      by_cases h3 : s = s'
      · subst h3
        by_cases h4 : n = n'
        · subst h4
          go_enter Try.func32, Try.ntmps32
          go_wp2_with (go_at_call 65; refine HS.out.mono ?_; rintro e w1 ⟨⟨g, rfl⟩, hb1⟩)
          go_ret
          exact ⟨⟨g, by simp, HP.out g⟩, HB0.out.trans (hb1.mono HB0.out.size)⟩
        · have e1 : (n.toList == n'.toList) = false := bytes_ne h4
          go_enter Try.func32, Try.ntmps32
          go_wp2
          go_ret
          exact ⟨⟨false, by simp, HP.out _⟩, HB0.out⟩
      · have e1 : (s == s') = false := by rw [beq_eq_false_iff_ne]; exact h3
        go_enter Try.func32, Try.ntmps32
        go_wp2
        go_ret
        exact ⟨⟨false, by simp, HP.out _⟩, HB0.out⟩
    · have e1 : (d == d') = false := by rw [beq_eq_false_iff_ne]; exact h2
      go_enter Try.func32, Try.ntmps32
      go_wp2
      go_ret
      exact ⟨⟨false, by simp, HP.out _⟩, HB0.out⟩
  · have e1 : (t == t') = false := by rw [beq_eq_false_iff_ne]; exact h1
    go_enter Try.func32, Try.ntmps32
    go_wp2
    go_ret
    exact ⟨⟨false, by simp, HP.out _⟩, HB0.out⟩

theorem oless_calls (t d s : Int) (n : ByteArray) (v : Value) (t' d' s' : Int) (n' : ByteArray) (v' : Value) (hv : ∃ a l c, v = .slice a l c) (hv' : ∃ a l c, v' = .slice a l c) (w : World) :
    Calls Try.prog 34 #[evV t d s n v, evV t' d' s' n' v'] w fun e w' => e = .returned (.bool (lessE t d s t' d' s')) ∧ Below w.heap.size w w' := by
  obtain ⟨a1, l1, c1, rfl⟩ := hv
  obtain ⟨a2, l2, c2, rfl⟩ := hv'
  by_cases h1 : t = t'
  · subst h1
    by_cases h2 : d = d'
    · subst h2
      have e : lessE t d s t d s' = decide (s < s') := by unfold lessE; simp
      rw [e]
      clear e
      by_cases h3 : s < s'
      · rw [decide_eq_true h3]
        go_enter Try.func34, Try.ntmps34
        go_wp2
        go_ret
        exact ⟨rfl, by repeat' (first | exact Below.refl _ _ | refine Below.alloc ?_ (by simp <;> omega) _)⟩
      · rw [decide_eq_false h3]
        go_enter Try.func34, Try.ntmps34
        go_wp2
        go_ret
        exact ⟨rfl, by repeat' (first | exact Below.refl _ _ | refine Below.alloc ?_ (by simp <;> omega) _)⟩
    · have e : lessE t d s t d' s' = decide (d < d') := by unfold lessE; simp [h2]
      rw [e]
      have hb : (d != d') = true := by rw [bne_iff_ne]; exact h2
      clear e
      by_cases h3 : d < d'
      · rw [decide_eq_true h3]
        go_enter Try.func34, Try.ntmps34
        go_wp2
        go_ret
        exact ⟨rfl, by repeat' (first | exact Below.refl _ _ | refine Below.alloc ?_ (by simp <;> omega) _)⟩
      · rw [decide_eq_false h3]
        go_enter Try.func34, Try.ntmps34
        go_wp2
        go_ret
        exact ⟨rfl, by repeat' (first | exact Below.refl _ _ | refine Below.alloc ?_ (by simp <;> omega) _)⟩
  · have e : lessE t d s t' d' s' = decide (t < t') := by unfold lessE; simp [h1]
    rw [e]
    have hb : (t != t') = true := by rw [bne_iff_ne]; exact h1
    clear e
    by_cases h3 : t < t'
    · rw [decide_eq_true h3]
      go_enter Try.func34, Try.ntmps34
      go_wp2
      go_ret
      exact ⟨rfl, by repeat' (first | exact Below.refl _ _ | refine Below.alloc ?_ (by simp <;> omega) _)⟩
    · rw [decide_eq_false h3]
      go_enter Try.func34, Try.ntmps34
      go_wp2
      go_ret
      exact ⟨rfl, by repeat' (first | exact Below.refl _ _ | refine Below.alloc ?_ (by simp <;> omega) _)⟩

end Go.Proofs.Ytfmlgckfcclojaa
namespace Go.Proofs.Ytfmlgckfcclojaa
open Go.RowKit Go.Lib Go.Op Go.Deep

/-- A row that nobody writes, appended to one's own. -/
theorem KRow.appendRow {w : World} {own : Nat → Nat} {k : Nat} {v u : Value} {es : List EIn} {N : List Core} (h : KRow w own k v es) (hk : k ≠ 0) (hz : OZ w own) (hu : ERow w own u N) (hN : ∀ c ∈ N, rightC c = true) (hl : es.length + N.length ≤ 100000) (ty : TypeId) :
    ∃ v' w' own' xs, (Builtin.append_ #[66, 66] ty #[v, u]).run Try.prog w = .ok v' w' ∧ KRow w' own' k v' (es ++ xs) ∧ xs.map EIn.core = N ∧ OStep (fun j => j = k) own own' w w' ∧ OZ w' own' := by
  obtain ⟨xs, hE, rfl⟩ := hu
  rw [List.length_map] at hl
  rcases hE.row.2 with ⟨e, h0⟩ | ⟨g, cap, cur, e, hB, hg, hn, hc, hs, ht⟩
  · have hx : xs = [] := List.length_eq_zero_iff.1 h0
    subst hx
    subst e
    obtain ⟨i0, hi, _, _, _⟩ := info_parts infoE
    obtain ⟨va, vc, rfl⟩ := vowns_slice h.row
    have hle : es.length ≤ vc := by
      rcases h.row.2 with ⟨e1, e2⟩ | ⟨g, cap, cur, e1, _, _, e2, _⟩
      · omega
      · injection e1 with _ _ e3
        omega
    exact ⟨_, w, own, [], run_append_nothing w 66 66 ty 25 i0 Try.underlying66 hi va es.length vc hle _ (Src.ofNil w Try.underlying66 0), by rw [List.append_nil]; exact h, rfl, OStep.refl _ _ _, hz⟩
  · subst e
    have hsrc : ∀ j u, (flat xs)[j]? = some u → w.cell? ((⟨g, 0, none⟩ : Addr).add j) = some u := fun j u hj => by
      have hjl : j < (flat xs).length := (List.getElem?_eq_some_iff.1 hj).1
      rw [flat_len] at hjl
      have e : (⟨g, 0, none⟩ : Addr).add j = ⟨g, j, none⟩ := by unfold Addr.add; split <;> simp_all
      rw [e, cell_of_row w g j cur 25 (0, 0) hg, ← hj, ← ht, List.getElem?_take, if_pos hjl, Array.getElem?_toList]
    obtain ⟨v', w', own', h1, h2, h3, h4⟩ := h.append hk hz xs hl (fun x hx => by
      obtain ⟨e1, e2⟩ := hE.vals x hx
      have hr := rightE_iff.1 (hN x.core (List.mem_map_of_mem hx))
      refine ⟨e1, fun A hA _ => e2 A hA, ?_, ?_⟩
      · have h5 : x.vs.length ≤ 8 := by simpa [pe, EIn.core] using hr.2.2.2.2.1
        unfold maxLen
        omega
      · have h6 := (wordB_len hr.2.2.2.1).2
        have h7 : x.nm.size ≤ 16 := by simpa [pe, EIn.core] using h6
        unfold maxLen
        omega) ⟨g, 0, none⟩ cap hsrc ty
    exact ⟨v', w', own', xs, h1, h2, rfl, h3, h4⟩

theorem adv_split {T : Int} {M : List Core} {time : Int} : advEC T M time ++ advWC T M time = M := by
  unfold advEC advWC
  split
  · exact List.prefix_iff_eq_append.1 (List.takeWhile_prefix _)
  · rfl

/-- What is held while calls come: what went, what came in. -/
structure OneS (w wr : World) (own : Nat → Nat) (bb : Nat) (T : Int) (M : List Core) (ov : Value) (os : List EIn) (iv : Value) (is : List EIn) : Prop where
  a : OBk wr own 1 bb T M
  o : OWd w wr own
  r : KRow wr own 2 ov os
  q : KRow wr own 3 iv is
  s : (os.map EIn.core ++ M).Pairwise (fun a b => lessC a b = true)
  p : (os.map EIn.core ++ M).Perm (is.map EIn.core)
  t : ∀ c ∈ os.map EIn.core, c.1 ≤ T
  u : T ≤ 1099511627776
theorem OneS.below {w wr w' : World} {own : Nat → Nat} {bb : Nat} {T : Int} {M : List Core} {ov iv : Value} {os is : List EIn} (h : OneS w wr own bb T M ov os iv is) (hb : Below wr.heap.size wr w') : OneS w w' own bb T M ov os iv is :=
  ⟨h.a.below hb, h.o.below hb, h.r.below hb, h.q.below hb, h.s, h.p, h.t, h.u⟩
theorem OneS.len {w wr : World} {own : Nat → Nat} {bb : Nat} {T : Int} {M : List Core} {ov iv : Value} {os is : List EIn} (h : OneS w wr own bb T M ov os iv is) : os.length + M.length = is.length := by
  have := h.p.length_eq
  simpa using this

/-- A put that is taken. -/
theorem one_put {T : Int} {M : List Core} {O I : List Core} {c : Core} (hc : putCC T M c = 0) (hM : (putWC T M c).Pairwise (fun a b => lessC a b = true)) (hs : (O ++ M).Pairwise (fun a b => lessC a b = true)) (hp : (O ++ M).Perm I) (ht : ∀ x ∈ O, x.1 ≤ T) :
    (O ++ putWC T M c).Pairwise (fun a b => lessC a b = true) ∧ (O ++ putWC T M c).Perm (I ++ [c]) := by
  have hpm := putWC_perm hc
  obtain ⟨hO, hMM, hX⟩ := List.pairwise_append.1 hs
  have hcT := (putCC_is hc).2
  refine ⟨List.pairwise_append.2 ⟨hO, hM, fun a ha b hb => ?_⟩, ?_⟩
  · rcases List.mem_cons.1 (hpm.mem_iff.1 hb) with rfl | hb
    · have := ht a ha
      simp only [lessC, lessE, decide_eq_true_eq]
      omega
    · exact hX a ha b hb
  · refine (List.Perm.append_left O hpm).trans ?_
    refine List.perm_middle.trans ?_
    refine (hp.cons c).trans ?_
    exact (List.perm_append_singleton c I).symm

theorem takeW_mem {α : Type} {p : α → Bool} {x : α} : ∀ {l : List α}, x ∈ l.takeWhile p → p x = true
  | [], h => by cases h
  | y :: l, h => by
    rw [List.takeWhile_cons] at h
    split at h
    · rename_i hp
      rcases List.mem_cons.1 h with rfl | h
      · exact hp
      · exact takeW_mem h
    · cases h

/-- An advance that is carried out: T is its time. -/
theorem one_adv {T : Int} {M : List Core} {O : List Core} {time : Int} (ht : ∀ x ∈ O, x.1 ≤ T) (hu : T ≤ 1099511627776) : (∀ x ∈ O ++ advEC T M time, x.1 ≤ advT T time) ∧ advT T time ≤ 1099511627776 := by
  unfold advEC advT
  by_cases h : advC T time = 0
  · rw [if_pos h, if_pos h]
    have h2 : T ≤ time ∧ time ≤ 1099511627776 := by
      unfold advC at h
      split at h
      · omega
      · split at h <;> omega
    refine ⟨fun x hx => ?_, h2.2⟩
    rcases List.mem_append.1 hx with hx | hx
    · have := ht x hx
      have := h2.1
      omega
    · unfold dueC at hx
      have := takeW_mem hx
      simpa using this
  · rw [if_neg h, if_neg h, List.append_nil]
    exact ⟨ht, hu⟩

theorem takeW_all {α : Type} {p : α → Bool} : ∀ {l : List α}, (∀ x ∈ l, p x = true) → l.takeWhile p = l
  | [], _ => rfl
  | x :: l, h => by rw [List.takeWhile_cons, if_pos (h x (by simp)), takeW_all fun y hy => h y (by simp [hy])]

/-- The last advance takes all. -/
theorem one_last {T : Int} {M : List Core} (hr : ∀ c ∈ M, rightC c = true) (hu : T ≤ 1099511627776) : advC T 1099511627776 = 0 ∧ advEC T M 1099511627776 = M ∧ advWC T M 1099511627776 = [] := by
  have h0 : advC T 1099511627776 = 0 := by
    unfold advC
    rw [if_neg (by omega), if_neg (by omega)]
  have hd : dueC M 1099511627776 = M := by
    refine takeW_all fun c hc => ?_
    have := (rightC_ts (hr c hc)).2
    simpa using this
  refine ⟨h0, ?_, ?_⟩
  · unfold advEC
    rw [if_pos h0, hd]
  · unfold advWC
    rw [if_pos h0, hd, List.drop_length]

end Go.Proofs.Ytfmlgckfcclojaa
namespace Go.Proofs.Ytfmlgckfcclojaa
open Go.RowKit Go.Lib Go.Op

theorem oadvEC_mem {T : Int} {M : List Core} {time : Int} {c : Core} (h : c ∈ advEC T M time) : c ∈ M := by
  rw [← adv_split (T := T) (M := M) (time := time)]
  exact List.mem_append_left _ h

/-- What an advance leaves, what it told appended. -/
theorem OneS.adv {w w4 w5 w9 : World} {own own9 : Nat → Nat} {bb : Nat} {T : Int} {M : List Core} {ov iv v9 : Value} {os is xs : List EIn} {time : Int} (h : OneS w w4 own bb T M ov os iv is) (h5 : OBk w5 own 1 bb (advT T time) (advWC T M time)) (ho5 : OWd w w5 own) (hs5 : OStep (fun j => j = 1) own own w4 w5)
    (h9 : KRow w9 own9 2 v9 (os ++ xs)) (hx : xs.map EIn.core = advEC T M time) (hs9 : OStep (fun j => j = 2) own own9 w5 w9) (hz9 : OZ w9 own9) : OneS w w9 own9 bb (advT T time) (advWC T M time) v9 (os ++ xs) iv is := by
  have e : (os ++ xs).map EIn.core ++ advWC T M time = os.map EIn.core ++ M := by
    rw [List.map_append, hx, List.append_assoc, adv_split]
  refine ⟨h5.step hs9 (by decide) (by decide), ho5.step hs9 (by decide) hz9, h9, (h.q.step hs5 (by decide) (by decide)).step hs9 (by decide) (by decide), by rw [e]; exact h.s, by rw [e]; exact h.p, ?_, ?_⟩
  · rw [List.map_append, hx]
    exact (one_adv h.t h.u).1
  · exact (one_adv (M := M) (O := []) (T := T) (fun x hx => by cases hx) h.u).2

set_option maxHeartbeats 4000000 in
set_option maxRecDepth 100000 in
theorem one_walk (w : World) (a : Option Addr) (c : Nat) (l : List OpIn) (hl : OpRow w a l) (hn : l.length ≤ maxLen) :
    Calls Try.prog 10 #[.slice a l.length c] w fun e w' => e = .returned (.bool true) ∧ Below w.heap.size w w' := by
  have HH := Lib.hid (ohead_calls w)
  have HL := Lib.hid hl
  have HGr : Hid (∀ W, Below w.heap.size w W → Calls Try.prog 39 #[.slice a l.length c] W (OGreatP W l.length)) := fun W hW => ogreat_calls W a c l (hl.below hW) hn
  obtain ⟨n, hnn⟩ : ∃ n, l.length = n := ⟨_, rfl⟩
  have Hn := Lib.hid hnn
  rw [hnn] at hn HGr ⊢
  unfold maxLen at hn
  clear hl hnn
  go_enter Try.func10, Try.ntmps10
  go_wp2_with fail
  with_reducible refine HH.out.mono ?_
  rintro e w1 ⟨rfl, hb1⟩
  have HO1 : Hid (OWd w w1 (fun _ => 0)) := ⟨fun _ _ => rfl, hb1, fun _ _ => rfl⟩
  clear HH hb1
  have HN := Lib.hid (HO1.out.new 1)
  go_wp2_with fail
  refine HN.out.mono ?_
  rintro e w2 ⟨own2, rfl, _, ha2, ho2⟩
  have HS2 : Hid (OneS w w2 own2 w1.heap.size (-1) [] (.slice none 0 0) [] (.slice none 0 0) []) := ⟨ha2, ho2, KRow.nil _ _ _, KRow.nil _ _ _, List.Pairwise.nil, List.Perm.refl _, fun _ hx => by simp at hx, by omega⟩
  clear HN ha2 ho2
  obtain ⟨bb, hbb⟩ : ∃ bb, w1.heap.size = bb := ⟨_, rfl⟩
  rw [hbb] at HS2 ⊢
  clear hbb HO1
  go_wp2_with fail
  with_reducible refine (HGr.out _ HS2.out.o.hb).mono ?_
  rintro e w3 ⟨g, rfl, hb3, hgn⟩
  have HS3 := Lib.hid (HS2.out.below hb3)
  clear hb3 HGr HS2
  cases g with
  | true =>
    go_wp2
    go_ret
    exact ⟨rfl, HS3.out.o.hb⟩
  | false =>
  have hn6 : n ≤ 600 := hgn rfl
  clear hgn
  go_wp2_with fail
  go_loopw [5, 6, 7] (fun x y i wr => ∃ (k : Nat) (own : Nat → Nat) (T : Int) (M : List Core) (oa : Option Addr) (oc : Nat) (os : List EIn) (ia : Option Addr) (ic : Nat) (is : List EIn), i = .int .i64 k ∧ x = .slice oa os.length oc ∧ y = .slice ia is.length ic ∧ k ≤ n ∧ Hid (OneS w wr own bb T M (.slice oa os.length oc) os (.slice ia is.length ic) is) ∧ is.length ≤ k) (fun _ _ i _ => n - (intOf i).toNat)
  case atStart => exact ⟨0, own2, -1, [], none, 0, [], none, 0, [], rfl, rfl, rfl, Nat.zero_le _, HS3, Nat.le_refl _⟩
  case round =>
    obtain ⟨k, own, T, M, oa, oc, os, ia, ic, is, rfl, rfl, rfl, hk, HS, hik⟩ := hrel
    by_cases hlt : k < n
    · obtain ⟨x, hx⟩ : ∃ x, l[k]? = some x := ⟨_, List.getElem?_eq_getElem (by rw [Hn.out]; exact hlt)⟩
      have hce : ∀ W, Below w.heap.size w W → _ := fun W hW => (HL.out.below hW) k x hx
      have HCE := Lib.hid hce
      obtain ⟨A, rfl, c0, c1, c2, c3, c4, c5, c6, h7, h8, h9⟩ := hce wr HS.out.o.hb
      clear c0 c1 c2 c3 c4 c5 c6 h7 hce
      have HCE : Hid (∀ W, Below w.heap.size w W → W.cell? (A.add (k * 7)) = some (.int .i64 x.what) ∧ W.cell? (efld A 7 k 1) = some (.int .i64 x.e.ts) ∧ W.cell? (efld A 7 k 2) = some (.int .i64 x.e.dep) ∧ W.cell? (efld A 7 k 3) = some (.int .i64 x.e.seq) ∧ W.cell? (efld A 7 k 4) = some (.string x.e.nm) ∧ W.cell? (efld A 7 k 5) = some (.slice x.e.a x.e.vs.length x.e.c) ∧ W.cell? (efld A 7 k 6) = some (.int .i64 x.n) ∧ VRow W x.e.a x.e.vs) := fun W hW => by
        obtain ⟨A', e1, c0, c1, c2, c3, c4, c5, c6, h7, _⟩ := HCE.out W hW
        injection e1 with e1
        subst e1
        exact ⟨c0, c1, c2, c3, c4, c5, c6, h7⟩
      obtain ⟨wh, ⟨t, d, s, nm, va, vc, vs⟩, xn⟩ := x
      dsimp only at h8 h9
      have HX : Hid (nm.size ≤ maxLen ∧ vs.length ≤ maxLen) := ⟨h9, h8⟩
      obtain ⟨c0, c1, c2, c3, c4, c5, c6, h7⟩ := HCE.out wr HS.out.o.hb
      have H7 : Hid (VRow w va vs) := by
        obtain ⟨_, _, _, _, _, _, _, _, _, h, _⟩ := HL.out k _ hx
        exact h
      have hk0 : (0 : Int) ≤ (k : Int) := by omega
      have hk1 : (k : Int) < (n : Int) := by omega
      obtain ⟨vl, hvl⟩ : ∃ vl, vs.length = vl := ⟨_, rfl⟩
      have Hvl := Lib.hid hvl
      unfold efld at c1 c2 c3 c4 c5 c6
      try dsimp only at c0 c1 c2 c3 c4 c5 c6
      rw [hvl] at c5
      clear hx h8 h9 h7
      by_cases hw3 : wh = 3
      · subst hw3
        have HAD : Hid (Calls Try.prog 40 #[.pointer (some ⟨bb, 0, none⟩), .int .i64 xn] wr (AdvK w wr own 1 bb T M xn)) := HS.out.a.adv (by decide) HS.out.o xn
        clear hvl
        go_wp2_with fail
        with_reducible refine HAD.out.mono ?_
        rintro e w5 ⟨v5, rfl, h5, hr5, hs5, ho5⟩
        have hNl : (advEC T M xn).length ≤ 256 := by
          have h1 := congrArg List.length (adv_split (T := T) (M := M) (time := xn))
          rw [List.length_append] at h1
          have := HS.out.a.len
          omega
        have HAP : Hid (∃ a9 l9 c9 w9 own9 xs, (Builtin.append_ #[66, 66] 66 #[.slice oa os.length oc, v5]).run Try.prog w5 = .ok (.slice a9 l9 c9) w9 ∧ Hid (OneS w w9 own9 bb (advT T xn) (advWC T M xn) (.slice a9 l9 c9) (os ++ xs) (.slice ia is.length ic) is) ∧ l9 = (os ++ xs).length) := by
          obtain ⟨v9, w9, own9, xs, e1, e2, e3, e4, e5⟩ := (HS.out.r.step hs5 (by decide) (by decide)).appendRow (by decide) ho5.oz hr5 (fun c hc => HS.out.a.right c (oadvEC_mem hc)) (by have := HS.out.len; omega) 66
          obtain ⟨a9, c9, e6, _⟩ := e2.slice
          subst e6
          exact ⟨a9, _, c9, w9, own9, xs, e1, HS.out.adv h5 ho5 hs5 e2 e3 e4 e5, rfl⟩
        have HNL : Hid (advC T xn ≠ 0 → (advEC T M xn).length = 0) := fun h => by unfold advEC; rw [if_neg h]; rfl
        obtain ⟨a5, c5', rfl⟩ := hr5.slice
        obtain ⟨nl, hnl⟩ : ∃ nl, (advEC T M xn).length = nl := ⟨_, rfl⟩
        rw [hnl] at HNL HAP ⊢
        obtain ⟨z, hz⟩ : ∃ z, advC T xn = z := ⟨_, rfl⟩
        rw [hz] at HNL ⊢
        clear h5 hr5 hs5 ho5 HAD hnl c0 c1 c2 c3 c4 c5 c6 hz hNl
        obtain ⟨a9, l9, c9, w9, own9, xs, hr9, HF9, hl9⟩ := HAP.out
        have HL9 := Lib.hid hl9
        clear HAP hl9
        by_cases hz0 : z = 0
        · subst hz0
          go_wp2_with (at_builtin; refine Lib.wpList_append_run _ rfl _ _ _ _ rfl _ _ rfl rfl _ _ hr9 ?_; clear hr9)
          go_roundw
          case rel => exact ⟨k + 1, own9, _, _, a9, c9, os ++ xs, ia, ic, is, by go_num, by rw [HL9.out], rfl, by omega, by rw [← HL9.out]; exact HF9, by omega⟩
          case measure => simp [intOf]; omega
        · have hz1 : (z != 0) = true := by simpa using hz0
          obtain rfl : nl = 0 := HNL.out hz0
          go_wp2_with (at_builtin; refine Lib.wpList_append_run _ rfl _ _ _ _ rfl _ _ rfl rfl _ _ hr9 ?_; clear hr9)
          go_roundw
          case rel => exact ⟨k + 1, own9, _, _, a9, c9, os ++ xs, ia, ic, is, by go_num, by rw [HL9.out], rfl, by omega, by rw [← HL9.out]; exact HF9, by omega⟩
          case measure => simp [intOf]; omega
      · have hd3 : (wh == 3) = false := by simpa using hw3
        have HPU : Hid (Calls Try.prog 43 #[.pointer (some ⟨bb, 0, none⟩), evV t d s nm (.slice va vl vc)] wr (PutK w wr own 1 bb T M (EIn.core ⟨t, d, s, nm, va, vc, vs⟩))) := by
          rw [← Hvl.out]
          exact HS.out.a.put (by decide) HS.out.o ⟨t, d, s, nm, va, vc, vs⟩ (H7.out.below HS.out.o.hb) HX.out.1 HX.out.2
        clear hvl
        go_wp2_with fail
        with_reducible refine HPU.out.mono ?_
        rintro e w4 ⟨own4, rfl, h4, hs4, ho4⟩
        obtain ⟨z, hz⟩ : ∃ z, putCC T M (EIn.core ⟨t, d, s, nm, va, vc, vs⟩) = z := ⟨_, rfl⟩
        have Hz := Lib.hid hz
        have HA4 := Lib.hid h4
        have HO4 := Lib.hid ho4
        have HR4 := Lib.hid (HS.out.r.step hs4 (by decide) (by decide))
        have HQ4 := Lib.hid (HS.out.q.step hs4 (by decide) (by decide))
        rw [hz]
        clear h4 hs4 ho4 HPU hz c0 c1 c2 c3 c4 c5 c6
        by_cases hz0 : z = 0
        · subst hz0
          obtain ⟨c0, c1, c2, c3, c4, c5, c6, _⟩ := HCE.out w4 HO4.out.hb
          unfold efld at c1 c2 c3 c4 c5 c6
          try dsimp only at c0 c1 c2 c3 c4 c5 c6
          rw [Hvl.out] at c5
          have HAP : Hid (∃ a9 l9 c9 w9 own9, (Builtin.append_ #[66, 66] 66 #[.slice ia is.length ic, .slice (some ⟨w4.heap.size, 0, none⟩) 1 1]).run Try.prog (w4.alloc (.cells #[.int .i64 t, .int .i64 d, .int .i64 s, .string nm, .slice va vl vc] 25)) = .ok (.slice a9 l9 c9) w9 ∧ Hid (OneS w w9 own9 bb T (putWC T M (EIn.core ⟨t, d, s, nm, va, vc, vs⟩)) (.slice oa os.length oc) os (.slice a9 l9 c9) (is ++ [(⟨t, d, s, nm, va, vc, vs⟩ : EIn)])) ∧ l9 = (is ++ [(⟨t, d, s, nm, va, vc, vs⟩ : EIn)]).length) := by
            have hba := (Below.refl w4.heap.size w4).alloc (Nat.le_refl _) (.cells #[.int .i64 t, .int .i64 d, .int .i64 s, .string nm, .slice va vl vc] 25)
            obtain ⟨v9, w9, own9, hr9, h9, hs9, hz9⟩ := (HQ4.out.below hba).append (by decide) (HO4.out.below hba).oz [⟨t, d, s, nm, va, vc, vs⟩] (by simp; omega) (fun y hy => by
              rw [List.mem_singleton] at hy
              subst hy
              refine ⟨(H7.out.below HO4.out.hb).below hba, fun A hA hnv => ?_, HX.out.2, HX.out.1⟩
              have hlt := H7.out.lt hA hnv
              have h4b := HO4.out.hb.size
              exact ⟨by simp; omega, HO4.out.zo _ hlt⟩) ⟨w4.heap.size, 0, none⟩ 1 (fun j u hj => by
                have hnew := heap_alloc_new w4 (.cells #[.int .i64 t, .int .i64 d, .int .i64 s, .string nm, .slice va vl vc] 25)
                refine one_src hnew j u ?_
                have : flat [(⟨t, d, s, nm, va, vc, vs⟩ : EIn)] = EIn.cells ⟨t, d, s, nm, va, vc, vs⟩ := by simp [flat]
                rw [this] at hj
                rw [← Hvl.out]
                exact hj) 66
            obtain ⟨a9, c9, e6, _⟩ := h9.slice
            subst e6
            obtain ⟨e7, e8⟩ := one_put Hz.out HA4.out.sort HS.out.s HS.out.p HS.out.t
            refine ⟨a9, _, c9, w9, own9, hr9, ⟨(HA4.out.below hba).step hs9 (by decide) (by decide), (HO4.out.below hba).step hs9 (by decide) hz9, (HR4.out.below hba).step hs9 (by decide) (by decide), h9, e7, ?_, HS.out.t, HS.out.u⟩, rfl⟩
            rw [List.map_append]
            exact e8
          obtain ⟨a9, l9, c9, w9, own9, hr9, HF9, hl9⟩ := HAP.out
          have HL9 := Lib.hid hl9
          clear HAP hl9
          go_wp2_with (at_builtin; refine Lib.wpList_append_run _ rfl _ _ _ _ rfl _ _ rfl rfl _ _ hr9 ?_; clear hr9)
          go_roundw
          case rel => exact ⟨k + 1, own9, _, _, oa, oc, os, a9, c9, is ++ [⟨t, d, s, nm, va, vc, vs⟩], by go_num, rfl, by rw [HL9.out], by omega, by rw [← HL9.out]; exact HF9, by simp; omega⟩
          case measure => simp [intOf]; omega
        · have hd1 : (z == 0) = false := by rw [beq_eq_false_iff_ne]; exact hz0
          have HF : Hid (OneS w w4 own4 bb T M (.slice oa os.length oc) os (.slice ia is.length ic) is) := by
            have e : putWC T M (EIn.core ⟨t, d, s, nm, va, vc, vs⟩) = M := by unfold putWC; rw [if_neg (by rw [Hz.out]; exact hz0)]
            have h := HA4.out
            rw [e] at h
            exact ⟨h, HO4.out, HR4.out, HQ4.out, HS.out.s, HS.out.p, HS.out.t, HS.out.u⟩
          go_wp2
          go_roundw
          case rel => exact ⟨k + 1, own4, T, M, oa, oc, os, ia, ic, is, by go_num, rfl, rfl, by omega, HF, by omega⟩
          case measure => simp [intOf]; omega
    · have hd3 : decide ((k : Int) < (n : Int)) = false := by simp; omega
      have HAD : Hid (Calls Try.prog 40 #[.pointer (some ⟨bb, 0, none⟩), .int .i64 1099511627776] wr (AdvK w wr own 1 bb T M 1099511627776)) := HS.out.a.adv (by decide) HS.out.o 1099511627776
      go_wp2_with fail
      with_reducible refine HAD.out.mono ?_
      rintro e w5 ⟨v5, rfl, h5, hr5, hs5, ho5⟩
      obtain ⟨z0, z1, z2⟩ := one_last HS.out.a.right HS.out.u
      have HAP : Hid (∃ a9 l9 c9 w9 own9 xs, (Builtin.append_ #[66, 66] 66 #[.slice oa os.length oc, v5]).run Try.prog w5 = .ok (.slice a9 l9 c9) w9 ∧ Hid (OneS w w9 own9 bb (advT T 1099511627776) [] (.slice a9 l9 c9) (os ++ xs) (.slice ia is.length ic) is) ∧ l9 = (os ++ xs).length) := by
        obtain ⟨v9, w9, own9, xs, e1, e2, e3, e4, e5⟩ := (HS.out.r.step hs5 (by decide) (by decide)).appendRow (by decide) ho5.oz hr5 (fun c hc => HS.out.a.right c (oadvEC_mem hc)) (by rw [z1]; have := HS.out.len; omega) 66
        obtain ⟨a9, c9, e6, _⟩ := e2.slice
        subst e6
        have e7 := HS.out.adv h5 ho5 hs5 e2 e3 e4 e5
        rw [z2] at e7
        exact ⟨a9, _, c9, w9, own9, xs, e1, e7, rfl⟩
      obtain ⟨a5, c5', rfl⟩ := hr5.slice
      obtain ⟨nl, hnl⟩ : ∃ nl, (advEC T M 1099511627776).length = nl := ⟨_, rfl⟩
      rw [hnl] at HAP
      rw [hnl, z0]
      clear h5 hr5 hs5 ho5 HAD hnl z0 z1 z2 HS
      obtain ⟨a9, l9, c9, w9, own9, xs, hr9, HF9, hl9⟩ := HAP.out
      obtain ⟨os9, hos9⟩ : ∃ os9, os ++ xs = os9 := ⟨_, rfl⟩
      rw [hos9] at hl9 HF9
      obtain ⟨m, hm⟩ : ∃ m, is.length = m := ⟨_, rfl⟩
      have Hm := Lib.hid hm
      have h9m : m = l9 := by
        have h1 := HF9.out.len
        rw [hm, List.length_nil] at h1
        omega
      subst h9m
      have HL9 := Lib.hid hl9
      rw [hm] at hik HF9 ⊢
      clear HAP hl9 hos9 hm
      have HWt : Hid (Calls Try.prog 47 #[.pointer (some ⟨bb, 0, none⟩)] w9 (WaitQ w9 own9 [])) := HF9.out.a.wait HF9.out.o
      go_wp2_with (first | (at_builtin; refine Lib.wpList_append_run _ rfl _ _ _ _ rfl _ _ rfl rfl _ _ hr9 ?_; clear hr9) | (go_at_call 47; (with_reducible refine HWt.out.mono ?_); rintro e wa ⟨va, rfl, hba, hra⟩; obtain ⟨aa, ca, rfl⟩ := hra.slice; have HBa := Lib.hid hba; clear hba hra))
      have HFa := Lib.hid (HF9.out.below HBa.out)
      obtain ⟨_, HOS, HIS⟩ : True ∧ Hid (∀ W, Below wa.heap.size wa W → EvRow W a9 os9) ∧ Hid (∀ W, Below wa.heap.size wa W → EvRow W ia is) := by
        obtain ⟨a', c', e1, h1⟩ := HFa.out.r.slice
        obtain ⟨a2, c2, e2, h2⟩ := HFa.out.q.slice
        injection e1 with e1 _ _
        injection e2 with e2 _ _
        subst e1
        subst e2
        exact ⟨trivial, fun W hW => h1.below hW, fun W hW => h2.below hW⟩
      have HSR : Hid (∀ (j : Nat) (x y : EIn), os9[j]? = some x → os9[j + 1]? = some y → lessE x.ts x.dep x.seq y.ts y.dep y.seq = true) := fun j x y hx hy => by
        have h1 := HFa.out.s
        rw [List.append_nil, List.pairwise_map, List.pairwise_iff_getElem] at h1
        obtain ⟨j1, e1⟩ := List.getElem?_eq_some_iff.1 hx
        obtain ⟨j2, e2⟩ := List.getElem?_eq_some_iff.1 hy
        have h2 := h1 j (j + 1) j1 j2 (by omega)
        rw [e1, e2] at h2
        exact h2
      have HME : Hid (∀ (i : Nat) (x : EIn), is[i]? = some x → ∃ (j : Nat) (y : EIn), j < m ∧ os9[j]? = some y ∧ x.core = y.core) := fun i x hx => by
        have h1 : x.core ∈ os9.map EIn.core ++ [] := HFa.out.p.mem_iff.2 (List.mem_map_of_mem (List.mem_of_getElem? hx))
        rw [List.append_nil] at h1
        obtain ⟨y, hy, e⟩ := List.mem_map.1 h1
        obtain ⟨j, hj⟩ := List.mem_iff_getElem?.1 hy
        exact ⟨j, y, by rw [HL9.out]; exact (List.getElem?_eq_some_iff.1 hj).1, hj, e.symm⟩
      have HWA : Hid (Below w.heap.size w wa) := HFa.out.o.hb
      have hm6 : m ≤ 600 := by omega
      clear HF9 HBa HFa HWt
      go_loopw [12] (fun i wr => ∃ (k : Nat), i = .int .i64 ((k : Int) + 1) ∧ k ≤ m ∧ Hid (Below wa.heap.size wa wr)) (fun i _ => m - (intOf i).toNat)
      case atStart => exact ⟨0, rfl, Nat.zero_le _, Below.refl _ _⟩
      case round =>
        obtain ⟨k2, rfl, hk2, HB⟩ := hrel
        by_cases hlt2 : k2 + 1 < m
        · have hd2 : decide ((k2 : Int) + 1 < (m : Int)) = true := by simp; omega
          obtain ⟨x, hx⟩ : ∃ x, os9[k2]? = some x := ⟨_, List.getElem?_eq_getElem (by rw [← HL9.out]; omega)⟩
          obtain ⟨y, hy⟩ : ∃ y, os9[k2 + 1]? = some y := ⟨_, List.getElem?_eq_getElem (by rw [← HL9.out]; omega)⟩
          obtain ⟨A2, rfl, x0, x1, x2, x3, x4⟩ := (HOS.out wr HB.out).1 k2 x hx
          obtain ⟨B2, e2, y0, y1, y2, y3, y4⟩ := (HOS.out wr HB.out).1 (k2 + 1) y hy
          injection e2 with e2
          subst e2
          have hle := HSR.out k2 x y hx hy
          obtain ⟨xt, xd, xq, xn, xa, xc, xv⟩ := x
          obtain ⟨yt, yd, yq, yn, ya, yc, yv⟩ := y
          dsimp only at hle x0 x1 x2 x3 x4 y0 y1 y2 y3 y4
          unfold efld at x1 x2 x3 x4 y1 y2 y3 y4
          obtain ⟨xl, hxl⟩ : ∃ xl, xv.length = xl := ⟨_, rfl⟩
          obtain ⟨yl, hyl⟩ : ∃ yl, yv.length = yl := ⟨_, rfl⟩
          rw [hxl] at x4
          rw [hyl] at y4
          have HS : Hid (∀ W, Calls Try.prog 34 #[evV xt xd xq xn (.slice xa xl xc), evV yt yd yq yn (.slice ya yl yc)] W fun e w' => e = .returned (.bool true) ∧ Below W.heap.size W w') := fun W => by
            have h := oless_calls xt xd xq xn (.slice xa xl xc) yt yd yq yn (.slice ya yl yc) ⟨_, _, _, rfl⟩ ⟨_, _, _, rfl⟩ W
            rw [hle] at h
            exact h
          have hk0 : (0 : Int) ≤ (k2 : Int) := by omega
          have hk1 : (k2 : Int) < (m : Int) := by omega
          have hk3 : (k2 : Int) + 1 < (m : Int) := by omega
          have hk4 : (0 : Int) ≤ (k2 : Int) + 1 := by omega
          have hw1 : IntKind.i64.wrap ((k2 : Int) + 1 - 1) = (k2 : Int) := by rw [IntKind.wrap_i64]; omega
          have hw4 : IntKind.i64.wrap (k2 : Int) = (k2 : Int) := by rw [IntKind.wrap_i64]; omega
          have hw3 : ((k2 : Int) + 1).toNat = k2 + 1 := by omega
          clear hx hy hle hxl hyl
          go_upto_region 24 with fail
          refine wp_region_held_drew (S := (fun W => W.cell? (A2.add (k2 * 5)) = some (.int .i64 xt) ∧ W.cell? ⟨(A2.add (k2 * 5)).block, (A2.add (k2 * 5)).off + 1, none⟩ = some (.int .i64 xd) ∧ W.cell? ⟨(A2.add (k2 * 5)).block, (A2.add (k2 * 5)).off + 2, none⟩ = some (.int .i64 xq) ∧ W.cell? ⟨(A2.add (k2 * 5)).block, (A2.add (k2 * 5)).off + 3, none⟩ = some (.string xn) ∧ W.cell? ⟨(A2.add (k2 * 5)).block, (A2.add (k2 * 5)).off + 4, none⟩ = some (.slice xa xl xc) ∧ W.cell? (A2.add ((k2 + 1) * 5)) = some (.int .i64 yt) ∧ W.cell? ⟨(A2.add ((k2 + 1) * 5)).block, (A2.add ((k2 + 1) * 5)).off + 1, none⟩ = some (.int .i64 yd) ∧ W.cell? ⟨(A2.add ((k2 + 1) * 5)).block, (A2.add ((k2 + 1) * 5)).off + 2, none⟩ = some (.int .i64 yq) ∧ W.cell? ⟨(A2.add ((k2 + 1) * 5)).block, (A2.add ((k2 + 1) * 5)).off + 3, none⟩ = some (.string yn) ∧ W.cell? ⟨(A2.add ((k2 + 1) * 5)).block, (A2.add ((k2 + 1) * 5)).off + 4, none⟩ = some (.slice ya yl yc) ∧ Hid (Below wr.heap.size wr W))) (by kernel_rfl) ⟨x0, x1, x2, x3, x4, y0, y1, y2, y3, y4, vbelow_drew (Below.refl _ _)⟩ (fun hHeld => ?_)
          refine takeH 0 106 (v := ?vc0) rfl (by kernel_rfl) (by kernel_rfl) (by kernel_rfl) rfl (fun _ _ _ h => h) (by rfl) ?yc0 (by assumption) ?rc0
          case yc0 => (intro W hSw; (try dsimp only at hSw); go_simp; try with_reducible rfl)
          try simp only [Act.put, List.setIfInBounds_toArray, List.set_cons_zero, List.set_cons_succ]
          refine takeH 1 107 (v := ?vc1) rfl (by kernel_rfl) (by kernel_rfl) (by kernel_rfl) rfl (fun _ _ _ h => h) (by rfl) ?yc1 (by assumption) ?rc1
          case yc1 => (intro W hSw; (try dsimp only at hSw); go_simp; try with_reducible rfl)
          try simp only [Act.put, List.setIfInBounds_toArray, List.set_cons_zero, List.set_cons_succ]
          refine takeH 2 108 (v := .int .i64 (k2 : Int)) rfl (by kernel_rfl) (by kernel_rfl) (by kernel_rfl) rfl (fun _ _ _ h => h) (by rfl) ?yc2 (by assumption) ?rc2
          case yc2 => (intro W hSw; (try dsimp only at hSw); go_simp; first | done | (rw [hw4]; done) | (simp only [hw1]; done) | trace_state)
          try simp only [Act.put, List.setIfInBounds_toArray, List.set_cons_zero, List.set_cons_succ]
          refine takeH 3 109 (v := .pointer (some (A2.add (k2 * 5)))) rfl (by kernel_rfl) (by kernel_rfl) (by kernel_rfl) rfl (fun _ _ _ h => h) (by rfl) ?yc3 (by assumption) ?rc3
          case yc3 => (intro W hSw; (try dsimp only at hSw); go_simp; first | done | trace_state)
          try simp only [Act.put, List.setIfInBounds_toArray, List.set_cons_zero, List.set_cons_succ]
          refine takeH 4 110 (v := ?vc4) rfl (by kernel_rfl) (by kernel_rfl) (by kernel_rfl) rfl (fun _ _ _ h => h) (by rfl) ?yc4 (by assumption) ?rc4
          case yc4 => (intro W hSw; (try dsimp only at hSw); go_simp; try with_reducible rfl)
          try simp only [Act.put, List.setIfInBounds_toArray, List.set_cons_zero, List.set_cons_succ]
          refine takeH 5 111 (v := ?vc5) rfl (by kernel_rfl) (by kernel_rfl) (by kernel_rfl) rfl (fun _ _ _ h => h) (by rfl) ?yc5 (by assumption) ?rc5
          case yc5 => (intro W hSw; (try dsimp only at hSw); go_simp; try with_reducible rfl)
          try simp only [Act.put, List.setIfInBounds_toArray, List.set_cons_zero, List.set_cons_succ]
          refine takeH 6 112 (v := ?vc6) rfl (by kernel_rfl) (by kernel_rfl) (by kernel_rfl) rfl (fun _ _ _ h => h) (by rfl) ?yc6 (by assumption) ?rc6
          case yc6 => (intro W hSw; (try dsimp only at hSw); go_simp; try with_reducible rfl)
          try simp only [Act.put, List.setIfInBounds_toArray, List.set_cons_zero, List.set_cons_succ]
          refine takeH 7 113 (v := .pointer (some (A2.add ((k2 + 1) * 5)))) rfl (by kernel_rfl) (by kernel_rfl) (by kernel_rfl) rfl (fun _ _ _ h => h) (by rfl) ?yc7 (by assumption) ?rc7
          case yc7 => (intro W hSw; (try dsimp only at hSw); go_simp; first | done | trace_state)
          try simp only [Act.put, List.setIfInBounds_toArray, List.set_cons_zero, List.set_cons_succ]
          refine takeH 8 114 (v := ?vc8) rfl (by kernel_rfl) (by kernel_rfl) (by kernel_rfl) rfl (fun _ _ _ h => h) (by rfl) ?yc8 (by assumption) ?rc8
          case yc8 => (intro W hSw; (try dsimp only at hSw); go_simp; try with_reducible rfl)
          try simp only [Act.put, List.setIfInBounds_toArray, List.set_cons_zero, List.set_cons_succ]
          refine wpAnyH_ready (rs := [9]) (by kernel_rfl) (by simp) ?_
          refine AllReadyH.cons (o := _) rfl (fun K hK => ?_) AllReadyH.nil
          dsimp only [List.getElem_toArray, List.getElem_cons_succ, List.getElem_cons_zero]
          go_simp
          go_at_call 34
          (with_reducible refine (HS.out _).mono ?_)
          rintro e w2 ⟨rfl, hb2⟩
          have HB2 := Lib.hid (hHeld.2.2.2.2.2.2.2.2.2.2.out.trans (hb2.mono hHeld.2.2.2.2.2.2.2.2.2.2.out.size))
          go_wp2_with fail
          refine hK.out _ _ ⟨ekeep hb2 hHeld.1, ekeep hb2 hHeld.2.1, ekeep hb2 hHeld.2.2.1, ekeep hb2 hHeld.2.2.2.1, ekeep hb2 hHeld.2.2.2.2.1, ekeep hb2 hHeld.2.2.2.2.2.1, ekeep hb2 hHeld.2.2.2.2.2.2.1, ekeep hb2 hHeld.2.2.2.2.2.2.2.1, ekeep hb2 hHeld.2.2.2.2.2.2.2.2.1, ekeep hb2 hHeld.2.2.2.2.2.2.2.2.2.1, HB2⟩ (fun hHeld => ?_)
          clear hK K
          try simp only [Act.put, List.setIfInBounds_toArray, List.set_cons_zero, List.set_cons_succ]
          refine takeH 10 116 (v := ?vc10) rfl (by kernel_rfl) (by kernel_rfl) (by kernel_rfl) rfl (fun _ _ _ h => h) (by rfl) ?yc10 (by assumption) ?rc10
          case yc10 => (intro W hSw; (try dsimp only at hSw); go_simp; try with_reducible rfl)
          try simp only [Act.put, List.setIfInBounds_toArray, List.set_cons_zero, List.set_cons_succ]
          refine wpAnyH_done (by kernel_rfl) ?_ _
          go_wp2
          go_roundw
          case rel => exact ⟨k2 + 1, by go_num, by omega, HB.out.trans (HB2.out.mono HB.out.size)⟩
          case measure => simp [intOf]; omega
        · have hd2 : decide ((k2 : Int) + 1 < (m : Int)) = false := by simp; omega
          clear HSR
          have HB0 := Lib.hid HB.out
          clear HB
          go_wp2_with fail
          go_loopw [13] (fun j wr => ∃ (i : Nat), j = .int .i64 i ∧ i ≤ m ∧ Hid (Below wa.heap.size wa wr)) (fun j _ => m - (intOf j).toNat)
          case atStart => exact ⟨0, rfl, Nat.zero_le _, HB0⟩
          case round =>
            obtain ⟨i, rfl, hi, HB⟩ := hrel
            by_cases hi2 : i < m
            · obtain ⟨x, hx⟩ : ∃ x, is[i]? = some x := ⟨_, List.getElem?_eq_getElem (by rw [Hm.out]; omega)⟩
              have HXI := Lib.hid hx
              have HMX := Lib.hid (HME.out i x hx)
              clear hx
              go_wp2_with fail
              go_loopw [14, 15] (fun f j wr => ∃ (k : Nat) (b : Bool), f = .bool b ∧ j = .int .i64 k ∧ k ≤ m ∧ Hid (Below wa.heap.size wa wr) ∧ Hid (∀ (k' : Nat) (y : EIn), k' < k → os9[k']? = some y → x.core = y.core → b = true)) (fun _ j _ => m - (intOf j).toNat)
              case atStart => exact ⟨0, false, rfl, rfl, Nat.zero_le _, HB, fun k' y hk' => absurd hk' (Nat.not_lt_zero _)⟩
              case round =>
                obtain ⟨k, b, rfl, rfl, hkm, HBk, HF⟩ := hrel
                by_cases hkl : k < m
                · cases b with
                  | true =>
                    go_upto_region 33 with fail
                    refine wp_region_held_drew (S := (fun W => Hid (Below wr.heap.size wr W))) (by kernel_rfl) (vbelow_drew (Below.refl _ _)) (fun hHeld => ?_)
                    refine takeH 0 129 (v := ?va0) rfl (by kernel_rfl) (by kernel_rfl) (by kernel_rfl) rfl (fun _ _ _ h => h) (by rfl) ?ya0 (by assumption) ?ra0
                    case ya0 => (intro W hSw; (try dsimp only at hSw); go_simp; try with_reducible rfl)
                    try simp only [Act.put, List.setIfInBounds_toArray, List.set_cons_zero, List.set_cons_succ]
                    refine takeH 1 130 (v := ?va1) rfl (by kernel_rfl) (by kernel_rfl) (by kernel_rfl) rfl (fun _ _ _ h => h) (by rfl) ?ya1 (by assumption) ?ra1
                    case ya1 => (intro W hSw; (try dsimp only at hSw); go_simp; try with_reducible rfl)
                    try simp only [Act.put, List.setIfInBounds_toArray, List.set_cons_zero, List.set_cons_succ]
                    refine passH 2 131 (by kernel_rfl) (by kernel_rfl) (by kernel_rfl) (by kernel_rfl) (by rfl) (fun _ _ _ h => h) (by assumption) ?_
                    try simp only [Act.put, List.setIfInBounds_toArray, List.set_cons_zero, List.set_cons_succ]
                    refine passH 3 132 (by kernel_rfl) (by kernel_rfl) (by kernel_rfl) (by kernel_rfl) (by rfl) (fun _ _ _ h => h) (by assumption) ?_
                    try simp only [Act.put, List.setIfInBounds_toArray, List.set_cons_zero, List.set_cons_succ]
                    refine passH 4 133 (by kernel_rfl) (by kernel_rfl) (by kernel_rfl) (by kernel_rfl) (by rfl) (fun _ _ _ h => h) (by assumption) ?_
                    try simp only [Act.put, List.setIfInBounds_toArray, List.set_cons_zero, List.set_cons_succ]
                    refine passH 5 134 (by kernel_rfl) (by kernel_rfl) (by kernel_rfl) (by kernel_rfl) (by rfl) (fun _ _ _ h => h) (by assumption) ?_
                    try simp only [Act.put, List.setIfInBounds_toArray, List.set_cons_zero, List.set_cons_succ]
                    refine passH 6 135 (by kernel_rfl) (by kernel_rfl) (by kernel_rfl) (by kernel_rfl) (by rfl) (fun _ _ _ h => h) (by assumption) ?_
                    try simp only [Act.put, List.setIfInBounds_toArray, List.set_cons_zero, List.set_cons_succ]
                    refine passH 7 136 (by kernel_rfl) (by kernel_rfl) (by kernel_rfl) (by kernel_rfl) (by rfl) (fun _ _ _ h => h) (by assumption) ?_
                    try simp only [Act.put, List.setIfInBounds_toArray, List.set_cons_zero, List.set_cons_succ]
                    refine passH 8 137 (by kernel_rfl) (by kernel_rfl) (by kernel_rfl) (by kernel_rfl) (by rfl) (fun _ _ _ h => h) (by assumption) ?_
                    try simp only [Act.put, List.setIfInBounds_toArray, List.set_cons_zero, List.set_cons_succ]
                    refine passH 9 138 (by kernel_rfl) (by kernel_rfl) (by kernel_rfl) (by kernel_rfl) (by rfl) (fun _ _ _ h => h) (by assumption) ?_
                    try simp only [Act.put, List.setIfInBounds_toArray, List.set_cons_zero, List.set_cons_succ]
                    refine passH 10 139 (by kernel_rfl) (by kernel_rfl) (by kernel_rfl) (by kernel_rfl) (by rfl) (fun _ _ _ h => h) (by assumption) ?_
                    try simp only [Act.put, List.setIfInBounds_toArray, List.set_cons_zero, List.set_cons_succ]
                    refine takeH 11 140 (v := ?va11) rfl (by kernel_rfl) (by kernel_rfl) (by kernel_rfl) rfl (fun _ _ _ h => h) (by rfl) ?ya11 (by assumption) ?ra11
                    case ya11 => (intro W hSw; (try dsimp only at hSw); go_simp; try with_reducible rfl)
                    try simp only [Act.put, List.setIfInBounds_toArray, List.set_cons_zero, List.set_cons_succ]
                    refine takeH 12 14 (v := ?va12) rfl (by kernel_rfl) (by kernel_rfl) (by kernel_rfl) rfl (fun _ _ _ h => h) (by rfl) ?ya12 (by assumption) ?ra12
                    case ya12 => (intro W hSw; (try dsimp only at hSw); go_simp; try with_reducible rfl)
                    try simp only [Act.put, List.setIfInBounds_toArray, List.set_cons_zero, List.set_cons_succ]
                    refine wpAnyH_done (by kernel_rfl) ?_ _
                    go_wp2
                    go_roundw
                    case rel => exact ⟨k + 1, true, rfl, by go_num, by omega, HBk.out.trans (hHeld.out.mono HBk.out.size), fun _ _ _ _ _ => rfl⟩
                    case measure => simp [intOf]; omega
                  | false =>
                    obtain ⟨y, hy⟩ : ∃ y, os9[k]? = some y := ⟨_, List.getElem?_eq_getElem (by rw [← HL9.out]; omega)⟩
                    obtain ⟨B, rfl, x0, x1, x2, x3, x4⟩ := (HIS.out wr HBk.out).1 i x HXI.out
                    obtain ⟨A, rfl, y0, y1, y2, y3, y4⟩ := (HOS.out wr HBk.out).1 k y hy
                    have hxv := (HIS.out wr HBk.out).2 x (List.mem_of_getElem? HXI.out)
                    have hyv := (HOS.out wr HBk.out).2 y (List.mem_of_getElem? hy)
                    have HS : Hid (∀ W, Below wr.heap.size wr W → Calls Try.prog 32 #[x.v, y.v] W fun e w' => (∃ g : Bool, e = .returned (.bool g) ∧ (x.core = y.core → g = true)) ∧ Below W.heap.size W w') := fun W hW => sameOne_any x y W (hxv.1.below hW) (hyv.1.below hW) hxv.2.1 hyv.2.1
                    obtain ⟨P, hP⟩ : ∃ P : Prop, P = (x.core = y.core) := ⟨_, rfl⟩
                    rw [← hP] at HS
                    have HN : Hid (∀ g : Bool, (P → g = true) → ∀ (k' : Nat) (z : EIn), k' < k + 1 → os9[k']? = some z → x.core = z.core → g = true) := fun g hg k' z hk' hz hc => by
                      by_cases e : k' = k
                      · subst e
                        rw [hy] at hz
                        injection hz with hz
                        exact hg (by rw [hP, hz]; exact hc)
                      · exact absurd (HF.out k' z (by omega) hz hc) (by decide)
                    clear HF hy hP hxv hyv HMX HXI HME
                    obtain ⟨xt, xd, xq, xn, xa, xc, xv⟩ := x
                    obtain ⟨yt, yd, yq, yn, ya, yc, yv⟩ := y
                    dsimp only at x0 x1 x2 x3 x4 y0 y1 y2 y3 y4
                    unfold efld at x1 x2 x3 x4 y1 y2 y3 y4
                    unfold EIn.v at HS
                    dsimp only at HS
                    obtain ⟨xl, hxl⟩ : ∃ xl, xv.length = xl := ⟨_, rfl⟩
                    obtain ⟨yl, hyl⟩ : ∃ yl, yv.length = yl := ⟨_, rfl⟩
                    rw [hxl] at x4
                    rw [hyl] at y4
                    rw [hxl, hyl] at HS
                    have hk0 : (0 : Int) ≤ (k : Int) := by omega
                    have hk1 : (k : Int) < (m : Int) := by omega
                    have hk2 : (0 : Int) ≤ (i : Int) := by omega
                    have hk3 : (i : Int) < (m : Int) := by omega
                    clear hxl hyl
                    go_upto_region 33 with fail
                    refine wp_region_held_drew (S := (fun W => W.cell? (B.add (i * 5)) = some (.int .i64 xt) ∧ W.cell? ⟨(B.add (i * 5)).block, (B.add (i * 5)).off + 1, none⟩ = some (.int .i64 xd) ∧ W.cell? ⟨(B.add (i * 5)).block, (B.add (i * 5)).off + 2, none⟩ = some (.int .i64 xq) ∧ W.cell? ⟨(B.add (i * 5)).block, (B.add (i * 5)).off + 3, none⟩ = some (.string xn) ∧ W.cell? ⟨(B.add (i * 5)).block, (B.add (i * 5)).off + 4, none⟩ = some (.slice xa xl xc) ∧ W.cell? (A.add (k * 5)) = some (.int .i64 yt) ∧ W.cell? ⟨(A.add (k * 5)).block, (A.add (k * 5)).off + 1, none⟩ = some (.int .i64 yd) ∧ W.cell? ⟨(A.add (k * 5)).block, (A.add (k * 5)).off + 2, none⟩ = some (.int .i64 yq) ∧ W.cell? ⟨(A.add (k * 5)).block, (A.add (k * 5)).off + 3, none⟩ = some (.string yn) ∧ W.cell? ⟨(A.add (k * 5)).block, (A.add (k * 5)).off + 4, none⟩ = some (.slice ya yl yc) ∧ Hid (Below wr.heap.size wr W))) (by kernel_rfl) ⟨x0, x1, x2, x3, x4, y0, y1, y2, y3, y4, vbelow_drew (Below.refl _ _)⟩ (fun hHeld => ?_)
                    refine takeH 0 129 (v := ?vb0) rfl (by kernel_rfl) (by kernel_rfl) (by kernel_rfl) rfl (fun _ _ _ h => h) (by rfl) ?yb0 (by assumption) ?rb0
                    case yb0 => (intro W hSw; (try dsimp only at hSw); go_simp; try with_reducible rfl)
                    try simp only [Act.put, List.setIfInBounds_toArray, List.set_cons_zero, List.set_cons_succ]
                    refine takeH 1 130 (v := ?vb1) rfl (by kernel_rfl) (by kernel_rfl) (by kernel_rfl) rfl (fun _ _ _ h => h) (by rfl) ?yb1 (by assumption) ?rb1
                    case yb1 => (intro W hSw; (try dsimp only at hSw); go_simp; try with_reducible rfl)
                    try simp only [Act.put, List.setIfInBounds_toArray, List.set_cons_zero, List.set_cons_succ]
                    refine takeH 2 131 (v := ?vb2) rfl (by kernel_rfl) (by kernel_rfl) (by kernel_rfl) rfl (fun _ _ _ h => h) (by rfl) ?yb2 (by assumption) ?rb2
                    case yb2 => (intro W hSw; (try dsimp only at hSw); go_simp; try with_reducible rfl)
                    try simp only [Act.put, List.setIfInBounds_toArray, List.set_cons_zero, List.set_cons_succ]
                    refine takeH 3 132 (v := ?vb3) rfl (by kernel_rfl) (by kernel_rfl) (by kernel_rfl) rfl (fun _ _ _ h => h) (by rfl) ?yb3 (by assumption) ?rb3
                    case yb3 => (intro W hSw; (try dsimp only at hSw); go_simp; try with_reducible rfl)
                    try simp only [Act.put, List.setIfInBounds_toArray, List.set_cons_zero, List.set_cons_succ]
                    refine takeH 4 133 (v := ?vb4) rfl (by kernel_rfl) (by kernel_rfl) (by kernel_rfl) rfl (fun _ _ _ h => h) (by rfl) ?yb4 (by assumption) ?rb4
                    case yb4 => (intro W hSw; (try dsimp only at hSw); go_simp; try with_reducible rfl)
                    try simp only [Act.put, List.setIfInBounds_toArray, List.set_cons_zero, List.set_cons_succ]
                    refine takeH 5 134 (v := ?vb5) rfl (by kernel_rfl) (by kernel_rfl) (by kernel_rfl) rfl (fun _ _ _ h => h) (by rfl) ?yb5 (by assumption) ?rb5
                    case yb5 => (intro W hSw; (try dsimp only at hSw); go_simp; try with_reducible rfl)
                    try simp only [Act.put, List.setIfInBounds_toArray, List.set_cons_zero, List.set_cons_succ]
                    refine takeH 6 135 (v := ?vb6) rfl (by kernel_rfl) (by kernel_rfl) (by kernel_rfl) rfl (fun _ _ _ h => h) (by rfl) ?yb6 (by assumption) ?rb6
                    case yb6 => (intro W hSw; (try dsimp only at hSw); go_simp; try with_reducible rfl)
                    try simp only [Act.put, List.setIfInBounds_toArray, List.set_cons_zero, List.set_cons_succ]
                    refine takeH 7 136 (v := ?vb7) rfl (by kernel_rfl) (by kernel_rfl) (by kernel_rfl) rfl (fun _ _ _ h => h) (by rfl) ?yb7 (by assumption) ?rb7
                    case yb7 => (intro W hSw; (try dsimp only at hSw); go_simp; try with_reducible rfl)
                    try simp only [Act.put, List.setIfInBounds_toArray, List.set_cons_zero, List.set_cons_succ]
                    refine takeH 8 137 (v := ?vb8) rfl (by kernel_rfl) (by kernel_rfl) (by kernel_rfl) rfl (fun _ _ _ h => h) (by rfl) ?yb8 (by assumption) ?rb8
                    case yb8 => (intro W hSw; (try dsimp only at hSw); go_simp; try with_reducible rfl)
                    try simp only [Act.put, List.setIfInBounds_toArray, List.set_cons_zero, List.set_cons_succ]
                    refine takeH 9 138 (v := ?vb9) rfl (by kernel_rfl) (by kernel_rfl) (by kernel_rfl) rfl (fun _ _ _ h => h) (by rfl) ?yb9 (by assumption) ?rb9
                    case yb9 => (intro W hSw; (try dsimp only at hSw); go_simp; try with_reducible rfl)
                    try simp only [Act.put, List.setIfInBounds_toArray, List.set_cons_zero, List.set_cons_succ]
                    refine wpAnyH_ready (rs := [10]) (by kernel_rfl) (by simp) ?_
                    refine AllReadyH.cons (o := _) rfl (fun K hK => ?_) AllReadyH.nil
                    dsimp only [List.getElem_toArray, List.getElem_cons_succ, List.getElem_cons_zero]
                    go_simp
                    go_at_call 32
                    (with_reducible refine (HS.out _ hHeld.2.2.2.2.2.2.2.2.2.2.out).mono ?_)
                    rintro e w2 ⟨⟨g, rfl, hg⟩, hb2⟩
                    have HB2 := Lib.hid (hHeld.2.2.2.2.2.2.2.2.2.2.out.trans (hb2.mono hHeld.2.2.2.2.2.2.2.2.2.2.out.size))
                    go_wp2_with fail
                    refine hK.out _ _ ⟨ekeep hb2 hHeld.1, ekeep hb2 hHeld.2.1, ekeep hb2 hHeld.2.2.1, ekeep hb2 hHeld.2.2.2.1, ekeep hb2 hHeld.2.2.2.2.1, ekeep hb2 hHeld.2.2.2.2.2.1, ekeep hb2 hHeld.2.2.2.2.2.2.1, ekeep hb2 hHeld.2.2.2.2.2.2.2.1, ekeep hb2 hHeld.2.2.2.2.2.2.2.2.1, ekeep hb2 hHeld.2.2.2.2.2.2.2.2.2.1, HB2⟩ (fun hHeld => ?_)
                    clear hK K
                    try simp only [Act.put, List.setIfInBounds_toArray, List.set_cons_zero, List.set_cons_succ]
                    refine takeH 11 140 (v := ?vb11) rfl (by kernel_rfl) (by kernel_rfl) (by kernel_rfl) rfl (fun _ _ _ h => h) (by rfl) ?yb11 (by assumption) ?rb11
                    case yb11 => (intro W hSw; (try dsimp only at hSw); go_simp; try with_reducible rfl)
                    try simp only [Act.put, List.setIfInBounds_toArray, List.set_cons_zero, List.set_cons_succ]
                    refine takeH 12 14 (v := ?vb12) rfl (by kernel_rfl) (by kernel_rfl) (by kernel_rfl) rfl (fun _ _ _ h => h) (by rfl) ?yb12 (by assumption) ?rb12
                    case yb12 => (intro W hSw; (try dsimp only at hSw); go_simp; try with_reducible rfl)
                    try simp only [Act.put, List.setIfInBounds_toArray, List.set_cons_zero, List.set_cons_succ]
                    refine wpAnyH_done (by kernel_rfl) ?_ _
                    go_wp2
                    go_roundw
                    case rel => exact ⟨k + 1, g, rfl, by go_num, by omega, HBk.out.trans (HB2.out.mono HBk.out.size), HN.out g hg⟩
                    case measure => simp [intOf]; omega
                · obtain rfl : k = m := by omega
                  obtain ⟨j, y, hj, hy, hc⟩ := HMX.out
                  obtain rfl : b = true := HF.out j y hj hy hc
                  clear hy hc
                  go_wp2
                  go_roundw
                  case rel => exact ⟨i + 1, by go_num, by omega, HBk⟩
                  case measure => simp [intOf]; omega
            · have hd4 : decide ((i : Int) < (m : Int)) = false := by simp; omega
              go_wp2
              go_ret
              exact ⟨rfl, HWA.out.trans (HB.out.mono HWA.out.size)⟩

end Go.Proofs.Ytfmlgckfcclojaa
namespace Go.Proofs.Ytfmlgckfcclojaa
open Go.ChangeShapes Go.WideShapes Go.ChangeAt Go.RowKit Go.Lib Go.Deep
open Go.ChangeMaps (open_string shut_string)

instance : Inhabited OpIn := ⟨⟨0, default, 0⟩⟩

section
variable {H : Type} {enc : TypeId × Value → H} {w : World} {base : Nat} {spare : Nat → Bool} {held : Bool}

set_option maxRecDepth 100000 in
theorem open_oops {fuel : Nat} {a : Option Addr} {len cap : Nat} {x : DataW H × List MemPlace} (h : DataW.trod enc Try.prog w base spare held fuel 58 [.slice a len cap] = some x) :
    ∃ es : List OpIn, len = es.length ∧ es.length ≤ maxLen ∧ OpRow w a es := by
  rcases open_slice Try.underlying58 h with ⟨hcs, _⟩ | ⟨A, l, c, m, n, D, Pl, hcs, _, hl, hm, hmm, _, hx⟩
  · simp at hcs
    obtain ⟨rfl, rfl, rfl⟩ := hcs
    exact ⟨[], rfl, Nat.zero_le _, fun j s hj => by simp at hj⟩
  · simp at hcs
    obtain ⟨rfl, rfl, rfl⟩ := hcs
    have hlm : len ≤ m := by rw [hmm]; split <;> omega
    have c7 : Try.prog.cellsOf 65 = 7 := by kernel_rfl
    have hall : ∀ i, i < len → ∃ q : OpIn, w.cell? (A.add (i * 7)) = some (.int .i64 q.what) ∧ w.cell? (efld A 7 i 1) = some (.int .i64 q.e.ts) ∧ w.cell? (efld A 7 i 2) = some (.int .i64 q.e.dep) ∧ w.cell? (efld A 7 i 3) = some (.int .i64 q.e.seq) ∧ w.cell? (efld A 7 i 4) = some (.string q.e.nm) ∧ w.cell? (efld A 7 i 5) = some (.slice q.e.a q.e.vs.length q.e.c) ∧ w.cell? (efld A 7 i 6) = some (.int .i64 q.n) ∧
        VRow w q.e.a q.e.vs ∧ q.e.vs.length ≤ maxLen ∧ q.e.nm.size ≤ maxLen := fun i hi => by
      obtain ⟨cs', h1, h2⟩ := hx i (by omega)
      rw [c7] at h1
      obtain ⟨_, hlen, hcell⟩ := World.cells?_some h1
      obtain ⟨xs, k, hk, hxy, _, hxl, hf⟩ := DataW.trod_struct Try.underlying65 h2
      match xs, hxl, cs', hlen with
      | [z0, z1, z2], _, [u0, v0, v1, v2, v3, v4, u6], _ =>
        have ki : Try.prog.cellsOf 3 = 1 := by kernel_rfl
        have ke : Try.prog.cellsOf 25 = 5 := by kernel_rfl
        have k0 : Try.prog.cellsOf 2 = 1 := by kernel_rfl
        have f0 := hf 0 _ rfl
        have f1 := hf 1 _ rfl
        have f2 := hf 2 _ rfl
        simp [ki] at f0
        simp [ki, ke] at f1
        simp [ki, ke, k0] at f2
        have p0 : w.cell? (A.add (i * 7)) = some u0 := hcell 0 (by omega)
        have e0 : w.cell? (efld A 7 i 1) = some v0 := hcell 1 (by omega)
        have e1 : w.cell? (efld A 7 i 2) = some v1 := hcell 2 (by omega)
        have e2 : w.cell? (efld A 7 i 3) = some v2 := hcell 3 (by omega)
        have e3 : w.cell? (efld A 7 i 4) = some v3 := hcell 4 (by omega)
        have e4 : w.cell? (efld A 7 i 5) = some v4 := hcell 5 (by omega)
        have p6 : w.cell? (efld A 7 i 6) = some u6 := hcell 6 (by omega)
        obtain ⟨m0, hu0, _, _⟩ := DataW.trod_int Try.underlying3 f0
        obtain ⟨m6, hu6, _, _⟩ := DataW.trod_int Try.underlying2 f2
        simp at hu0 hu6
        subst hu0 hu6
        obtain ⟨ys, k', hk', hxy', _, hyl, hg⟩ := DataW.trod_struct Try.underlying25 f1
        match ys, hyl with
        | [y0, y1, y2, y3, y4], _ =>
          have k1 : Try.prog.cellsOf 3 = 1 := by kernel_rfl
          have k3 : Try.prog.cellsOf 9 = 1 := by kernel_rfl
          have k4 : Try.prog.cellsOf 23 = 1 := by kernel_rfl
          have g0 := hg 0 _ rfl
          have g1 := hg 1 _ rfl
          have g2 := hg 2 _ rfl
          have g3 := hg 3 _ rfl
          have g4 := hg 4 _ rfl
          simp [k0] at g0
          simp [k1] at g1
          simp [k0] at g2
          simp [k3] at g3
          simp [k4] at g4
          obtain ⟨n0, hv0, _, _⟩ := DataW.trod_int Try.underlying2 g0
          obtain ⟨n1, hv1, _, _⟩ := DataW.trod_int Try.underlying3 g1
          obtain ⟨n2, hv2, _, _⟩ := DataW.trod_int Try.underlying2 g2
          obtain ⟨s3, hv3, _, hs3⟩ := DataW.trod_string Try.underlying9 g3
          simp at hv0 hv1 hv2 hv3
          subst hv0 hv1 hv2 hv3
          obtain ⟨a4, l4, c4, rfl⟩ : ∃ a l c, v4 = .slice a l c := by
            rcases DataW.trod_slice Try.underlying23 g4 with ⟨h, _⟩ | ⟨a, l, c, _, _, _, _, h, _⟩
            · simp at h; exact ⟨_, _, _, h⟩
            · simp at h; exact ⟨_, _, _, h⟩
          obtain ⟨vs, rfl, hl4, hr4⟩ := open_vals g4
          exact ⟨⟨m0, ⟨n0, n1, n2, s3, a4, c4, vs⟩, m6⟩, p0, e0, e1, e2, e3, e4, p6, hr4, hl4, hs3⟩
    obtain ⟨q, hq⟩ := choose_lt hall
    refine ⟨(List.range len).map q, by simp, by simp; omega, fun j o hj => ⟨A, rfl, ?_⟩⟩
    obtain ⟨hjl, rfl⟩ := List.getElem?_eq_some_iff.1 hj
    simp at hjl ⊢
    exact hq j hjl
end

end Go.Proofs.Ytfmlgckfcclojaa
namespace Go.Proofs.Ytfmlgckfcclojaa
open Go.ChangeShapes Go.WideShapes Go.ChangeAt Go.RowKit Go.Lib Go.Deep
open Go.ChangeMaps (open_string shut_string)

namespace orderOne
set_option maxRecDepth 100000 in
theorem lifted (os : Os) (started : os.Started) (H : Type) (enc : TypeId × Value → H) :
    ReturnsInHanded {} Try.checked os 10 .any (Rows.orderOneSpec.pre6 enc Try.prog Try.f10 Rows.orderOneRow.domain false) (Rows.orderOneSpec.post enc Try.prog Try.f10 false true false false) := by
  refine returnsInHanded_of_change (C := Try.checked) eown_ started (by kernel_rfl) Try.func10
    (ChangeSpec.witness6 (enc := enc) (C := Try.checked) false ⟨#[], #[.slice none 0 0], []⟩ 8 (by kernel_rfl) (by kernel_rfl) (by kernel_rfl) (by kernel_rfl)) ?_
  intro W base args ds gs before hval0 hW _ _
  have hval : ∀ (j : Nat) t v, Try.f10.params[j]? = some t → args[j]? = some v → Value.okWide Try.prog W .any base t v := hval0
  have hW' := hW
  obtain ⟨p, q, hA0, hV, rfl, _, _⟩ := hW
  have hA : DataW.TrodAll enc Try.prog W 0 (fun _ => true) true Try.f10.params.toList args.toList ds p := hA0
  rw [Try.params10] at hA hval
  obtain ⟨v0, vs0, d0, ds0, p0, q0, hargs, rfl, rfl, h0, r0⟩ := trodAll_cons hA
  obtain ⟨rfl, rfl, rfl⟩ := trodAll_nil r0
  obtain rfl : args = #[v0] := by cases args; simp_all
  obtain ⟨rfl, rfl⟩ := trodVars_none hV
  have lt0 : ∀ x ∈ p0, x.block < W.heap.size := by obtain ⟨m, hm⟩ := h0; exact DataW.trod_lt m _ _ _ hm
  have k0 := h0
  obtain ⟨a0, l0, c0, rfl⟩ := okWide_slice Try.underlying58 (hval 0 58 v0 rfl rfl)
  obtain ⟨m0, hm0⟩ := h0
  obtain ⟨os0, rfl, hl0, hr0⟩ := open_oops hm0
  clear hA0 hval0
  refine (one_walk W a0 c0 os0 hr0 hl0).mono fun e W' ⟨he, bel⟩ => ?_
  subst he
  exact ⟨_, rfl, _, _, _, [], _, [], hW', trodAll_mk1 (shut_bool Try.underlying4 _), (trodAll_cons_mk (Below.trod elaidOut (by kernel_rfl) (of_decide_eq_true (by kernel_rfl)) k0 bel lt0) trodAll_mk0), rfl, bel.frame _, fun h => by cases h⟩

theorem holds : Rows.OrderOneSaid :=
  OpenClaim.holds_of_wide 10 Try.f10 rfl rfl rfl rfl rfl rfl rfl ⟨rfl, rfl, rfl, rfl, rfl⟩ rfl rfl rfl rfl rfl (by kernel_rfl) Try.func10 (by kernel_rfl)
    (of_decide_eq_true (by kernel_rfl)) (by unfold Func.isWrapper; first | (rw [if_pos (by decide +kernel)]; kernel_rfl) | (rw [if_neg (by decide +kernel)]; exact ⟨rfl, rfl⟩))
    (fun os started H enc _ => lifted os started H enc)
end orderOne
end Go.Proofs.Ytfmlgckfcclojaa

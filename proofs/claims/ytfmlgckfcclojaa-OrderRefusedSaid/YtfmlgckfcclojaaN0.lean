/- OrderRefused holds: what is refused changes nothing; a time that is behind is; an event behind its time is. No condition. -/
import Derived.Test.YtfmlgckfcclojaaMB
import Derived.Deep.RegionHeld3
namespace Go.Proofs.Ytfmlgckfcclojaa
open Go.RowKit Go.Lib Go.Op

def greatM : Int → List VIn → Int
  | m, [] => m
  | m, x :: r => if m < 9000 then greatM (wrap64 (m + min (x.2.2.size : Int) 9000)) r else m
def greatEB (nm : ByteArray) (vs : List VIn) : Bool := decide (9000 ≤ greatM (wrap64 ((nm.size : Int) + (vs.length : Int))) vs)
theorem greatM_big {m : Int} (h : ¬ m < 9000) : ∀ vs, greatM m vs = m
  | [] => rfl
  | x :: r => by rw [greatM, if_neg h]

set_option maxHeartbeats 2000000 in
set_option maxRecDepth 100000 in
theorem greatEB_calls (t d s : Int) (n : ByteArray) (a : Option Addr) (c : Nat) (vs : List VIn) (w : World) (hn : n.size ≤ maxLen) (hv : VRow w a vs) (hl : vs.length ≤ maxLen) :
    Calls Try.prog 16 #[evV t d s n (.slice a vs.length c)] w fun e w' => e = .returned (.bool (greatEB n vs)) ∧ Below w.heap.size w w' := by
  have hb0 : Below w.heap.size w (w.alloc (.cells #[.int .i64 t, .int .i64 d, .int .i64 s, .string n, .slice a vs.length c] 25)) := (Below.refl _ _).alloc (Nat.le_refl _) _
  have HV := Lib.hid (hv.below hb0)
  obtain ⟨z, hz⟩ : ∃ z, greatM (wrap64 ((n.size : Int) + (vs.length : Int))) vs = z := ⟨_, rfl⟩
  unfold greatEB
  rw [hz]
  obtain ⟨l, hll⟩ : ∃ l, vs.length = l := ⟨_, rfl⟩
  have Hl := Lib.hid hll
  rw [hll] at hl hb0 HV hz ⊢
  have HB0 := Lib.hid hb0
  have Hz := Lib.hid hz
  unfold maxLen at hl hn
  clear hv hll hb0 hz
  go_enter Try.func16, Try.ntmps16
  go_wp2
  go_loop [3, 4] (fun x i => ∃ (k : Nat) (m : Int), i = .int .i64 k ∧ k ≤ l ∧ x = .int .i64 m ∧ Hid (greatM m (vs.drop k) = z)) (fun _ i => l - (intOf i).toNat)
  case atStart => exact ⟨0, _, rfl, Nat.zero_le _, rfl, Hz⟩
  case round =>
    obtain ⟨k, m, rfl, hk, rfl, HM⟩ := hrel
    by_cases hlt : k < l
    · by_cases hm : m < 9000
      · obtain ⟨x, hx⟩ : ∃ x, vs[k]? = some x := ⟨_, List.getElem?_eq_getElem (by rw [Hl.out]; exact hlt)⟩
        obtain ⟨A, rfl, c0, c1, c2, hs⟩ := HV.out k x hx
        have hdr : vs.drop k = x :: vs.drop (k + 1) := by
          rw [List.drop_eq_getElem_cons (by rw [Hl.out]; exact hlt)]
          congr 1
          rw [List.getElem?_eq_getElem (by rw [Hl.out]; exact hlt)] at hx
          injection hx
        have HN : Hid (greatM (wrap64 (m + min (x.2.2.size : Int) 9000)) (vs.drop (k + 1)) = z) := by
          show _ = _
          rw [← HM.out, hdr, greatM, if_pos hm]
        obtain ⟨k1, n1, s1⟩ := x
        dsimp only at c0 c1 c2 hs HN
        unfold efld at c1 c2
        have hd : decide (m < 9000) = true := by simpa using hm
        clear hx hdr
        go_wp2
        go_round
        case rel => exact ⟨k + 1, _, by go_num, by omega, rfl, HN⟩
        case measure => simp [intOf]; omega
      · have hd : decide (m < 9000) = false := by simpa using hm
        have HE : Hid (m = z) := by show _ = _; rw [← HM.out, greatM_big hm]
        go_wp2
        go_ret
        exact ⟨vret_bool (by have h := HE.out; symm; rw [decide_eq_true_eq]; omega), HB0.out⟩
    · have HE : Hid (m = z) := by
        show _ = _
        rw [← HM.out, List.drop_of_length_le (by rw [Hl.out]; omega)]
        rfl
      go_wp2
      go_ret
      exact ⟨vret_bool (by rw [HE.out]), HB0.out⟩

end Go.Proofs.Ytfmlgckfcclojaa
namespace Go.Proofs.Ytfmlgckfcclojaa
open Go.RowKit Go.Lib Go.Op

/-- A call, as it was handed in. -/
structure OpIn where
  what : Int
  e : EIn
  n : Int

def OpRow (w : World) (a : Option Addr) (l : List OpIn) : Prop := ∀ j x, l[j]? = some x → ∃ A, a = some A ∧ w.cell? (A.add (j * 7)) = some (.int .i64 x.what) ∧ w.cell? (efld A 7 j 1) = some (.int .i64 x.e.ts) ∧ w.cell? (efld A 7 j 2) = some (.int .i64 x.e.dep) ∧ w.cell? (efld A 7 j 3) = some (.int .i64 x.e.seq) ∧ w.cell? (efld A 7 j 4) = some (.string x.e.nm) ∧ w.cell? (efld A 7 j 5) = some (.slice x.e.a x.e.vs.length x.e.c) ∧ w.cell? (efld A 7 j 6) = some (.int .i64 x.n) ∧
  VRow w x.e.a x.e.vs ∧ x.e.vs.length ≤ maxLen ∧ x.e.nm.size ≤ maxLen

theorem OpRow.below {w w' : World} {a : Option Addr} {l : List OpIn} (h : OpRow w a l) (hb : Below w.heap.size w w') : OpRow w' a l := fun j x hj => by
  obtain ⟨A, e, h0, h1, h2, h3, h4, h5, h6, h7, h8, h9⟩ := h j x hj
  exact ⟨A, e, ekeep hb h0, ekeep hb h1, ekeep hb h2, ekeep hb h3, ekeep hb h4, ekeep hb h5, ekeep hb h6, h7.below hb, h8, h9⟩

/-- What Great answers. -/
def OGreatP (w : World) (n : Nat) (e : Ending) (w' : World) : Prop := ∃ g : Bool, e = .returned (.bool g) ∧ Below w.heap.size w w' ∧ (g = false → n ≤ 600)

section
variable {P : Program} {ops : Array Oper} {Q : Exit → Act → World → Prop} {md : Region.Mode} {S : World → Prop}

/-- An operation that is not wanted is passed over. -/
theorem passH (i d : Nat) {fuel : Nat} {listed : Array Bool} {a : Act} {w : World} (hs : Region.noSelect ops = true) (hf : Region.free md ops listed i = true)
    (hr : (Region.ready md ops listed).contains i = true) (hd : (ops[i]?).map (·.dst) = some (some d)) (hw : ((ops[i]?).map fun o => Region.wanted o (yielded ops a.tmps)) = some false)
    (hQ : ∀ c a w, Q (.panic c) (a.put (some d) undef) w → Q (.panic c) a w) (hS : S w)
    (h : wpAnyH P md ops Q S fuel (listed.setIfInBounds i true) (a.put (some d) undef) w) : wpAnyH P md ops Q S (fuel + 1) listed a w := by
  cases ho : ops[i]? with
  | none => rw [ho] at hd; cases hd
  | some o =>
    rw [ho] at hd hw
    simp only [Option.map_some, Option.some.injEq] at hd hw
    refine wpAnyH_take ho hs hf hr ?_ (Or.inr ⟨hw, rfl⟩) hS ?_
    · rw [hd]; exact hQ
    · rw [hd]; exact h

/-- An operation that is wanted, and yields v. -/
theorem takeH (i d : Nat) {o : Oper} {v : Value} {fuel : Nat} {listed : Array Bool} {a : Act} {w : World} (ho : ops[i]? = some o) (hs : Region.noSelect ops = true) (hf : Region.free md ops listed i = true)
    (hr : (Region.ready md ops listed).contains i = true) (hd : o.dst = some d)
    (hQ : ∀ c a w, Q (.panic c) (a.put (some d) v) w → Q (.panic c) a w) (hw : Region.wanted o (yielded ops a.tmps) = true) (hy : ∀ w, S w → (execOp a.eval o).run P w = .ok (.value v) w) (hS : S w)
    (h : wpAnyH P md ops Q S fuel (listed.setIfInBounds i true) (a.put (some d) v) w) : wpAnyH P md ops Q S (fuel + 1) listed a w :=
  wpAnyH_take ho hs hf hr (by rw [hd]; exact hQ) (Or.inl ⟨hw, hy⟩) hS (by rw [hd]; exact h)
end

set_option maxHeartbeats 4000000 in
set_option maxRecDepth 100000 in
theorem ogreat_calls (w : World) (a : Option Addr) (c : Nat) (l : List OpIn) (hl : OpRow w a l) (hn : l.length ≤ maxLen) :
    Calls Try.prog 39 #[.slice a l.length c] w (OGreatP w l.length) := by
  have HL := Lib.hid hl
  obtain ⟨n, hnn⟩ : ∃ n, l.length = n := ⟨_, rfl⟩
  have Hn := Lib.hid hnn
  rw [hnn] at hn ⊢
  unfold maxLen at hn
  clear hl hnn
  go_enter Try.func39, Try.ntmps39
  go_wp2
  go_loopw [3] (fun i wr => ∃ k : Nat, i = .int .i64 k ∧ k ≤ n ∧ Hid (Below w.heap.size w wr)) (fun i _ => n - (intOf i).toNat)
  case atStart => exact ⟨0, rfl, Nat.zero_le _, Below.refl _ _⟩
  case round =>
    obtain ⟨k, rfl, hk, HB⟩ := hrel
    by_cases hlt : k < n
    · by_cases h7 : k < 700
      · have hd : decide ((k : Int) < 700) = true := by simp; omega
        obtain ⟨x, hx⟩ : ∃ x, l[k]? = some x := ⟨_, List.getElem?_eq_getElem (by rw [Hn.out]; exact hlt)⟩
        obtain ⟨A, rfl, c0, c1, c2, c3, c4, c5, c6, h7, h8, h9⟩ := (HL.out.below HB.out) k x hx
        obtain ⟨wh, ⟨t, d, s, nm, va, vc, vs⟩, xn⟩ := x
        unfold efld at c1 c2 c3 c4 c5 c6
        dsimp only at c0 c1 c2 c3 c4 c5 c6 h7 h8 h9
        obtain ⟨g, hg⟩ : ∃ g, greatEB nm vs = g := ⟨_, rfl⟩
        have HG : Hid (∀ W, (W.cell? ⟨(A.add (k * 7)).block, (A.add (k * 7)).off + 1, none⟩ = some (.int .i64 t) ∧ W.cell? ⟨(A.add (k * 7)).block, (A.add (k * 7)).off + 2, none⟩ = some (.int .i64 d) ∧ W.cell? ⟨(A.add (k * 7)).block, (A.add (k * 7)).off + 3, none⟩ = some (.int .i64 s) ∧ W.cell? ⟨(A.add (k * 7)).block, (A.add (k * 7)).off + 4, none⟩ = some (.string nm) ∧ W.cell? ⟨(A.add (k * 7)).block, (A.add (k * 7)).off + 5, none⟩ = some (.slice va vs.length vc) ∧ Hid (Below wr.heap.size wr W)) → Calls Try.prog 16 #[evV t d s nm (.slice va vs.length vc)] W fun e w' => e = .returned (.bool g) ∧ w'.cell? ⟨(A.add (k * 7)).block, (A.add (k * 7)).off + 1, none⟩ = some (.int .i64 t) ∧ w'.cell? ⟨(A.add (k * 7)).block, (A.add (k * 7)).off + 2, none⟩ = some (.int .i64 d) ∧ w'.cell? ⟨(A.add (k * 7)).block, (A.add (k * 7)).off + 3, none⟩ = some (.int .i64 s) ∧ w'.cell? ⟨(A.add (k * 7)).block, (A.add (k * 7)).off + 4, none⟩ = some (.string nm) ∧ w'.cell? ⟨(A.add (k * 7)).block, (A.add (k * 7)).off + 5, none⟩ = some (.slice va vs.length vc) ∧ Hid (Below wr.heap.size wr w')) := fun W ⟨a1, a2, a3, a4, a5, hB⟩ =>
          (greatEB_calls t d s nm va vc vs W h9 (h7.below hB.out) h8).mono fun e w' ⟨he, hb⟩ => ⟨by rw [he, hg], ekeep hb a1, ekeep hb a2, ekeep hb a3, ekeep hb a4, ekeep hb a5, hB.out.trans (hb.mono hB.out.size)⟩
        clear hg
        obtain ⟨q, hq⟩ : ∃ q, vs.length = q := ⟨_, rfl⟩
        rw [hq] at c5 HG h8
        have hk0 : (0 : Int) ≤ (k : Int) := by omega
        have hk1 : (k : Int) < (n : Int) := by omega
        unfold maxLen at h8 h9
        clear hx h7 hq HL
        go_upto_region 4 with fail
        have d1 : wr.drew.cell? _ = _ := c1
        have d2 : wr.drew.cell? _ = _ := c2
        have d3 : wr.drew.cell? _ = _ := c3
        have d4 : wr.drew.cell? _ = _ := c4
        have d5 : wr.drew.cell? _ = _ := c5
        have d6 : Hid (Below wr.heap.size wr wr.drew) := vbelow_drew (Below.refl _ _)
        clear c0 c1 c2 c3 c4 c5 c6
        cases g with
        | true =>
          refine wp_region_held_drew (S := (fun W => W.cell? ⟨(A.add (k * 7)).block, (A.add (k * 7)).off + 1, none⟩ = some (.int .i64 t) ∧ W.cell? ⟨(A.add (k * 7)).block, (A.add (k * 7)).off + 2, none⟩ = some (.int .i64 d) ∧ W.cell? ⟨(A.add (k * 7)).block, (A.add (k * 7)).off + 3, none⟩ = some (.int .i64 s) ∧ W.cell? ⟨(A.add (k * 7)).block, (A.add (k * 7)).off + 4, none⟩ = some (.string nm) ∧ W.cell? ⟨(A.add (k * 7)).block, (A.add (k * 7)).off + 5, none⟩ = some (.slice va q vc) ∧ Hid (Below wr.heap.size wr W))) (by kernel_rfl) (by refine ⟨?_, ?_, ?_, ?_, ?_, ?_⟩ <;> assumption) (fun hHeld => ?_)
          refine takeH 0 14 (v := ?va0) rfl (by kernel_rfl) (by kernel_rfl) (by kernel_rfl) rfl (fun _ _ _ h => h) (by rfl) ?ya0 (by assumption) ?ra0
          case ya0 => (intro W hSw; (try dsimp only at hSw); go_simp; try with_reducible rfl)
          try simp only [Act.put, List.setIfInBounds_toArray, List.set_cons_zero, List.set_cons_succ]
          refine takeH 1 15 (v := ?va1) rfl (by kernel_rfl) (by kernel_rfl) (by kernel_rfl) rfl (fun _ _ _ h => h) (by rfl) ?ya1 (by assumption) ?ra1
          case ya1 => (intro W hSw; (try dsimp only at hSw); go_simp; try with_reducible rfl)
          try simp only [Act.put, List.setIfInBounds_toArray, List.set_cons_zero, List.set_cons_succ]
          refine takeH 2 16 (v := ?va2) rfl (by kernel_rfl) (by kernel_rfl) (by kernel_rfl) rfl (fun _ _ _ h => h) (by rfl) ?ya2 (by assumption) ?ra2
          case ya2 => (intro W hSw; (try dsimp only at hSw); go_simp; try with_reducible rfl)
          try simp only [Act.put, List.setIfInBounds_toArray, List.set_cons_zero, List.set_cons_succ]
          refine takeH 3 17 (v := ?va3) rfl (by kernel_rfl) (by kernel_rfl) (by kernel_rfl) rfl (fun _ _ _ h => h) (by rfl) ?ya3 (by assumption) ?ra3
          case ya3 => (intro W hSw; (try dsimp only at hSw); go_simp; try with_reducible rfl)
          try simp only [Act.put, List.setIfInBounds_toArray, List.set_cons_zero, List.set_cons_succ]
          refine takeH 4 18 (v := ?va4) rfl (by kernel_rfl) (by kernel_rfl) (by kernel_rfl) rfl (fun _ _ _ h => h) (by rfl) ?ya4 (by assumption) ?ra4
          case ya4 => (intro W hSw; (try dsimp only at hSw); go_simp; try with_reducible rfl)
          try simp only [Act.put, List.setIfInBounds_toArray, List.set_cons_zero, List.set_cons_succ]
          refine wpAnyH_ready (rs := [5]) (by kernel_rfl) (by simp) ?_
          refine AllReadyH.cons (o := _) rfl (fun K hK => ?_) AllReadyH.nil
          dsimp only [List.getElem_toArray, List.getElem_cons_succ, List.getElem_cons_zero]
          go_simp
          go_at_call 16
          (with_reducible refine (HG.out _ ?_).mono ?_)
          · (refine ⟨?_, ?_, ?_, ?_, ?_, ?_⟩ <;> assumption)
          rintro e w2 ⟨rfl, s1, s2, s3, s4, s5, s6⟩
          go_wp2_with fail
          refine hK.out _ _ ⟨s1, s2, s3, s4, s5, s6⟩ (fun hHeld => ?_)
          clear hK K
          try simp only [Act.put, List.setIfInBounds_toArray, List.set_cons_zero, List.set_cons_succ]
          refine takeH 6 20 (v := ?va6) rfl (by kernel_rfl) (by kernel_rfl) (by kernel_rfl) rfl (fun _ _ _ h => h) (by rfl) ?ya6 (by assumption) ?ra6
          case ya6 => (intro W hSw; (try dsimp only at hSw); go_simp; try with_reducible rfl)
          try simp only [Act.put, List.setIfInBounds_toArray, List.set_cons_zero, List.set_cons_succ]
          refine passH 7 21 (by kernel_rfl) (by kernel_rfl) (by kernel_rfl) (by kernel_rfl) (by rfl) (fun _ _ _ h => h) (by assumption) ?_
          try simp only [Act.put, List.setIfInBounds_toArray, List.set_cons_zero, List.set_cons_succ]
          refine passH 8 22 (by kernel_rfl) (by kernel_rfl) (by kernel_rfl) (by kernel_rfl) (by rfl) (fun _ _ _ h => h) (by assumption) ?_
          try simp only [Act.put, List.setIfInBounds_toArray, List.set_cons_zero, List.set_cons_succ]
          refine passH 9 23 (by kernel_rfl) (by kernel_rfl) (by kernel_rfl) (by kernel_rfl) (by rfl) (fun _ _ _ h => h) (by assumption) ?_
          try simp only [Act.put, List.setIfInBounds_toArray, List.set_cons_zero, List.set_cons_succ]
          refine passH 10 24 (by kernel_rfl) (by kernel_rfl) (by kernel_rfl) (by kernel_rfl) (by rfl) (fun _ _ _ h => h) (by assumption) ?_
          try simp only [Act.put, List.setIfInBounds_toArray, List.set_cons_zero, List.set_cons_succ]
          refine passH 11 25 (by kernel_rfl) (by kernel_rfl) (by kernel_rfl) (by kernel_rfl) (by rfl) (fun _ _ _ h => h) (by assumption) ?_
          try simp only [Act.put, List.setIfInBounds_toArray, List.set_cons_zero, List.set_cons_succ]
          refine passH 12 26 (by kernel_rfl) (by kernel_rfl) (by kernel_rfl) (by kernel_rfl) (by rfl) (fun _ _ _ h => h) (by assumption) ?_
          try simp only [Act.put, List.setIfInBounds_toArray, List.set_cons_zero, List.set_cons_succ]
          refine passH 13 27 (by kernel_rfl) (by kernel_rfl) (by kernel_rfl) (by kernel_rfl) (by rfl) (fun _ _ _ h => h) (by assumption) ?_
          try simp only [Act.put, List.setIfInBounds_toArray, List.set_cons_zero, List.set_cons_succ]
          refine passH 14 28 (by kernel_rfl) (by kernel_rfl) (by kernel_rfl) (by kernel_rfl) (by rfl) (fun _ _ _ h => h) (by assumption) ?_
          try simp only [Act.put, List.setIfInBounds_toArray, List.set_cons_zero, List.set_cons_succ]
          refine passH 15 29 (by kernel_rfl) (by kernel_rfl) (by kernel_rfl) (by kernel_rfl) (by rfl) (fun _ _ _ h => h) (by assumption) ?_
          try simp only [Act.put, List.setIfInBounds_toArray, List.set_cons_zero, List.set_cons_succ]
          refine passH 16 30 (by kernel_rfl) (by kernel_rfl) (by kernel_rfl) (by kernel_rfl) (by rfl) (fun _ _ _ h => h) (by assumption) ?_
          try simp only [Act.put, List.setIfInBounds_toArray, List.set_cons_zero, List.set_cons_succ]
          refine passH 17 31 (by kernel_rfl) (by kernel_rfl) (by kernel_rfl) (by kernel_rfl) (by rfl) (fun _ _ _ h => h) (by assumption) ?_
          try simp only [Act.put, List.setIfInBounds_toArray, List.set_cons_zero, List.set_cons_succ]
          refine passH 18 32 (by kernel_rfl) (by kernel_rfl) (by kernel_rfl) (by kernel_rfl) (by rfl) (fun _ _ _ h => h) (by assumption) ?_
          try simp only [Act.put, List.setIfInBounds_toArray, List.set_cons_zero, List.set_cons_succ]
          refine passH 19 33 (by kernel_rfl) (by kernel_rfl) (by kernel_rfl) (by kernel_rfl) (by rfl) (fun _ _ _ h => h) (by assumption) ?_
          try simp only [Act.put, List.setIfInBounds_toArray, List.set_cons_zero, List.set_cons_succ]
          refine passH 20 34 (by kernel_rfl) (by kernel_rfl) (by kernel_rfl) (by kernel_rfl) (by rfl) (fun _ _ _ h => h) (by assumption) ?_
          try simp only [Act.put, List.setIfInBounds_toArray, List.set_cons_zero, List.set_cons_succ]
          refine passH 21 35 (by kernel_rfl) (by kernel_rfl) (by kernel_rfl) (by kernel_rfl) (by rfl) (fun _ _ _ h => h) (by assumption) ?_
          try simp only [Act.put, List.setIfInBounds_toArray, List.set_cons_zero, List.set_cons_succ]
          refine passH 22 36 (by kernel_rfl) (by kernel_rfl) (by kernel_rfl) (by kernel_rfl) (by rfl) (fun _ _ _ h => h) (by assumption) ?_
          try simp only [Act.put, List.setIfInBounds_toArray, List.set_cons_zero, List.set_cons_succ]
          refine takeH 23 37 (v := ?va23) rfl (by kernel_rfl) (by kernel_rfl) (by kernel_rfl) rfl (fun _ _ _ h => h) (by rfl) ?ya23 (by assumption) ?ra23
          case ya23 => (intro W hSw; (try dsimp only at hSw); go_simp; try with_reducible rfl)
          try simp only [Act.put, List.setIfInBounds_toArray, List.set_cons_zero, List.set_cons_succ]
          refine wpAnyH_done (by kernel_rfl) ?_ _
          go_wp2
          go_ret
          exact ⟨true, rfl, HB.out.trans (s6.out.mono HB.out.size), fun h => by cases h⟩
        | false =>
          refine wp_region_held_drew (S := (fun W => W.cell? ⟨(A.add (k * 7)).block, (A.add (k * 7)).off + 1, none⟩ = some (.int .i64 t) ∧ W.cell? ⟨(A.add (k * 7)).block, (A.add (k * 7)).off + 2, none⟩ = some (.int .i64 d) ∧ W.cell? ⟨(A.add (k * 7)).block, (A.add (k * 7)).off + 3, none⟩ = some (.int .i64 s) ∧ W.cell? ⟨(A.add (k * 7)).block, (A.add (k * 7)).off + 4, none⟩ = some (.string nm) ∧ W.cell? ⟨(A.add (k * 7)).block, (A.add (k * 7)).off + 5, none⟩ = some (.slice va q vc) ∧ Hid (Below wr.heap.size wr W))) (by kernel_rfl) (by refine ⟨?_, ?_, ?_, ?_, ?_, ?_⟩ <;> assumption) (fun hHeld => ?_)
          refine takeH 0 14 (v := ?vb0) rfl (by kernel_rfl) (by kernel_rfl) (by kernel_rfl) rfl (fun _ _ _ h => h) (by rfl) ?yb0 (by assumption) ?rb0
          case yb0 => (intro W hSw; (try dsimp only at hSw); go_simp; try with_reducible rfl)
          try simp only [Act.put, List.setIfInBounds_toArray, List.set_cons_zero, List.set_cons_succ]
          refine takeH 1 15 (v := ?vb1) rfl (by kernel_rfl) (by kernel_rfl) (by kernel_rfl) rfl (fun _ _ _ h => h) (by rfl) ?yb1 (by assumption) ?rb1
          case yb1 => (intro W hSw; (try dsimp only at hSw); go_simp; try with_reducible rfl)
          try simp only [Act.put, List.setIfInBounds_toArray, List.set_cons_zero, List.set_cons_succ]
          refine takeH 2 16 (v := ?vb2) rfl (by kernel_rfl) (by kernel_rfl) (by kernel_rfl) rfl (fun _ _ _ h => h) (by rfl) ?yb2 (by assumption) ?rb2
          case yb2 => (intro W hSw; (try dsimp only at hSw); go_simp; try with_reducible rfl)
          try simp only [Act.put, List.setIfInBounds_toArray, List.set_cons_zero, List.set_cons_succ]
          refine takeH 3 17 (v := ?vb3) rfl (by kernel_rfl) (by kernel_rfl) (by kernel_rfl) rfl (fun _ _ _ h => h) (by rfl) ?yb3 (by assumption) ?rb3
          case yb3 => (intro W hSw; (try dsimp only at hSw); go_simp; try with_reducible rfl)
          try simp only [Act.put, List.setIfInBounds_toArray, List.set_cons_zero, List.set_cons_succ]
          refine takeH 4 18 (v := ?vb4) rfl (by kernel_rfl) (by kernel_rfl) (by kernel_rfl) rfl (fun _ _ _ h => h) (by rfl) ?yb4 (by assumption) ?rb4
          case yb4 => (intro W hSw; (try dsimp only at hSw); go_simp; try with_reducible rfl)
          try simp only [Act.put, List.setIfInBounds_toArray, List.set_cons_zero, List.set_cons_succ]
          refine wpAnyH_ready (rs := [5]) (by kernel_rfl) (by simp) ?_
          refine AllReadyH.cons (o := _) rfl (fun K hK => ?_) AllReadyH.nil
          dsimp only [List.getElem_toArray, List.getElem_cons_succ, List.getElem_cons_zero]
          go_simp
          go_at_call 16
          (with_reducible refine (HG.out _ ?_).mono ?_)
          · (refine ⟨?_, ?_, ?_, ?_, ?_, ?_⟩ <;> assumption)
          rintro e w2 ⟨rfl, s1, s2, s3, s4, s5, s6⟩
          go_wp2_with fail
          refine hK.out _ _ ⟨s1, s2, s3, s4, s5, s6⟩ (fun hHeld => ?_)
          clear hK K
          try simp only [Act.put, List.setIfInBounds_toArray, List.set_cons_zero, List.set_cons_succ]
          refine takeH 6 20 (v := ?vb6) rfl (by kernel_rfl) (by kernel_rfl) (by kernel_rfl) rfl (fun _ _ _ h => h) (by rfl) ?yb6 (by assumption) ?rb6
          case yb6 => (intro W hSw; (try dsimp only at hSw); go_simp; try with_reducible rfl)
          try simp only [Act.put, List.setIfInBounds_toArray, List.set_cons_zero, List.set_cons_succ]
          refine takeH 7 21 (v := ?vb7) rfl (by kernel_rfl) (by kernel_rfl) (by kernel_rfl) rfl (fun _ _ _ h => h) (by rfl) ?yb7 (by assumption) ?rb7
          case yb7 => (intro W hSw; (try dsimp only at hSw); go_simp; try with_reducible rfl)
          try simp only [Act.put, List.setIfInBounds_toArray, List.set_cons_zero, List.set_cons_succ]
          refine takeH 8 22 (v := ?vb8) rfl (by kernel_rfl) (by kernel_rfl) (by kernel_rfl) rfl (fun _ _ _ h => h) (by rfl) ?yb8 (by assumption) ?rb8
          case yb8 => (intro W hSw; (try dsimp only at hSw); go_simp; try with_reducible rfl)
          try simp only [Act.put, List.setIfInBounds_toArray, List.set_cons_zero, List.set_cons_succ]
          refine takeH 9 23 (v := ?vb9) rfl (by kernel_rfl) (by kernel_rfl) (by kernel_rfl) rfl (fun _ _ _ h => h) (by rfl) ?yb9 (by assumption) ?rb9
          case yb9 => (intro W hSw; (try dsimp only at hSw); go_simp; try with_reducible rfl)
          try simp only [Act.put, List.setIfInBounds_toArray, List.set_cons_zero, List.set_cons_succ]
          refine takeH 10 24 (v := ?vb10) rfl (by kernel_rfl) (by kernel_rfl) (by kernel_rfl) rfl (fun _ _ _ h => h) (by rfl) ?yb10 (by assumption) ?rb10
          case yb10 => (intro W hSw; (try dsimp only at hSw); go_simp; try with_reducible rfl)
          try simp only [Act.put, List.setIfInBounds_toArray, List.set_cons_zero, List.set_cons_succ]
          refine takeH 11 25 (v := ?vb11) rfl (by kernel_rfl) (by kernel_rfl) (by kernel_rfl) rfl (fun _ _ _ h => h) (by rfl) ?yb11 (by assumption) ?rb11
          case yb11 => (intro W hSw; (try dsimp only at hSw); go_simp; try with_reducible rfl)
          try simp only [Act.put, List.setIfInBounds_toArray, List.set_cons_zero, List.set_cons_succ]
          refine takeH 12 26 (v := ?vb12) rfl (by kernel_rfl) (by kernel_rfl) (by kernel_rfl) rfl (fun _ _ _ h => h) (by rfl) ?yb12 (by assumption) ?rb12
          case yb12 => (intro W hSw; (try dsimp only at hSw); go_simp; try with_reducible rfl)
          try simp only [Act.put, List.setIfInBounds_toArray, List.set_cons_zero, List.set_cons_succ]
          refine takeH 13 27 (v := ?vb13) rfl (by kernel_rfl) (by kernel_rfl) (by kernel_rfl) rfl (fun _ _ _ h => h) (by rfl) ?yb13 (by assumption) ?rb13
          case yb13 => (intro W hSw; (try dsimp only at hSw); go_simp; try with_reducible rfl)
          try simp only [Act.put, List.setIfInBounds_toArray, List.set_cons_zero, List.set_cons_succ]
          refine takeH 14 28 (v := ?vb14) rfl (by kernel_rfl) (by kernel_rfl) (by kernel_rfl) rfl (fun _ _ _ h => h) (by rfl) ?yb14 (by assumption) ?rb14
          case yb14 => (intro W hSw; (try dsimp only at hSw); go_simp; try with_reducible rfl)
          try simp only [Act.put, List.setIfInBounds_toArray, List.set_cons_zero, List.set_cons_succ]
          refine takeH 15 29 (v := ?vb15) rfl (by kernel_rfl) (by kernel_rfl) (by kernel_rfl) rfl (fun _ _ _ h => h) (by rfl) ?yb15 (by assumption) ?rb15
          case yb15 => (intro W hSw; (try dsimp only at hSw); go_simp; try with_reducible rfl)
          try simp only [Act.put, List.setIfInBounds_toArray, List.set_cons_zero, List.set_cons_succ]
          refine takeH 16 30 (v := ?vb16) rfl (by kernel_rfl) (by kernel_rfl) (by kernel_rfl) rfl (fun _ _ _ h => h) (by rfl) ?yb16 (by assumption) ?rb16
          case yb16 => (intro W hSw; (try dsimp only at hSw); go_simp; try with_reducible rfl)
          try simp only [Act.put, List.setIfInBounds_toArray, List.set_cons_zero, List.set_cons_succ]
          refine takeH 17 31 (v := ?vb17) rfl (by kernel_rfl) (by kernel_rfl) (by kernel_rfl) rfl (fun _ _ _ h => h) (by rfl) ?yb17 (by assumption) ?rb17
          case yb17 => (intro W hSw; (try dsimp only at hSw); go_simp; try with_reducible rfl)
          try simp only [Act.put, List.setIfInBounds_toArray, List.set_cons_zero, List.set_cons_succ]
          refine takeH 18 32 (v := ?vb18) rfl (by kernel_rfl) (by kernel_rfl) (by kernel_rfl) rfl (fun _ _ _ h => h) (by rfl) ?yb18 (by assumption) ?rb18
          case yb18 => (intro W hSw; (try dsimp only at hSw); go_simp; try with_reducible rfl)
          try simp only [Act.put, List.setIfInBounds_toArray, List.set_cons_zero, List.set_cons_succ]
          refine takeH 19 33 (v := ?vb19) rfl (by kernel_rfl) (by kernel_rfl) (by kernel_rfl) rfl (fun _ _ _ h => h) (by rfl) ?yb19 (by assumption) ?rb19
          case yb19 => (intro W hSw; (try dsimp only at hSw); go_simp; try with_reducible rfl)
          try simp only [Act.put, List.setIfInBounds_toArray, List.set_cons_zero, List.set_cons_succ]
          refine takeH 20 34 (v := ?vb20) rfl (by kernel_rfl) (by kernel_rfl) (by kernel_rfl) rfl (fun _ _ _ h => h) (by rfl) ?yb20 (by assumption) ?rb20
          case yb20 => (intro W hSw; (try dsimp only at hSw); go_simp; try with_reducible rfl)
          try simp only [Act.put, List.setIfInBounds_toArray, List.set_cons_zero, List.set_cons_succ]
          refine takeH 21 35 (v := ?vb21) rfl (by kernel_rfl) (by kernel_rfl) (by kernel_rfl) rfl (fun _ _ _ h => h) (by rfl) ?yb21 (by assumption) ?rb21
          case yb21 => (intro W hSw; (try dsimp only at hSw); go_simp; try with_reducible rfl)
          try simp only [Act.put, List.setIfInBounds_toArray, List.set_cons_zero, List.set_cons_succ]
          refine takeH 22 36 (v := ?vb22) rfl (by kernel_rfl) (by kernel_rfl) (by kernel_rfl) rfl (fun _ _ _ h => h) (by rfl) ?yb22 (by assumption) ?rb22
          case yb22 => (intro W hSw; (try dsimp only at hSw); go_simp; try with_reducible rfl)
          try simp only [Act.put, List.setIfInBounds_toArray, List.set_cons_zero, List.set_cons_succ]
          refine takeH 23 37 (v := ?vb23) rfl (by kernel_rfl) (by kernel_rfl) (by kernel_rfl) rfl (fun _ _ _ h => h) (by rfl) ?yb23 (by assumption) ?rb23
          case yb23 => (intro W hSw; (try dsimp only at hSw); go_simp; try with_reducible rfl)
          try simp only [Act.put, List.setIfInBounds_toArray, List.set_cons_zero, List.set_cons_succ]
          refine wpAnyH_done (by kernel_rfl) ?_ _
          obtain ⟨b, hb⟩ : ∃ b, decide (400 < IntKind.i64.wrap ((nm.size : Int) + (q : Int))) = b := ⟨_, rfl⟩
          try simp only [hb]
          cases b with
          | true =>
            go_wp2
            go_ret
            exact ⟨true, rfl, HB.out.trans (s6.out.mono HB.out.size), fun h => by cases h⟩
          | false =>
            go_wp2
            go_round
            case rel => exact ⟨k + 1, by go_num, by omega, HB.out.trans (s6.out.mono HB.out.size)⟩
            case measure => simp [intOf]; omega
      · have hd : decide ((k : Int) < 700) = false := by simp; omega
        have hd2 : decide (600 < (n : Int)) = true := by simp; omega
        go_wp2
        go_ret
        exact ⟨true, rfl, HB.out, fun h => by cases h⟩
    · by_cases h6 : 600 < n
      · have hd2 : decide (600 < (n : Int)) = true := by simp; omega
        go_wp2
        go_ret
        exact ⟨true, rfl, HB.out, fun h => by cases h⟩
      · have hd2 : decide (600 < (n : Int)) = false := by simp; omega
        go_wp2
        go_ret
        exact ⟨false, rfl, HB.out, fun _ => by omega⟩

end Go.Proofs.Ytfmlgckfcclojaa
namespace Go.Proofs.Ytfmlgckfcclojaa
open Go.RowKit Go.Lib Go.Op

/-- What is held while calls come. -/
structure RefS (w wr : World) (own : Nat → Nat) (bb : Nat) (T : Int) (M : List Core) : Prop where
  a : OBk wr own 1 bb T M
  o : OWd w wr own
theorem RefS.below {w wr w' : World} {own : Nat → Nat} {bb : Nat} {T : Int} {M : List Core} (h : RefS w wr own bb T M) (hb : Below wr.heap.size wr w') : RefS w w' own bb T M := ⟨h.a.below hb, h.o.below hb⟩

theorem fitsR {N : List Core} (h : ∀ c ∈ N, rightC c = true) : ∀ c ∈ N, c.2.2.2.2.length ≤ 1000 := fun c hc => by
  have h1 := (rightE_iff.1 (h c hc)).2.2.2.2.1
  have h2 : c.2.2.2.2.length ≤ 8 := by simpa [pe] using h1
  omega
theorem advC_went {T t : Int} (h : advC T t = 0) : advT T t = t ∧ T ≤ t := by
  refine ⟨by unfold advT; rw [if_pos h], ?_⟩
  unfold advC at h
  split at h
  · omega
  · split at h <;> omega
theorem advC_not {T t : Int} (M : List Core) (h : advC T t ≠ 0) : advT T t = T ∧ advWC T M t = M := ⟨by unfold advT; rw [if_neg h], by unfold advWC; rw [if_neg h]⟩

set_option maxHeartbeats 4000000 in
set_option maxRecDepth 100000 in
theorem refused_walk (w : World) (a : Option Addr) (c : Nat) (l : List OpIn) (hl : OpRow w a l) (hn : l.length ≤ maxLen) :
    Calls Try.prog 12 #[.slice a l.length c] w fun e w' => e = .returned (.bool true) ∧ Below w.heap.size w w' := by
  have HH := Lib.hid (ohead_calls w)
  have HL := Lib.hid hl
  have HGr : Hid (∀ W, Below w.heap.size w W → Calls Try.prog 39 #[.slice a l.length c] W (OGreatP W l.length)) := fun W hW => ogreat_calls W a c l (hl.below hW) hn
  obtain ⟨n, hnn⟩ : ∃ n, l.length = n := ⟨_, rfl⟩
  have Hn := Lib.hid hnn
  rw [hnn] at hn HGr ⊢
  unfold maxLen at hn
  clear hl hnn
  go_enter Try.func12, Try.ntmps12
  go_wp2_with fail
  with_reducible refine HH.out.mono ?_
  rintro e w1 ⟨rfl, hb1⟩
  have HO1 : Hid (OWd w w1 (fun _ => 0)) := ⟨fun _ _ => rfl, hb1, fun _ _ => rfl⟩
  clear HH hb1
  have HN := Lib.hid (HO1.out.new 1)
  go_wp2_with fail
  refine HN.out.mono ?_
  rintro e w2 ⟨own2, rfl, _, ha2, ho2⟩
  have HS2 : Hid (RefS w w2 own2 w1.heap.size (-1) []) := ⟨ha2, ho2⟩
  clear HN ha2 ho2
  obtain ⟨bb, hbb⟩ : ∃ bb, w1.heap.size = bb := ⟨_, rfl⟩
  rw [hbb] at HS2 ⊢
  clear hbb HO1
  go_wp2_with fail
  with_reducible refine (HGr.out _ HS2.out.o.hb).mono ?_
  rintro e w3 ⟨g, rfl, hb3, _⟩
  have HS3 := Lib.hid (HS2.out.below hb3)
  clear hb3 HGr HS2
  cases g with
  | true =>
    go_wp2
    go_ret
    exact ⟨rfl, HS3.out.o.hb⟩
  | false =>
  by_cases h100 : 100 < n
  · have hd : decide (100 < (n : Int)) = true := by simp; omega
    go_wp2
    go_ret
    exact ⟨rfl, HS3.out.o.hb⟩
  have hd : decide (100 < (n : Int)) = false := by simp; omega
  go_wp2_with fail
  go_loopw [5] (fun i wr => ∃ (k : Nat) (own : Nat → Nat) (T : Int) (M : List Core), i = .int .i64 k ∧ k ≤ n ∧ Hid (RefS w wr own bb T M)) (fun i _ => n - (intOf i).toNat)
  case atStart => exact ⟨0, own2, -1, [], rfl, Nat.zero_le _, HS3⟩
  case round =>
    obtain ⟨k, own, T, M, rfl, hk, HS⟩ := hrel
    by_cases hlt : k < n
    · obtain ⟨x, hx⟩ : ∃ x, l[k]? = some x := ⟨_, List.getElem?_eq_getElem (by rw [Hn.out]; exact hlt)⟩
      have hce : ∀ W, Below w.heap.size w W → _ := fun W hW => (HL.out.below hW) k x hx
      have HCE := Lib.hid hce
      obtain ⟨A, rfl, c0, c1, c2, c3, c4, c5, c6, h7, h8, h9⟩ := hce wr HS.out.o.hb
      clear c0 c1 c2 c3 c4 c5 c6 h7 hce
      have HCE : Hid (∀ W, Below w.heap.size w W → W.cell? (A.add (k * 7)) = some (.int .i64 x.what) ∧ W.cell? (efld A 7 k 1) = some (.int .i64 x.e.ts) ∧ W.cell? (efld A 7 k 2) = some (.int .i64 x.e.dep) ∧ W.cell? (efld A 7 k 3) = some (.int .i64 x.e.seq) ∧ W.cell? (efld A 7 k 4) = some (.string x.e.nm) ∧ W.cell? (efld A 7 k 5) = some (.slice x.e.a x.e.vs.length x.e.c) ∧ W.cell? (efld A 7 k 6) = some (.int .i64 x.n) ∧ VRow W x.e.a x.e.vs) := fun W hW => by
        obtain ⟨A', e1, c0, c1, c2, c3, c4, c5, c6, h7, _⟩ := HCE.out W hW
        injection e1 with e1
        subst e1
        exact ⟨c0, c1, c2, c3, c4, c5, c6, h7⟩
      obtain ⟨wh, ⟨t, d, s, nm, va, vc, vs⟩, xn⟩ := x
      dsimp only at h8 h9
      have HX : Hid (nm.size ≤ maxLen ∧ vs.length ≤ maxLen) := ⟨h9, h8⟩
      have HW : Hid (Calls Try.prog 47 #[.pointer (some ⟨bb, 0, none⟩)] wr (WaitQ wr own M)) := HS.out.a.wait HS.out.o
      have hk0 : (0 : Int) ≤ (k : Int) := by omega
      have hk1 : (k : Int) < (n : Int) := by omega
      clear hx h8 h9
      go_wp2_with fail
      with_reducible refine HW.out.mono ?_
      rintro e w4 ⟨v4, rfl, hb4, hr4⟩
      have HS4 := Lib.hid (HS.out.below hb4)
      have HR4 := Lib.hid hr4
      obtain ⟨a4, c4, rfl⟩ := hr4.slice
      obtain ⟨m, hm⟩ : ∃ m, M.length = m := ⟨_, rfl⟩
      have Hm := Lib.hid hm
      rw [hm] at HR4 ⊢
      clear hb4 hr4 HW hm HS
      have HT0 := Lib.hid HS4.out.a.time
      go_wp2_with fail
      with_reducible refine HT0.out.mono ?_
      rintro e w5 ⟨rfl, rfl⟩
      clear HT0
      obtain ⟨c0, c1, c2, c3, c4', c5, c6, h7⟩ := HCE.out w4 HS4.out.o.hb
      have H7 := Lib.hid h7
      obtain ⟨vl, hvl⟩ : ∃ vl, vs.length = vl := ⟨_, rfl⟩
      have Hvl := Lib.hid hvl
      unfold efld at c1 c2 c3 c4' c5 c6
      try dsimp only at c0 c1 c2 c3 c4' c5 c6
      rw [hvl] at c5
      clear h7
      have hTT : (T != T) = false := by simp
      by_cases hw3 : wh = 3
      · subst hw3
        have HAD : Hid (Calls Try.prog 40 #[.pointer (some ⟨bb, 0, none⟩), .int .i64 xn] w4 (AdvK w w4 own 1 bb T M xn)) := HS4.out.a.adv (by decide) HS4.out.o xn
        clear hvl
        go_wp2_with fail
        with_reducible refine HAD.out.mono ?_
        rintro e w5 ⟨v5, rfl, h5, hr5, hs5, ho5⟩
        have HR5 := Lib.hid (HR4.out.step hs5 (by decide))
        have HF5 : Hid (RefS w w5 own bb (advT T xn) (advWC T M xn)) := ⟨h5, ho5⟩
        obtain ⟨a5, c5', rfl⟩ := hr5.slice
        obtain ⟨nl, hnl⟩ : ∃ nl, (advEC T M xn).length = nl := ⟨_, rfl⟩
        rw [hnl]
        have c6 : w5.drew.cell? ⟨(A.add (k * 7)).block, (A.add (k * 7)).off + 6, none⟩ = some (.int .i64 xn) := (HCE.out w5 ho5.hb).2.2.2.2.2.2.1
        have d6 : Hid (Below w5.heap.size w5 w5.drew) := vbelow_drew (Below.refl _ _)
        have HT : Hid (∀ W, Below w5.heap.size w5 W → Calls Try.prog 45 #[.pointer (some ⟨bb, 0, none⟩)] W fun e w' => e = .returned (.int .i64 (advT T xn)) ∧ W = w') := fun W hW => (HF5.out.a.below hW).time
        have HWt : Hid (∀ W, Below w5.heap.size w5 W → Calls Try.prog 47 #[.pointer (some ⟨bb, 0, none⟩)] W (WaitQ W own (advWC T M xn))) := fun W hW => (HF5.out.a.below hW).wait (HF5.out.o.below hW)
        clear h5 hr5 hs5 ho5 HAD hnl c0 c1 c2 c3 c4' c5
        by_cases hz0 : advC T xn = 0
        · have hz := hz0
          have HZ : Hid (advT T xn = xn ∧ T ≤ xn) := advC_went hz0
          rw [HZ.out.1] at HT
          have hxx : (xn != xn) = false := by simp
          have hxt : decide (xn < T) = false := by have := HZ.out.2; simp; omega
          rw [hz]
          clear hz hz0
          go_upto_region 12 with fail
          refine wp_region_held_drew (S := (fun W => W.cell? ⟨(A.add (k * 7)).block, (A.add (k * 7)).off + 6, none⟩ = some (.int .i64 xn) ∧ Hid (Below w5.heap.size w5 W))) (by kernel_rfl) ⟨by assumption, by assumption⟩ (fun hHeld => ?_)
          refine takeH 0 55 (v := ?vb0) rfl (by kernel_rfl) (by kernel_rfl) (by kernel_rfl) rfl (fun _ _ _ h => h) (by rfl) ?yb0 (by assumption) ?rb0
          case yb0 => (intro W hSw; (try dsimp only at hSw); go_simp; try with_reducible rfl)
          try simp only [Act.put, List.setIfInBounds_toArray, List.set_cons_zero, List.set_cons_succ]
          refine takeH 1 56 (v := ?vb1) rfl (by kernel_rfl) (by kernel_rfl) (by kernel_rfl) rfl (fun _ _ _ h => h) (by rfl) ?yb1 (by assumption) ?rb1
          case yb1 => (intro W hSw; (try dsimp only at hSw); go_simp; try with_reducible rfl)
          try simp only [Act.put, List.setIfInBounds_toArray, List.set_cons_zero, List.set_cons_succ]
          refine takeH 2 57 (v := ?vb2) rfl (by kernel_rfl) (by kernel_rfl) (by kernel_rfl) rfl (fun _ _ _ h => h) (by rfl) ?yb2 (by assumption) ?rb2
          case yb2 => (intro W hSw; (try dsimp only at hSw); go_simp; try with_reducible rfl)
          try simp only [Act.put, List.setIfInBounds_toArray, List.set_cons_zero, List.set_cons_succ]
          refine passH 3 58 (by kernel_rfl) (by kernel_rfl) (by kernel_rfl) (by kernel_rfl) (by rfl) (fun _ _ _ h => h) (by assumption) ?_
          try simp only [Act.put, List.setIfInBounds_toArray, List.set_cons_zero, List.set_cons_succ]
          refine passH 4 59 (by kernel_rfl) (by kernel_rfl) (by kernel_rfl) (by kernel_rfl) (by rfl) (fun _ _ _ h => h) (by assumption) ?_
          try simp only [Act.put, List.setIfInBounds_toArray, List.set_cons_zero, List.set_cons_succ]
          refine passH 5 60 (by kernel_rfl) (by kernel_rfl) (by kernel_rfl) (by kernel_rfl) (by rfl) (fun _ _ _ h => h) (by assumption) ?_
          try simp only [Act.put, List.setIfInBounds_toArray, List.set_cons_zero, List.set_cons_succ]
          refine passH 6 61 (by kernel_rfl) (by kernel_rfl) (by kernel_rfl) (by kernel_rfl) (by rfl) (fun _ _ _ h => h) (by assumption) ?_
          try simp only [Act.put, List.setIfInBounds_toArray, List.set_cons_zero, List.set_cons_succ]
          refine passH 7 62 (by kernel_rfl) (by kernel_rfl) (by kernel_rfl) (by kernel_rfl) (by rfl) (fun _ _ _ h => h) (by assumption) ?_
          try simp only [Act.put, List.setIfInBounds_toArray, List.set_cons_zero, List.set_cons_succ]
          refine passH 8 63 (by kernel_rfl) (by kernel_rfl) (by kernel_rfl) (by kernel_rfl) (by rfl) (fun _ _ _ h => h) (by assumption) ?_
          try simp only [Act.put, List.setIfInBounds_toArray, List.set_cons_zero, List.set_cons_succ]
          refine passH 9 64 (by kernel_rfl) (by kernel_rfl) (by kernel_rfl) (by kernel_rfl) (by rfl) (fun _ _ _ h => h) (by assumption) ?_
          try simp only [Act.put, List.setIfInBounds_toArray, List.set_cons_zero, List.set_cons_succ]
          refine passH 10 65 (by kernel_rfl) (by kernel_rfl) (by kernel_rfl) (by kernel_rfl) (by rfl) (fun _ _ _ h => h) (by assumption) ?_
          try simp only [Act.put, List.setIfInBounds_toArray, List.set_cons_zero, List.set_cons_succ]
          refine passH 11 66 (by kernel_rfl) (by kernel_rfl) (by kernel_rfl) (by kernel_rfl) (by rfl) (fun _ _ _ h => h) (by assumption) ?_
          try simp only [Act.put, List.setIfInBounds_toArray, List.set_cons_zero, List.set_cons_succ]
          refine passH 12 67 (by kernel_rfl) (by kernel_rfl) (by kernel_rfl) (by kernel_rfl) (by rfl) (fun _ _ _ h => h) (by assumption) ?_
          try simp only [Act.put, List.setIfInBounds_toArray, List.set_cons_zero, List.set_cons_succ]
          refine passH 13 68 (by kernel_rfl) (by kernel_rfl) (by kernel_rfl) (by kernel_rfl) (by rfl) (fun _ _ _ h => h) (by assumption) ?_
          try simp only [Act.put, List.setIfInBounds_toArray, List.set_cons_zero, List.set_cons_succ]
          refine takeH 14 69 (v := ?vb14) rfl (by kernel_rfl) (by kernel_rfl) (by kernel_rfl) rfl (fun _ _ _ h => h) (by rfl) ?yb14 (by assumption) ?rb14
          case yb14 => (intro W hSw; (try dsimp only at hSw); go_simp; try with_reducible rfl)
          try simp only [Act.put, List.setIfInBounds_toArray, List.set_cons_zero, List.set_cons_succ]
          refine takeH 15 70 (v := ?vb15) rfl (by kernel_rfl) (by kernel_rfl) (by kernel_rfl) rfl (fun _ _ _ h => h) (by rfl) ?yb15 (by assumption) ?rb15
          case yb15 => (intro W hSw; (try dsimp only at hSw); go_simp; try with_reducible rfl)
          try simp only [Act.put, List.setIfInBounds_toArray, List.set_cons_zero, List.set_cons_succ]
          refine takeH 16 71 (v := ?vb16) rfl (by kernel_rfl) (by kernel_rfl) (by kernel_rfl) rfl (fun _ _ _ h => h) (by rfl) ?yb16 (by assumption) ?rb16
          case yb16 => (intro W hSw; (try dsimp only at hSw); go_simp; try with_reducible rfl)
          try simp only [Act.put, List.setIfInBounds_toArray, List.set_cons_zero, List.set_cons_succ]
          refine takeH 17 72 (v := ?vb17) rfl (by kernel_rfl) (by kernel_rfl) (by kernel_rfl) rfl (fun _ _ _ h => h) (by rfl) ?yb17 (by assumption) ?rb17
          case yb17 => (intro W hSw; (try dsimp only at hSw); go_simp; try with_reducible rfl)
          try simp only [Act.put, List.setIfInBounds_toArray, List.set_cons_zero, List.set_cons_succ]
          refine takeH 18 73 (v := ?vb18) rfl (by kernel_rfl) (by kernel_rfl) (by kernel_rfl) rfl (fun _ _ _ h => h) (by rfl) ?yb18 (by assumption) ?rb18
          case yb18 => (intro W hSw; (try dsimp only at hSw); go_simp; try with_reducible rfl)
          try simp only [Act.put, List.setIfInBounds_toArray, List.set_cons_zero, List.set_cons_succ]
          refine takeH 19 74 (v := ?vb19) rfl (by kernel_rfl) (by kernel_rfl) (by kernel_rfl) rfl (fun _ _ _ h => h) (by rfl) ?yb19 (by assumption) ?rb19
          case yb19 => (intro W hSw; (try dsimp only at hSw); go_simp; try with_reducible rfl)
          try simp only [Act.put, List.setIfInBounds_toArray, List.set_cons_zero, List.set_cons_succ]
          refine takeH 21 76 (v := ?vb21) rfl (by kernel_rfl) (by kernel_rfl) (by kernel_rfl) rfl (fun _ _ _ h => h) (by rfl) ?yb21 (by assumption) ?rb21
          case yb21 => (intro W hSw; (try dsimp only at hSw); go_simp; try with_reducible rfl)
          try simp only [Act.put, List.setIfInBounds_toArray, List.set_cons_zero, List.set_cons_succ]
          refine takeH 22 77 (v := ?vb22) rfl (by kernel_rfl) (by kernel_rfl) (by kernel_rfl) rfl (fun _ _ _ h => h) (by rfl) ?yb22 (by assumption) ?rb22
          case yb22 => (intro W hSw; (try dsimp only at hSw); go_simp; try with_reducible rfl)
          try simp only [Act.put, List.setIfInBounds_toArray, List.set_cons_zero, List.set_cons_succ]
          refine takeH 23 78 (v := ?vb23) rfl (by kernel_rfl) (by kernel_rfl) (by kernel_rfl) rfl (fun _ _ _ h => h) (by rfl) ?yb23 (by assumption) ?rb23
          case yb23 => (intro W hSw; (try dsimp only at hSw); go_simp; try with_reducible rfl)
          try simp only [Act.put, List.setIfInBounds_toArray, List.set_cons_zero, List.set_cons_succ]
          refine takeH 24 79 (v := ?vb24) rfl (by kernel_rfl) (by kernel_rfl) (by kernel_rfl) rfl (fun _ _ _ h => h) (by rfl) ?yb24 (by assumption) ?rb24
          case yb24 => (intro W hSw; (try dsimp only at hSw); go_simp; try with_reducible rfl)
          try simp only [Act.put, List.setIfInBounds_toArray, List.set_cons_zero, List.set_cons_succ]
          refine takeH 25 80 (v := ?vb25) rfl (by kernel_rfl) (by kernel_rfl) (by kernel_rfl) rfl (fun _ _ _ h => h) (by rfl) ?yb25 (by assumption) ?rb25
          case yb25 => (intro W hSw; (try dsimp only at hSw); go_simp; try with_reducible rfl)
          try simp only [Act.put, List.setIfInBounds_toArray, List.set_cons_zero, List.set_cons_succ]
          refine wpAnyH_ready (rs := [20]) (by kernel_rfl) (by simp) ?_
          refine AllReadyH.cons (o := _) rfl (fun K hK => ?_) AllReadyH.nil
          dsimp only [List.getElem_toArray, List.getElem_cons_succ, List.getElem_cons_zero]
          go_simp
          go_at_call 45
          (with_reducible refine (HT.out _ hHeld.2.out).mono ?_)
          rintro e w6 ⟨rfl, rfl⟩
          go_wp2_with fail
          refine hK.out _ _ hHeld (fun hHeld => ?_)
          clear hK K
          try simp only [Act.put, List.setIfInBounds_toArray, List.set_cons_zero, List.set_cons_succ]
          refine takeH 26 81 (v := .bool false) rfl (by kernel_rfl) (by kernel_rfl) (by kernel_rfl) rfl (fun _ _ _ h => h) (by rfl) ?yb26 (by assumption) ?rb26
          case yb26 => (intro W hSw; (try dsimp only at hSw); go_simp; try with_reducible rfl)
          try simp only [Act.put, List.setIfInBounds_toArray, List.set_cons_zero, List.set_cons_succ]
          refine takeH 27 82 (v := ?vb27) rfl (by kernel_rfl) (by kernel_rfl) (by kernel_rfl) rfl (fun _ _ _ h => h) (by rfl) ?yb27 (by assumption) ?rb27
          case yb27 => (intro W hSw; (try dsimp only at hSw); go_simp; try with_reducible rfl)
          try simp only [Act.put, List.setIfInBounds_toArray, List.set_cons_zero, List.set_cons_succ]
          refine takeH 28 83 (v := ?vb28) rfl (by kernel_rfl) (by kernel_rfl) (by kernel_rfl) rfl (fun _ _ _ h => h) (by rfl) ?yb28 (by assumption) ?rb28
          case yb28 => (intro W hSw; (try dsimp only at hSw); go_simp; try with_reducible rfl)
          try simp only [Act.put, List.setIfInBounds_toArray, List.set_cons_zero, List.set_cons_succ]
          refine takeH 29 84 (v := ?vb29) rfl (by kernel_rfl) (by kernel_rfl) (by kernel_rfl) rfl (fun _ _ _ h => h) (by rfl) ?yb29 (by assumption) ?rb29
          case yb29 => (intro W hSw; (try dsimp only at hSw); go_simp; try with_reducible rfl)
          try simp only [Act.put, List.setIfInBounds_toArray, List.set_cons_zero, List.set_cons_succ]
          refine takeH 30 85 (v := ?vb30) rfl (by kernel_rfl) (by kernel_rfl) (by kernel_rfl) rfl (fun _ _ _ h => h) (by rfl) ?yb30 (by assumption) ?rb30
          case yb30 => (intro W hSw; (try dsimp only at hSw); go_simp; try with_reducible rfl)
          try simp only [Act.put, List.setIfInBounds_toArray, List.set_cons_zero, List.set_cons_succ]
          refine takeH 31 86 (v := ?vb31) rfl (by kernel_rfl) (by kernel_rfl) (by kernel_rfl) rfl (fun _ _ _ h => h) (by rfl) ?yb31 (by assumption) ?rb31
          case yb31 => (intro W hSw; (try dsimp only at hSw); go_simp; try with_reducible rfl)
          try simp only [Act.put, List.setIfInBounds_toArray, List.set_cons_zero, List.set_cons_succ]
          refine takeH 32 87 (v := ?vb32) rfl (by kernel_rfl) (by kernel_rfl) (by kernel_rfl) rfl (fun _ _ _ h => h) (by rfl) ?yb32 (by assumption) ?rb32
          case yb32 => (intro W hSw; (try dsimp only at hSw); go_simp; try with_reducible rfl)
          try simp only [Act.put, List.setIfInBounds_toArray, List.set_cons_zero, List.set_cons_succ]
          refine takeH 33 88 (v := ?vb33) rfl (by kernel_rfl) (by kernel_rfl) (by kernel_rfl) rfl (fun _ _ _ h => h) (by rfl) ?yb33 (by assumption) ?rb33
          case yb33 => (intro W hSw; (try dsimp only at hSw); go_simp; try with_reducible rfl)
          try simp only [Act.put, List.setIfInBounds_toArray, List.set_cons_zero, List.set_cons_succ]
          refine takeH 34 89 (v := .bool false) rfl (by kernel_rfl) (by kernel_rfl) (by kernel_rfl) rfl (fun _ _ _ h => h) (by rfl) ?yb34 (by assumption) ?rb34
          case yb34 => (intro W hSw; (try dsimp only at hSw); go_simp; try with_reducible rfl)
          try simp only [Act.put, List.setIfInBounds_toArray, List.set_cons_zero, List.set_cons_succ]
          refine takeH 35 90 (v := ?vb35) rfl (by kernel_rfl) (by kernel_rfl) (by kernel_rfl) rfl (fun _ _ _ h => h) (by rfl) ?yb35 (by assumption) ?rb35
          case yb35 => (intro W hSw; (try dsimp only at hSw); go_simp; try with_reducible rfl)
          try simp only [Act.put, List.setIfInBounds_toArray, List.set_cons_zero, List.set_cons_succ]
          refine takeH 36 91 (v := ?vb36) rfl (by kernel_rfl) (by kernel_rfl) (by kernel_rfl) rfl (fun _ _ _ h => h) (by rfl) ?yb36 (by assumption) ?rb36
          case yb36 => (intro W hSw; (try dsimp only at hSw); go_simp; try with_reducible rfl)
          try simp only [Act.put, List.setIfInBounds_toArray, List.set_cons_zero, List.set_cons_succ]
          refine takeH 37 92 (v := ?vb37) rfl (by kernel_rfl) (by kernel_rfl) (by kernel_rfl) rfl (fun _ _ _ h => h) (by rfl) ?yb37 (by assumption) ?rb37
          case yb37 => (intro W hSw; (try dsimp only at hSw); go_simp; try with_reducible rfl)
          try simp only [Act.put, List.setIfInBounds_toArray, List.set_cons_zero, List.set_cons_succ]
          refine wpAnyH_done (by kernel_rfl) ?_ _
          go_wp2
          go_roundw
          case rel => exact ⟨k + 1, own, _, _, by go_num, by omega, HF5.out.below hHeld.2.out⟩
          case measure => simp [intOf]; omega
        · have HZ : Hid (advT T xn = T ∧ advWC T M xn = M) := advC_not M hz0
          rw [HZ.out.1] at HT
          rw [HZ.out.2] at HWt
          have HSm : Hid (∀ W u v, ERow W own u M → ERow W own v M → Calls Try.prog 42 #[u, v] W fun e w' => e = .returned (.bool true) ∧ Below W.heap.size W w') := fun W u v h1 h2 => rsame_calls h1 h2 (by have := HS4.out.a.len; omega) (fitsR HS4.out.a.right)
          obtain ⟨z, hz⟩ : ∃ z, advC T xn = z := ⟨_, rfl⟩
          rw [hz] at hz0 ⊢
          have hz1 : (z != 0) = true := by simpa using hz0
          have hz2 : (z == 0) = false := by simpa using hz0
          clear hz
          go_upto_region 12 with fail
          refine wp_region_held_drew (S := (fun W => W.cell? ⟨(A.add (k * 7)).block, (A.add (k * 7)).off + 6, none⟩ = some (.int .i64 xn) ∧ Hid (Below w5.heap.size w5 W))) (by kernel_rfl) ⟨by assumption, by assumption⟩ (fun hHeld => ?_)
          refine takeH 0 55 (v := ?va0) rfl (by kernel_rfl) (by kernel_rfl) (by kernel_rfl) rfl (fun _ _ _ h => h) (by rfl) ?ya0 (by assumption) ?ra0
          case ya0 => (intro W hSw; (try dsimp only at hSw); go_simp; try with_reducible rfl)
          try simp only [Act.put, List.setIfInBounds_toArray, List.set_cons_zero, List.set_cons_succ]
          refine takeH 1 56 (v := ?va1) rfl (by kernel_rfl) (by kernel_rfl) (by kernel_rfl) rfl (fun _ _ _ h => h) (by rfl) ?ya1 (by assumption) ?ra1
          case ya1 => (intro W hSw; (try dsimp only at hSw); go_simp; try with_reducible rfl)
          try simp only [Act.put, List.setIfInBounds_toArray, List.set_cons_zero, List.set_cons_succ]
          refine takeH 2 57 (v := ?va2) rfl (by kernel_rfl) (by kernel_rfl) (by kernel_rfl) rfl (fun _ _ _ h => h) (by rfl) ?ya2 (by assumption) ?ra2
          case ya2 => (intro W hSw; (try dsimp only at hSw); go_simp; try with_reducible rfl)
          try simp only [Act.put, List.setIfInBounds_toArray, List.set_cons_zero, List.set_cons_succ]
          refine takeH 3 58 (v := ?va3) rfl (by kernel_rfl) (by kernel_rfl) (by kernel_rfl) rfl (fun _ _ _ h => h) (by rfl) ?ya3 (by assumption) ?ra3
          case ya3 => (intro W hSw; (try dsimp only at hSw); go_simp; try with_reducible rfl)
          try simp only [Act.put, List.setIfInBounds_toArray, List.set_cons_zero, List.set_cons_succ]
          refine takeH 5 60 (v := ?va5) rfl (by kernel_rfl) (by kernel_rfl) (by kernel_rfl) rfl (fun _ _ _ h => h) (by rfl) ?ya5 (by assumption) ?ra5
          case ya5 => (intro W hSw; (try dsimp only at hSw); go_simp; try with_reducible rfl)
          try simp only [Act.put, List.setIfInBounds_toArray, List.set_cons_zero, List.set_cons_succ]
          refine wpAnyH_ready (rs := [4]) (by kernel_rfl) (by simp) ?_
          refine AllReadyH.cons (o := _) rfl (fun K hK => ?_) AllReadyH.nil
          dsimp only [List.getElem_toArray, List.getElem_cons_succ, List.getElem_cons_zero]
          go_simp
          go_at_call 45
          (with_reducible refine (HT.out _ hHeld.2.out).mono ?_)
          rintro e w6 ⟨rfl, rfl⟩
          go_wp2_with fail
          refine hK.out _ _ hHeld (fun hHeld => ?_)
          clear hK K
          try simp only [Act.put, List.setIfInBounds_toArray, List.set_cons_zero, List.set_cons_succ]
          refine takeH 6 61 (v := .bool false) rfl (by kernel_rfl) (by kernel_rfl) (by kernel_rfl) rfl (fun _ _ _ h => h) (by rfl) ?ya6 (by assumption) ?ra6
          case ya6 => (intro W hSw; (try dsimp only at hSw); go_simp; try with_reducible rfl)
          try simp only [Act.put, List.setIfInBounds_toArray, List.set_cons_zero, List.set_cons_succ]
          refine takeH 7 62 (v := ?va7) rfl (by kernel_rfl) (by kernel_rfl) (by kernel_rfl) rfl (fun _ _ _ h => h) (by rfl) ?ya7 (by assumption) ?ra7
          case ya7 => (intro W hSw; (try dsimp only at hSw); go_simp; try with_reducible rfl)
          try simp only [Act.put, List.setIfInBounds_toArray, List.set_cons_zero, List.set_cons_succ]
          refine takeH 8 63 (v := ?va8) rfl (by kernel_rfl) (by kernel_rfl) (by kernel_rfl) rfl (fun _ _ _ h => h) (by rfl) ?ya8 (by assumption) ?ra8
          case ya8 => (intro W hSw; (try dsimp only at hSw); go_simp; try with_reducible rfl)
          try simp only [Act.put, List.setIfInBounds_toArray, List.set_cons_zero, List.set_cons_succ]
          refine takeH 10 65 (v := ?va10) rfl (by kernel_rfl) (by kernel_rfl) (by kernel_rfl) rfl (fun _ _ _ h => h) (by rfl) ?ya10 (by assumption) ?ra10
          case ya10 => (intro W hSw; (try dsimp only at hSw); go_simp; try with_reducible rfl)
          try simp only [Act.put, List.setIfInBounds_toArray, List.set_cons_zero, List.set_cons_succ]
          refine wpAnyH_ready (rs := [9]) (by kernel_rfl) (by simp) ?_
          refine AllReadyH.cons (o := _) rfl (fun K hK => ?_) AllReadyH.nil
          dsimp only [List.getElem_toArray, List.getElem_cons_succ, List.getElem_cons_zero]
          go_simp
          go_at_call 47
          (with_reducible refine (HWt.out _ hHeld.2.out).mono ?_)
          rintro e w7 ⟨v7, rfl, hb7, hr7⟩
          obtain ⟨a7, c7, rfl⟩ := hr7.slice
          have HB7 := Lib.hid (hHeld.2.out.trans (hb7.mono hHeld.2.out.size))
          go_wp2_with fail
          refine hK.out _ _ ⟨ekeep hb7 hHeld.1, HB7⟩ (fun hHeld => ?_)
          clear hK K
          try simp only [Act.put, List.setIfInBounds_toArray, List.set_cons_zero, List.set_cons_succ]
          refine wpAnyH_ready (rs := [11]) (by kernel_rfl) (by simp) ?_
          refine AllReadyH.cons (o := _) rfl (fun K hK => ?_) AllReadyH.nil
          dsimp only [List.getElem_toArray, List.getElem_cons_succ, List.getElem_cons_zero]
          go_simp
          go_at_call 42
          (with_reducible refine (HSm.out w7 _ _ hr7 (HR5.out.below HB7.out)).mono ?_)
          rintro e w8 ⟨rfl, hb8⟩
          have HB8 := Lib.hid (HB7.out.trans (hb8.mono HB7.out.size))
          go_wp2_with fail
          refine hK.out _ _ ⟨ekeep hb8 hHeld.1, HB8⟩ (fun hHeld => ?_)
          clear hK K
          try simp only [Act.put, List.setIfInBounds_toArray, List.set_cons_zero, List.set_cons_succ]
          refine takeH 12 67 (v := .bool false) rfl (by kernel_rfl) (by kernel_rfl) (by kernel_rfl) rfl (fun _ _ _ h => h) (by rfl) ?ya12 (by assumption) ?ra12
          case ya12 => (intro W hSw; (try dsimp only at hSw); go_simp; try with_reducible rfl)
          try simp only [Act.put, List.setIfInBounds_toArray, List.set_cons_zero, List.set_cons_succ]
          refine takeH 13 68 (v := ?va13) rfl (by kernel_rfl) (by kernel_rfl) (by kernel_rfl) rfl (fun _ _ _ h => h) (by rfl) ?ya13 (by assumption) ?ra13
          case ya13 => (intro W hSw; (try dsimp only at hSw); go_simp; try with_reducible rfl)
          try simp only [Act.put, List.setIfInBounds_toArray, List.set_cons_zero, List.set_cons_succ]
          refine takeH 14 69 (v := ?va14) rfl (by kernel_rfl) (by kernel_rfl) (by kernel_rfl) rfl (fun _ _ _ h => h) (by rfl) ?ya14 (by assumption) ?ra14
          case ya14 => (intro W hSw; (try dsimp only at hSw); go_simp; try with_reducible rfl)
          try simp only [Act.put, List.setIfInBounds_toArray, List.set_cons_zero, List.set_cons_succ]
          refine takeH 15 70 (v := ?va15) rfl (by kernel_rfl) (by kernel_rfl) (by kernel_rfl) rfl (fun _ _ _ h => h) (by rfl) ?ya15 (by assumption) ?ra15
          case ya15 => (intro W hSw; (try dsimp only at hSw); go_simp; try with_reducible rfl)
          try simp only [Act.put, List.setIfInBounds_toArray, List.set_cons_zero, List.set_cons_succ]
          refine takeH 16 71 (v := ?va16) rfl (by kernel_rfl) (by kernel_rfl) (by kernel_rfl) rfl (fun _ _ _ h => h) (by rfl) ?ya16 (by assumption) ?ra16
          case ya16 => (intro W hSw; (try dsimp only at hSw); go_simp; try with_reducible rfl)
          try simp only [Act.put, List.setIfInBounds_toArray, List.set_cons_zero, List.set_cons_succ]
          refine takeH 17 72 (v := ?va17) rfl (by kernel_rfl) (by kernel_rfl) (by kernel_rfl) rfl (fun _ _ _ h => h) (by rfl) ?ya17 (by assumption) ?ra17
          case ya17 => (intro W hSw; (try dsimp only at hSw); go_simp; try with_reducible rfl)
          try simp only [Act.put, List.setIfInBounds_toArray, List.set_cons_zero, List.set_cons_succ]
          refine takeH 18 73 (v := ?va18) rfl (by kernel_rfl) (by kernel_rfl) (by kernel_rfl) rfl (fun _ _ _ h => h) (by rfl) ?ya18 (by assumption) ?ra18
          case ya18 => (intro W hSw; (try dsimp only at hSw); go_simp; try with_reducible rfl)
          try simp only [Act.put, List.setIfInBounds_toArray, List.set_cons_zero, List.set_cons_succ]
          refine passH 19 74 (by kernel_rfl) (by kernel_rfl) (by kernel_rfl) (by kernel_rfl) (by rfl) (fun _ _ _ h => h) (by assumption) ?_
          try simp only [Act.put, List.setIfInBounds_toArray, List.set_cons_zero, List.set_cons_succ]
          refine passH 20 75 (by kernel_rfl) (by kernel_rfl) (by kernel_rfl) (by kernel_rfl) (by rfl) (fun _ _ _ h => h) (by assumption) ?_
          try simp only [Act.put, List.setIfInBounds_toArray, List.set_cons_zero, List.set_cons_succ]
          refine passH 21 76 (by kernel_rfl) (by kernel_rfl) (by kernel_rfl) (by kernel_rfl) (by rfl) (fun _ _ _ h => h) (by assumption) ?_
          try simp only [Act.put, List.setIfInBounds_toArray, List.set_cons_zero, List.set_cons_succ]
          refine passH 22 77 (by kernel_rfl) (by kernel_rfl) (by kernel_rfl) (by kernel_rfl) (by rfl) (fun _ _ _ h => h) (by assumption) ?_
          try simp only [Act.put, List.setIfInBounds_toArray, List.set_cons_zero, List.set_cons_succ]
          refine passH 23 78 (by kernel_rfl) (by kernel_rfl) (by kernel_rfl) (by kernel_rfl) (by rfl) (fun _ _ _ h => h) (by assumption) ?_
          try simp only [Act.put, List.setIfInBounds_toArray, List.set_cons_zero, List.set_cons_succ]
          refine passH 24 79 (by kernel_rfl) (by kernel_rfl) (by kernel_rfl) (by kernel_rfl) (by rfl) (fun _ _ _ h => h) (by assumption) ?_
          try simp only [Act.put, List.setIfInBounds_toArray, List.set_cons_zero, List.set_cons_succ]
          refine passH 25 80 (by kernel_rfl) (by kernel_rfl) (by kernel_rfl) (by kernel_rfl) (by rfl) (fun _ _ _ h => h) (by assumption) ?_
          try simp only [Act.put, List.setIfInBounds_toArray, List.set_cons_zero, List.set_cons_succ]
          refine passH 26 81 (by kernel_rfl) (by kernel_rfl) (by kernel_rfl) (by kernel_rfl) (by rfl) (fun _ _ _ h => h) (by assumption) ?_
          try simp only [Act.put, List.setIfInBounds_toArray, List.set_cons_zero, List.set_cons_succ]
          refine passH 27 82 (by kernel_rfl) (by kernel_rfl) (by kernel_rfl) (by kernel_rfl) (by rfl) (fun _ _ _ h => h) (by assumption) ?_
          try simp only [Act.put, List.setIfInBounds_toArray, List.set_cons_zero, List.set_cons_succ]
          refine passH 28 83 (by kernel_rfl) (by kernel_rfl) (by kernel_rfl) (by kernel_rfl) (by rfl) (fun _ _ _ h => h) (by assumption) ?_
          try simp only [Act.put, List.setIfInBounds_toArray, List.set_cons_zero, List.set_cons_succ]
          refine passH 29 84 (by kernel_rfl) (by kernel_rfl) (by kernel_rfl) (by kernel_rfl) (by rfl) (fun _ _ _ h => h) (by assumption) ?_
          try simp only [Act.put, List.setIfInBounds_toArray, List.set_cons_zero, List.set_cons_succ]
          refine passH 30 85 (by kernel_rfl) (by kernel_rfl) (by kernel_rfl) (by kernel_rfl) (by rfl) (fun _ _ _ h => h) (by assumption) ?_
          try simp only [Act.put, List.setIfInBounds_toArray, List.set_cons_zero, List.set_cons_succ]
          refine passH 31 86 (by kernel_rfl) (by kernel_rfl) (by kernel_rfl) (by kernel_rfl) (by rfl) (fun _ _ _ h => h) (by assumption) ?_
          try simp only [Act.put, List.setIfInBounds_toArray, List.set_cons_zero, List.set_cons_succ]
          refine passH 32 87 (by kernel_rfl) (by kernel_rfl) (by kernel_rfl) (by kernel_rfl) (by rfl) (fun _ _ _ h => h) (by assumption) ?_
          try simp only [Act.put, List.setIfInBounds_toArray, List.set_cons_zero, List.set_cons_succ]
          refine passH 33 88 (by kernel_rfl) (by kernel_rfl) (by kernel_rfl) (by kernel_rfl) (by rfl) (fun _ _ _ h => h) (by assumption) ?_
          try simp only [Act.put, List.setIfInBounds_toArray, List.set_cons_zero, List.set_cons_succ]
          refine passH 34 89 (by kernel_rfl) (by kernel_rfl) (by kernel_rfl) (by kernel_rfl) (by rfl) (fun _ _ _ h => h) (by assumption) ?_
          try simp only [Act.put, List.setIfInBounds_toArray, List.set_cons_zero, List.set_cons_succ]
          refine passH 35 90 (by kernel_rfl) (by kernel_rfl) (by kernel_rfl) (by kernel_rfl) (by rfl) (fun _ _ _ h => h) (by assumption) ?_
          try simp only [Act.put, List.setIfInBounds_toArray, List.set_cons_zero, List.set_cons_succ]
          refine takeH 36 91 (v := ?va36) rfl (by kernel_rfl) (by kernel_rfl) (by kernel_rfl) rfl (fun _ _ _ h => h) (by rfl) ?ya36 (by assumption) ?ra36
          case ya36 => (intro W hSw; (try dsimp only at hSw); go_simp; try with_reducible rfl)
          try simp only [Act.put, List.setIfInBounds_toArray, List.set_cons_zero, List.set_cons_succ]
          refine takeH 37 92 (v := ?va37) rfl (by kernel_rfl) (by kernel_rfl) (by kernel_rfl) rfl (fun _ _ _ h => h) (by rfl) ?ya37 (by assumption) ?ra37
          case ya37 => (intro W hSw; (try dsimp only at hSw); go_simp; try with_reducible rfl)
          try simp only [Act.put, List.setIfInBounds_toArray, List.set_cons_zero, List.set_cons_succ]
          refine wpAnyH_done (by kernel_rfl) ?_ _
          go_wp2
          go_roundw
          case rel => exact ⟨k + 1, own, _, _, by go_num, by omega, HF5.out.below hHeld.2.out⟩
          case measure => simp [intOf]; omega
      · have hd3 : (wh == 3) = false := by simpa using hw3
        have HPU : Hid (Calls Try.prog 43 #[.pointer (some ⟨bb, 0, none⟩), evV t d s nm (.slice va vl vc)] w4 (PutK w w4 own 1 bb T M (EIn.core ⟨t, d, s, nm, va, vc, vs⟩))) := by
          rw [← Hvl.out]
          exact HS4.out.a.put (by decide) HS4.out.o ⟨t, d, s, nm, va, vc, vs⟩ H7.out HX.out.1 HX.out.2
        obtain ⟨q, hq⟩ : ∃ q : Core, EIn.core ⟨t, d, s, nm, va, vc, vs⟩ = q := ⟨_, rfl⟩
        have hqt : Hid (q.1 = t) := by rw [← hq]; rfl
        rw [hq] at HPU
        clear hvl hq
        go_wp2_with fail
        with_reducible refine HPU.out.mono ?_
        rintro e w5 ⟨own5, rfl, h5, hs5, ho5⟩
        have HR5 := Lib.hid (HR4.out.step hs5 (by decide))
        have HF5 : Hid (RefS w w5 own5 bb T (putWC T M q)) := ⟨h5, ho5⟩
        have c1 : w5.cell? ⟨(A.add (k * 7)).block, (A.add (k * 7)).off + 1, none⟩ = some (.int .i64 t) := (HCE.out w5 ho5.hb).2.1
        have HT : Hid (∀ W, Below w5.heap.size w5 W → Calls Try.prog 45 #[.pointer (some ⟨bb, 0, none⟩)] W fun e w' => e = .returned (.int .i64 T) ∧ W = w') := fun W hW => (HF5.out.a.below hW).time
        have HWt : Hid (∀ W, Below w5.heap.size w5 W → Calls Try.prog 47 #[.pointer (some ⟨bb, 0, none⟩)] W (WaitQ W own5 (putWC T M q))) := fun W hW => (HF5.out.a.below hW).wait (HF5.out.o.below hW)
        clear h5 hs5 ho5 HPU c0 c2 c3 c4' c5 c6
        obtain ⟨z, hz⟩ : ∃ z, putCC T M q = z := ⟨_, rfl⟩
        by_cases hz0 : z = 0
        · subst hz0
          have HTt : Hid (T < t) := by
            have h := (putCC_is hz).2
            rw [hqt.out] at h
            exact h
          obtain ⟨m1, hm1⟩ : ∃ m1, (putWC T M q).length = m1 := ⟨_, rfl⟩
          have Hm1 := Lib.hid hm1
          have HM1 : Hid (m1 = m + 1 ∧ m ≤ 256) := by
            refine ⟨?_, by rw [← Hm.out]; exact HS4.out.a.len⟩
            rw [← hm1, (putWC_perm hz).length_eq, List.length_cons, Hm.out]
          have htT : decide (t ≤ T) = false := by have := HTt.out; simp; omega
          have hw1 : IntKind.i64.wrap ((m : Int) + 1) = (m : Int) + 1 := by rw [IntKind.wrap_i64]; have := HM1.out.2; omega
          have hmm : ((m1 : Int) != (m : Int) + 1) = false := by rw [HM1.out.1]; simp
          rw [hz]
          clear hz hm1
          go_wp2_with fail
          with_reducible refine (HT.out _ (Below.refl _ _)).mono ?_
          rintro e w6 ⟨rfl, rfl⟩
          go_wp2_with fail
          with_reducible refine (HWt.out _ (Below.refl _ _)).mono ?_
          rintro e w7 ⟨v7, rfl, hb7, hr7⟩
          have HB7 := Lib.hid hb7
          have HR7 := Lib.hid hr7
          obtain ⟨a7, c7, rfl⟩ := hr7.slice
          have c1 := ekeep HB7.out c1
          clear hb7 hr7 HWt HT
          rw [Hm1.out]
          go_wp2
          go_roundw
          case rel => exact ⟨k + 1, own5, _, _, by go_num, by omega, HF5.out.below HB7.out⟩
          case measure => simp [intOf]; omega
        · have HZ : Hid (putWC T M q = M) := by show _ = _; unfold putWC; rw [if_neg (by rw [hz]; exact hz0)]
          rw [HZ.out] at HWt
          have HSm : Hid (∀ W u v, ERow W own5 u M → ERow W own5 v M → Calls Try.prog 42 #[u, v] W fun e w' => e = .returned (.bool true) ∧ Below W.heap.size W w') := fun W u v h1 h2 => rsame_calls h1 h2 (by have := HS4.out.a.len; omega) (fitsR HS4.out.a.right)
          have hz1 : (z != 0) = true := by simpa using hz0
          have hz2 : (z == 0) = false := by simpa using hz0
          rw [hz]
          clear hz
          go_wp2_with fail
          with_reducible refine (HT.out _ (Below.refl _ _)).mono ?_
          rintro e w6 ⟨rfl, rfl⟩
          go_wp2_with fail
          with_reducible refine (HWt.out _ (Below.refl _ _)).mono ?_
          rintro e w7 ⟨v7, rfl, hb7, hr7⟩
          have HB7 := Lib.hid hb7
          have HR7 := Lib.hid hr7
          obtain ⟨a7, c7, rfl⟩ := hr7.slice
          have c1 := ekeep HB7.out c1
          clear hb7 hr7 HWt HT
          have HS7 := Lib.hid (HSm.out _ _ _ HR7.out (HR5.out.below HB7.out))
          obtain ⟨m7, hm7⟩ : ∃ m7, M.length = m7 := ⟨_, rfl⟩
          rw [hm7] at HS7 ⊢
          clear hm7 HSm
          go_wp2_with fail
          with_reducible refine HS7.out.mono ?_
          rintro e w8 ⟨rfl, hb8⟩
          have HB8 := Lib.hid (HB7.out.trans (hb8.mono HB7.out.size))
          clear hb8 HS7
          go_wp2
          go_roundw
          case rel => exact ⟨k + 1, own5, _, _, by go_num, by omega, HZ.out ▸ HF5.out.below HB8.out⟩
          case measure => simp [intOf]; omega
    · have hd3 : decide ((k : Int) < (n : Int)) = false := by simp; omega
      go_wp2
      go_ret
      exact ⟨rfl, HS.out.o.hb⟩

end Go.Proofs.Ytfmlgckfcclojaa
namespace Go.Proofs.Ytfmlgckfcclojaa
open Go.ChangeShapes Go.WideShapes Go.ChangeAt Go.RowKit Go.Lib Go.Deep
open Go.ChangeMaps (open_string shut_string)

instance : Inhabited OpIn := ⟨⟨0, default, 0⟩⟩

section
variable {H : Type} {enc : TypeId × Value → H} {w : World} {base : Nat} {spare : Nat → Bool} {held : Bool}

set_option maxRecDepth 100000 in
theorem open_oops {fuel : Nat} {a : Option Addr} {len cap : Nat} {x : DataW H × List MemPlace} (h : DataW.trod enc Try.prog w base spare held fuel 58 [.slice a len cap] = some x) :
    ∃ es : List OpIn, len = es.length ∧ es.length ≤ maxLen ∧ OpRow w a es := by
  rcases open_slice Try.underlying58 h with ⟨hcs, _⟩ | ⟨A, l, c, m, n, D, Pl, hcs, _, hl, hm, hmm, _, hx⟩
  · simp at hcs
    obtain ⟨rfl, rfl, rfl⟩ := hcs
    exact ⟨[], rfl, Nat.zero_le _, fun j s hj => by simp at hj⟩
  · simp at hcs
    obtain ⟨rfl, rfl, rfl⟩ := hcs
    have hlm : len ≤ m := by rw [hmm]; split <;> omega
    have c7 : Try.prog.cellsOf 65 = 7 := by kernel_rfl
    have hall : ∀ i, i < len → ∃ q : OpIn, w.cell? (A.add (i * 7)) = some (.int .i64 q.what) ∧ w.cell? (efld A 7 i 1) = some (.int .i64 q.e.ts) ∧ w.cell? (efld A 7 i 2) = some (.int .i64 q.e.dep) ∧ w.cell? (efld A 7 i 3) = some (.int .i64 q.e.seq) ∧ w.cell? (efld A 7 i 4) = some (.string q.e.nm) ∧ w.cell? (efld A 7 i 5) = some (.slice q.e.a q.e.vs.length q.e.c) ∧ w.cell? (efld A 7 i 6) = some (.int .i64 q.n) ∧
        VRow w q.e.a q.e.vs ∧ q.e.vs.length ≤ maxLen ∧ q.e.nm.size ≤ maxLen := fun i hi => by
      obtain ⟨cs', h1, h2⟩ := hx i (by omega)
      rw [c7] at h1
      obtain ⟨_, hlen, hcell⟩ := World.cells?_some h1
      obtain ⟨xs, k, hk, hxy, _, hxl, hf⟩ := DataW.trod_struct Try.underlying65 h2
      match xs, hxl, cs', hlen with
      | [z0, z1, z2], _, [u0, v0, v1, v2, v3, v4, u6], _ =>
        have ki : Try.prog.cellsOf 3 = 1 := by kernel_rfl
        have ke : Try.prog.cellsOf 25 = 5 := by kernel_rfl
        have k0 : Try.prog.cellsOf 2 = 1 := by kernel_rfl
        have f0 := hf 0 _ rfl
        have f1 := hf 1 _ rfl
        have f2 := hf 2 _ rfl
        simp [ki] at f0
        simp [ki, ke] at f1
        simp [ki, ke, k0] at f2
        have p0 : w.cell? (A.add (i * 7)) = some u0 := hcell 0 (by omega)
        have e0 : w.cell? (efld A 7 i 1) = some v0 := hcell 1 (by omega)
        have e1 : w.cell? (efld A 7 i 2) = some v1 := hcell 2 (by omega)
        have e2 : w.cell? (efld A 7 i 3) = some v2 := hcell 3 (by omega)
        have e3 : w.cell? (efld A 7 i 4) = some v3 := hcell 4 (by omega)
        have e4 : w.cell? (efld A 7 i 5) = some v4 := hcell 5 (by omega)
        have p6 : w.cell? (efld A 7 i 6) = some u6 := hcell 6 (by omega)
        obtain ⟨m0, hu0, _, _⟩ := DataW.trod_int Try.underlying3 f0
        obtain ⟨m6, hu6, _, _⟩ := DataW.trod_int Try.underlying2 f2
        simp at hu0 hu6
        subst hu0 hu6
        obtain ⟨ys, k', hk', hxy', _, hyl, hg⟩ := DataW.trod_struct Try.underlying25 f1
        match ys, hyl with
        | [y0, y1, y2, y3, y4], _ =>
          have k1 : Try.prog.cellsOf 3 = 1 := by kernel_rfl
          have k3 : Try.prog.cellsOf 9 = 1 := by kernel_rfl
          have k4 : Try.prog.cellsOf 23 = 1 := by kernel_rfl
          have g0 := hg 0 _ rfl
          have g1 := hg 1 _ rfl
          have g2 := hg 2 _ rfl
          have g3 := hg 3 _ rfl
          have g4 := hg 4 _ rfl
          simp [k0] at g0
          simp [k1] at g1
          simp [k0] at g2
          simp [k3] at g3
          simp [k4] at g4
          obtain ⟨n0, hv0, _, _⟩ := DataW.trod_int Try.underlying2 g0
          obtain ⟨n1, hv1, _, _⟩ := DataW.trod_int Try.underlying3 g1
          obtain ⟨n2, hv2, _, _⟩ := DataW.trod_int Try.underlying2 g2
          obtain ⟨s3, hv3, _, hs3⟩ := DataW.trod_string Try.underlying9 g3
          simp at hv0 hv1 hv2 hv3
          subst hv0 hv1 hv2 hv3
          obtain ⟨a4, l4, c4, rfl⟩ : ∃ a l c, v4 = .slice a l c := by
            rcases DataW.trod_slice Try.underlying23 g4 with ⟨h, _⟩ | ⟨a, l, c, _, _, _, _, h, _⟩
            · simp at h; exact ⟨_, _, _, h⟩
            · simp at h; exact ⟨_, _, _, h⟩
          obtain ⟨vs, rfl, hl4, hr4⟩ := open_vals g4
          exact ⟨⟨m0, ⟨n0, n1, n2, s3, a4, c4, vs⟩, m6⟩, p0, e0, e1, e2, e3, e4, p6, hr4, hl4, hs3⟩
    obtain ⟨q, hq⟩ := choose_lt hall
    refine ⟨(List.range len).map q, by simp, by simp; omega, fun j o hj => ⟨A, rfl, ?_⟩⟩
    obtain ⟨hjl, rfl⟩ := List.getElem?_eq_some_iff.1 hj
    simp at hjl ⊢
    exact hq j hjl
end

end Go.Proofs.Ytfmlgckfcclojaa
namespace Go.Proofs.Ytfmlgckfcclojaa
open Go.ChangeShapes Go.WideShapes Go.ChangeAt Go.RowKit Go.Lib Go.Deep
open Go.ChangeMaps (open_string shut_string)

namespace orderRefused
set_option maxRecDepth 100000 in
theorem lifted (os : Os) (started : os.Started) (H : Type) (enc : TypeId × Value → H) :
    ReturnsInHanded {} Try.checked os 12 .any (Rows.orderRefusedSpec.pre6 enc Try.prog Try.f12 Rows.orderRefusedRow.domain false) (Rows.orderRefusedSpec.post enc Try.prog Try.f12 false true false false) := by
  refine returnsInHanded_of_change (C := Try.checked) eown_ started (by kernel_rfl) Try.func12
    (ChangeSpec.witness6 (enc := enc) (C := Try.checked) false ⟨#[], #[.slice none 0 0], []⟩ 8 (by kernel_rfl) (by kernel_rfl) (by kernel_rfl) (by kernel_rfl)) ?_
  intro W base args ds gs before hval0 hW _ _
  have hval : ∀ (j : Nat) t v, Try.f12.params[j]? = some t → args[j]? = some v → Value.okWide Try.prog W .any base t v := hval0
  have hW' := hW
  obtain ⟨p, q, hA0, hV, rfl, _, _⟩ := hW
  have hA : DataW.TrodAll enc Try.prog W 0 (fun _ => true) true Try.f12.params.toList args.toList ds p := hA0
  rw [Try.params12] at hA hval
  obtain ⟨v0, vs0, d0, ds0, p0, q0, hargs, rfl, rfl, h0, r0⟩ := trodAll_cons hA
  obtain ⟨rfl, rfl, rfl⟩ := trodAll_nil r0
  obtain rfl : args = #[v0] := by cases args; simp_all
  obtain ⟨rfl, rfl⟩ := trodVars_none hV
  have lt0 : ∀ x ∈ p0, x.block < W.heap.size := by obtain ⟨m, hm⟩ := h0; exact DataW.trod_lt m _ _ _ hm
  have k0 := h0
  obtain ⟨a0, l0, c0, rfl⟩ := okWide_slice Try.underlying58 (hval 0 58 v0 rfl rfl)
  obtain ⟨m0, hm0⟩ := h0
  obtain ⟨os0, rfl, hl0, hr0⟩ := open_oops hm0
  clear hA0 hval0
  refine (refused_walk W a0 c0 os0 hr0 hl0).mono fun e W' ⟨he, bel⟩ => ?_
  subst he
  exact ⟨_, rfl, _, _, _, [], _, [], hW', trodAll_mk1 (shut_bool Try.underlying4 _), (trodAll_cons_mk (Below.trod elaidOut (by kernel_rfl) (of_decide_eq_true (by kernel_rfl)) k0 bel lt0) trodAll_mk0), rfl, bel.frame _, fun h => by cases h⟩

theorem holds : Rows.OrderRefusedSaid :=
  OpenClaim.holds_of_wide 12 Try.f12 rfl rfl rfl rfl rfl rfl rfl ⟨rfl, rfl, rfl, rfl, rfl⟩ rfl rfl rfl rfl rfl (by kernel_rfl) Try.func12 (by kernel_rfl)
    (of_decide_eq_true (by kernel_rfl)) (by unfold Func.isWrapper; first | (rw [if_pos (by decide +kernel)]; kernel_rfl) | (rw [if_neg (by decide +kernel)]; exact ⟨rfl, rfl⟩))
    (fun os started H enc _ => lifted os started H enc)
end orderRefused
end Go.Proofs.Ytfmlgckfcclojaa

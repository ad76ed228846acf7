/- Events: Put's closure: digits behind what is there. -/
import Derived.Test.YtppgecbjdkfohaaE8e
import Derived.Test.YtppgecbjdkfohaaV7
namespace Go.Proofs.Ytppgecbjdkfohaa
open Go.RowKit Go.Lib Go.Op

theorem eowns_of_block {w w' : World} {base : Nat} {e : TypeId} {size : Nat} {v : Value} {n : Nat} {xs : List Value} (h : w.ownsRow base e size v n xs) (hb : ∀ g, v.ownBlock = some g → w'.heap[g]? = w.heap[g]?) : w'.ownsRow base e size v n xs := by
  refine ⟨h.1, ?_⟩
  rcases h.2 with h2 | ⟨g, cap, cur, rfl, hg, hh, r⟩
  · exact Or.inl h2
  · exact Or.inr ⟨g, cap, cur, rfl, hg, (hb g rfl).trans hh, r⟩

theorem owns_slice {w : World} {base l : Nat} {v : Value} {bs : List UInt8} (h : w.ownsRow base 5 1 v l (byteCells bs)) : ∃ a q c, v = .slice a q c := by
  obtain ⟨a, c, e, _, _⟩ := (BRow.of_owns h).len
  exact ⟨a, _, c, e⟩

/-- Bytes that a variable holds, in a row of their own. -/
structure PB (w : World) (B bb : Nat) (v : Value) (xs : List UInt8) (W : World) : Prop where
  c : W.cell? ⟨bb, 0, none⟩ = some v
  f : W.frozen? ⟨bb, 0, none⟩ = false
  own : W.ownsRow B 5 1 v xs.length (byteCells xs)
  hb : Below bb w W
  lt : bb < B
  le : B ≤ W.heap.size

theorem PB.alloc {w : World} {B bb : Nat} {v : Value} {xs : List UInt8} {W : World} (h : PB w B bb v xs W) (o : Obj) : PB w B bb v xs (W.alloc o) where
  c := ekeepAl o h.c
  f := (((Below.refl W.heap.size W).alloc (Nat.le_refl _) o).frozen (p := ⟨bb, 0, none⟩) (Nat.lt_of_lt_of_le h.lt h.le)).trans h.f
  own := h.own.alloc o
  hb := h.hb.alloc (Nat.le_trans (Nat.le_of_lt h.lt) h.le) o
  lt := h.lt
  le := Nat.le_trans h.le (by simp)

theorem PB.cellB {w : World} {B bb : Nat} {v : Value} {xs : List UInt8} {W w2 : World} (h : PB w B bb v xs W) (hB2 : Below B W w2) : w2.cell? ⟨bb, 0, none⟩ = some v ∧ w2.frozen? ⟨bb, 0, none⟩ = false :=
  ⟨(hB2.cell (p := ⟨bb, 0, none⟩) h.lt).trans h.c, (hB2.frozen (p := ⟨bb, 0, none⟩) h.lt).trans h.f⟩

theorem PB.fin {w : World} {B bb : Nat} {v v2 : Value} {xs zs : List UInt8} {W w2 : World} {q : Nat} (h : PB w B bb v xs W) (hB2 : Below B W w2) (hown2 : w2.ownsRow B 5 1 v2 q (byteCells zs)) : PB w B bb v2 zs (w2.setCell ⟨bb, 0, none⟩ v2) where
  c := World.cell?_setCell_same _ _ _ (h.cellB hB2).1
  f := by simp [(h.cellB hB2).2]
  own := by
    obtain rfl := owns_len hown2
    exact eowns_of_block hown2 (fun g hg => Below.heap_setCell _ _ _ _ (fun e => by have h8 := (hown2.lt g hg).1; have h9 := h.lt; dsimp only at e; omega))
  hb := (h.hb.trans (hB2.mono (Nat.le_of_lt h.lt))).setCell (Nat.le_refl _) _
  lt := h.lt
  le := Nat.le_trans h.le (by simp; exact hB2.size)

/-- The digits of all, one behind the other. -/
def digsAll : List Nat → List UInt8
  | [] => []
  | n :: l => digsN n ++ digsAll l
theorem digsAll_append : ∀ (l m : List Nat), digsAll (l ++ m) = digsAll l ++ digsAll m
  | [], m => rfl
  | n :: l, m => by simp [digsAll, digsAll_append l m]
theorem digsAll_take {l : List Nat} {k n : Nat} (h : l[k]? = some n) : digsAll (l.take (k + 1)) = digsAll (l.take k) ++ digsN n := by
  rw [List.take_add_one, h, digsAll_append]
  simp [digsAll]
theorem digsAll_len : ∀ (l : List Nat), (∀ n ∈ l, n ≤ 9223372036854775807) → (digsAll l).length ≤ 9 * l.length
  | [], _ => by simp [digsAll]
  | n :: l, h => by
    have h1 := digsN_size n (h n (by simp))
    have h2 := digsAll_len l (fun m hm => h m (by simp [hm]))
    simp only [digsAll, List.length_append, List.length_cons]
    omega

/-- Numbers that are handed in, from a place on. -/
def ARow (W : World) (ab : Nat) (ns : List Nat) (k : Nat) : Prop := ∀ j n, k ≤ j → ns[j]? = some n → W.cell? ⟨ab, j, none⟩ = some (.int .i64 n)

theorem ARow.step {W w2 : World} {ab B bb : Nat} {v2 : Value} {ns : List Nat} {k : Nat} (h : ARow W ab ns k) (hor : ab < B ∨ ns.length ≤ 1) (hne : ab ≠ bb) (hB2 : Below B W w2) : (ab < B → ARow (w2.setCell ⟨bb, 0, none⟩ v2) ab ns k) ∧ ARow (w2.setCell ⟨bb, 0, none⟩ v2) ab ns (k + 1) := by
  have key : ab < B → ARow (w2.setCell ⟨bb, 0, none⟩ v2) ab ns k := fun hlt j n hj hn => by
    rw [World.cell?_setCell_other _ _ _ _ (by intro e; injection e with e1; exact hne e1.symm)]
    exact (hB2.cell (p := ⟨ab, j, none⟩) hlt).trans (h j n hj hn)
  refine ⟨key, fun j n hj hn => ?_⟩
  rcases hor with h1 | h1
  · exact key h1 j n (by omega) hn
  · exfalso
    have := (List.getElem?_eq_some_iff.1 hn).1
    omega

/-- What the closure leaves. -/
def PutsPost (w : World) (B bb : Nat) (zs : List UInt8) (e : Ending) (w' : World) : Prop := e = .returned (.tuple #[]) ∧ ∃ v', PB w B bb v' zs w'

set_option maxHeartbeats 4000000 in
set_option maxRecDepth 100000 in
theorem put1_calls (w0 w : World) (B bb ab cb : Nat) (v : Value) (xs : List UInt8) (ns : List Nat) (hP : PB w0 B bb v xs w) (hns : ∀ n ∈ ns, n ≤ 9223372036854775807) (hA : ARow w ab ns 0) (hor : ab < B ∨ ns.length ≤ 1) (hne : ab ≠ bb) (hl : ns.length ≤ 1000) (hx : xs.length ≤ 10000) :
    Calls Try.prog 56 #[.slice (some ⟨ab, 0, none⟩) ns.length cb, .pointer (some ⟨bb, 0, none⟩)] w (PutsPost w0 B bb (xs ++ digsAll ns)) := by
  obtain ⟨i0, hi, hz0, hz1, hz2⟩ := info_parts infoB8
  have Hns := Lib.hid hns
  have HP := Lib.hid hP
  have HA := Lib.hid hA
  have Hor := Lib.hid hor
  obtain ⟨l, hll⟩ : ∃ l, ns.length = l := ⟨_, rfl⟩
  have Hl := Lib.hid hll
  rw [hll] at hl ⊢
  have hdl : (digsAll ns).length ≤ 9000 := by have := digsAll_len ns hns; omega
  clear hns hP hA hll hor
  go_enter Try.func56, Try.ntmps56
  go_wp2
  go_loopw [4, 7] (fun x i wr => ∃ (k : Nat) (v : Value), i = .int .i64 k ∧ k ≤ l ∧ Hid (PB w0 B bb v (xs ++ digsAll (ns.take k)) wr) ∧ Hid (ARow wr ab ns k)) (fun _ i _ => l - (intOf i).toNat)
  case atStart => exact ⟨0, v, rfl, Nat.zero_le _, by show PB _ _ _ _ _ _; simpa [digsAll] using HP.out, HA⟩
  case round =>
    obtain ⟨k, v, rfl, hk, HPk, HAk⟩ := hrel
    by_cases hlt : k < l
    · obtain ⟨n, hn⟩ : ∃ n, ns[k]? = some n := ⟨_, List.getElem?_eq_getElem (by rw [Hl.out]; exact hlt)⟩
      have hcell := HAk.out k n (Nat.le_refl _) hn
      have hn63 := Hns.out n (List.mem_of_getElem? hn)
      have Htk := Lib.hid (digsAll_take hn)
      have hD0 : Hid (DigsDone n n []) := ⟨rfl, Nat.le_refl _⟩
      have hxk : (xs ++ digsAll (ns.take k)).length ≤ 19000 := by
        have h1 := digsAll_len (ns.take k) (fun m hm => Hns.out m (List.mem_of_mem_take hm))
        have h2 := List.length_take_le k ns
        rw [List.length_append]
        have h3 := Hl.out
        omega
      generalize hys : xs ++ digsAll (ns.take k) = ys at *
      have Hys := Lib.hid hys
      clear hn hys
      go_wp2
      go_loopw [4] (fun x wr => ∃ (m : Nat) (zs : List UInt8) (v : Value), x = .int .i64 m ∧ m ≤ 9223372036854775807 ∧ Hid (DigsDone n m zs) ∧ Hid (PB w0 B bb v (ys ++ zs) wr) ∧ Hid (ARow wr ab ns (k + 1))) (fun x _ => (intOf x).toNat)
      case atStart => exact ⟨n, [], v, rfl, hn63, hD0, by show PB _ _ _ _ _ _; simpa using HPk.out, fun j m hj hm => HAk.out j m (by omega) hm⟩
      case round =>
        obtain ⟨m, zs, v, rfl, hm, HD, HPz, HAz⟩ := hrel
        have hzs : zs.length ≤ 9 := by
          have h1 := congrArg List.length HD.out.1
          rw [List.length_append] at h1
          have h2 := digsN_size n hn63
          omega
        have hq2 : (ys ++ zs).length ≤ 19009 := by rw [List.length_append]; omega
        by_cases hge : 128 ≤ m
        · have hcs : (#[Value.int .u8 (128 + (m : Int) % 128)] : Array Value).toList = byteCells [UInt8.ofNat (128 + m % 128)] := by
            simp [byteCells]
            omega
          have Hcs := Lib.hid hcs
          have HD2 := Lib.hid (HD.out.step hge)
          have hPa := HPz.out.alloc (.cells #[.int .u8 (128 + (m : Int) % 128)] 5)
          have HPa := Lib.hid hPa
          have hc0 := HPz.out.c
          have hf0 := HPz.out.f
          have HAa : Hid (ARow (wr.alloc (.cells #[.int .u8 (128 + (m : Int) % 128)] 5)) ab ns (k + 1)) := fun j q hj hq => ekeepAl _ (HAz.out j q hj hq)
          have hblt := HPz.out.lt
          have hble := HPz.out.le
          clear hcs hPa
          go_wp2_with (at_builtin; refine wpList_append_own _ rfl (.tmp 15) (.tmp 20) 40 rfl B 5 i0 (.int .u8 0) 1 1 Try.underlying40 hi hz0 hz1 hz2 rfl (by decide) _ _ _ rfl HPa.out.own ⟨wr.heap.size, 0, none⟩ 1 1 (byteCells [UInt8.ofNat (128 + m % 128)]) rfl rfl (cells_new wr [UInt8.ofNat (128 + m % 128)] _ _ _ Hcs.out) (byteCells_one _) (by unfold maxLen; omega) (by omega) (by simp; omega) ?_; intro v2 w2 hown2 hgrow2 hnil2; have hB2 : Below B _ w2 := (Below.refl B _).grown hgrow2 HPa.out.le (fun g hg => (HPa.out.own.lt g hg).1); obtain ⟨e0, f0⟩ := HPa.out.cellB hB2; rw [← byteCells_append, List.append_assoc] at hown2; obtain ⟨sa2, q2, sc2, rfl⟩ := owns_slice hown2; have HP3 := Lib.hid (HPa.out.fin hB2 hown2); have HA3 : Hid (ARow (w2.setCell ⟨bb, 0, none⟩ (.slice sa2 q2 sc2)) ab ns (k + 1)) := (fun j q hj hq => (Hor.out.elim (fun hlt => (HAa.out.step (Or.inl hlt) hne hB2).1 hlt j q hj hq) (fun h1 => by exfalso; have h2 := (List.getElem?_eq_some_iff.1 hq).1; omega))); clear hown2 hgrow2 hnil2 hB2)
          go_roundw
          case rel => exact ⟨m / 128, _, _, by go_num, by omega, HD2, HP3, HA3⟩
          case measure => simp [intOf]; omega
        · have hcs : (#[Value.int .u8 (m : Int)] : Array Value).toList = byteCells [UInt8.ofNat m] := by
            simp [byteCells]
            omega
          have Hcs := Lib.hid hcs
          have hfin : digsN n = zs ++ [UInt8.ofNat m] := by rw [HD.out.1, digsN_lt (by omega)]
          have Hfin := Lib.hid hfin
          have hPa := HPz.out.alloc (.cells #[.int .u8 (m : Int)] 5)
          have HPa := Lib.hid hPa
          have hc0 := HPz.out.c
          have hf0 := HPz.out.f
          have HAa : Hid (ARow (wr.alloc (.cells #[.int .u8 (m : Int)] 5)) ab ns (k + 1)) := fun j q hj hq => ekeepAl _ (HAz.out j q hj hq)
          have hblt := HPz.out.lt
          have hble := HPz.out.le
          clear hcs hPa hfin
          go_wp2_with (at_builtin; refine wpList_append_own _ rfl (.tmp 22) (.tmp 25) 40 rfl B 5 i0 (.int .u8 0) 1 1 Try.underlying40 hi hz0 hz1 hz2 rfl (by decide) _ _ _ rfl HPa.out.own ⟨wr.heap.size, 0, none⟩ 1 1 (byteCells [UInt8.ofNat m]) rfl rfl (cells_new wr [UInt8.ofNat m] _ _ _ Hcs.out) (byteCells_one _) (by unfold maxLen; omega) (by omega) (by simp; omega) ?_; intro v2 w2 hown2 hgrow2 hnil2; have hB2 : Below B _ w2 := (Below.refl B _).grown hgrow2 HPa.out.le (fun g hg => (HPa.out.own.lt g hg).1); obtain ⟨e0, f0⟩ := HPa.out.cellB hB2; rw [← byteCells_append, List.append_assoc, ← Hfin.out] at hown2; obtain ⟨sa2, q2, sc2, rfl⟩ := owns_slice hown2; have HP3 := Lib.hid (HPa.out.fin hB2 hown2); have HA3 : Hid (ARow (w2.setCell ⟨bb, 0, none⟩ (.slice sa2 q2 sc2)) ab ns (k + 1)) := (fun j q hj hq => (Hor.out.elim (fun hlt => (HAa.out.step (Or.inl hlt) hne hB2).1 hlt j q hj hq) (fun h1 => by exfalso; have h2 := (List.getElem?_eq_some_iff.1 hq).1; omega))); clear hown2 hgrow2 hnil2 hB2)
          go_roundw
          case rel => exact ⟨k + 1, _, by go_num, by omega, by rw [Htk.out, ← List.append_assoc, Hys.out]; exact HP3, HA3⟩
          case measure => simp [intOf]; omega
    · obtain rfl : k = l := by omega
      have htk : ns.take k = ns := List.take_of_length_le (by rw [Hl.out]; exact Nat.le_refl _)
      have hfin := HPk.out
      rw [htk] at hfin
      have HF := Lib.hid hfin
      clear hfin
      go_wp2
      go_end0
      exact ⟨rfl, _, HF.out⟩

end Go.Proofs.Ytppgecbjdkfohaa

/- firstOf: the closure that tells how many bytes of a file are kept. -/
import Derived.Test.YtgkhnimdlkdaaaaDC
namespace Go.Proofs.Ytgkhnimdlkdaaaa
open Go.RowKit Go.Lib Go.Maps

/-- The first of a name. -/
def firstK (ks : List (ByteArray × Int)) (k : List UInt8) : Option Int := (ks.find? fun x => x.1.data.toList == k).map (·.2)
/-- What the closure answers. -/
def manyK (ks : List (ByteArray × Int)) (k : List UInt8) : Int := (firstK ks k).getD (-1)

/-- A row of structs of a text and a number, as it was handed in. -/
def KRow (w : World) (A : Addr) (ks : List (ByteArray × Int)) : Prop :=
  ∀ j s m, ks[j]? = some (s, m) → w.cell? (A.add (j * 2)) = some (.string s) ∧ w.cell? (A.add (j * 2 + 1)) = some (.int .i64 m) ∧ s.size ≤ maxLen ∧ (Lit.int .i64 m).wf = true

/-- The map that the closure asks holds the first of each name of a list. -/
def FirstD (ks : List (ByteArray × Int)) (D : DataW Unit) : Prop :=
  (∀ k, Maps.has D (.string k) = (firstK ks k).isSome) ∧ ∀ k v, firstK ks k = some v → ∀ z, D.atKey (.string k) z = .lit (.int .i64 v)

def FirstAt (w : World) (B bx : Nat) (ks : List (ByteArray × Int)) : Prop :=
  ∃ mb c D, B ≤ bx ∧ B ≤ mb ∧ w.cell? ⟨bx, 0, none⟩ = some (.map (some mb)) ∧ w.ownsMap Try.prog 9 (plainElem Try.prog 3) mb c D ∧ FirstD ks D

theorem add_add' (a : Addr) (i j : Nat) : (a.add i).add j = a.add (i + j) := by
  unfold Addr.add
  by_cases hi : i = 0 <;> by_cases hj : j = 0 <;> simp [hi, hj, Nat.add_assoc]

theorem add_one' (a : Addr) : a.add 1 = ⟨a.block, a.off + 1, none⟩ := rfl

theorem zeroI (w : World) : (zeroValue 3).run Try.prog w = .ok (.int .i64 0) w := by kernel_rfl

theorem firstK_snoc_old {ks : List (ByteArray × Int)} {s : ByteArray} {m : Int} (h : (firstK ks s.data.toList).isSome = true) (k : List UInt8) : firstK (ks ++ [(s, m)]) k = firstK ks k := by
  simp only [firstK, List.find?_append]
  cases hf : ks.find? fun x => x.1.data.toList == k with
  | some x => simp
  | none =>
    have : ¬ s.data.toList = k := fun e => by
      subst e
      rw [firstK, hf] at h
      cases h
    simp only [List.find?_cons, beq_eq_false_iff_ne.2 this, List.find?_nil]
    simp

theorem firstK_snoc_new {ks : List (ByteArray × Int)} {s : ByteArray} {m : Int} (h : firstK ks s.data.toList = none) (k : List UInt8) : firstK (ks ++ [(s, m)]) k = if k = s.data.toList then some m else firstK ks k := by
  simp only [firstK, List.find?_append]
  by_cases e : k = s.data.toList
  · subst e
    simp only [firstK, Option.map_eq_none_iff] at h
    rw [if_pos rfl, h]
    simp
  · rw [if_neg e]
    have : ¬ s.data.toList = k := fun e1 => e e1.symm
    cases hf : ks.find? fun x => x.1.data.toList == k
    · simp only [List.find?_cons, beq_eq_false_iff_ne.2 this, List.find?_nil]
      simp
    · simp

theorem FirstD.old {ks : List (ByteArray × Int)} {s : ByteArray} {m : Int} {D : DataW Unit} (h : FirstD ks D) (hh : Maps.has D (.string s.data.toList) = true) : FirstD (ks ++ [(s, m)]) D := by
  have h1 : (firstK ks s.data.toList).isSome = true := by rw [← h.1]; exact hh
  exact ⟨fun k => by rw [firstK_snoc_old h1]; exact h.1 k, fun k v hv => by rw [firstK_snoc_old h1] at hv; exact h.2 k v hv⟩

theorem FirstD.new {ks : List (ByteArray × Int)} {s : ByteArray} {m : Int} {D : DataW Unit} (h : FirstD ks D) (hD : IsMap D) (hh : Maps.has D (.string s.data.toList) = false) : FirstD (ks ++ [(s, m)]) (D.put (.string s.data.toList) (.lit (.int .i64 m))) := by
  have h1 : firstK ks s.data.toList = none := by
    have := h.1 s.data.toList
    rw [hh] at this
    simpa using this.symm
  refine ⟨fun k => ?_, fun k v hv z => ?_⟩
  · rw [firstK_snoc_new h1]
    by_cases e : k = s.data.toList
    · subst e
      rw [if_pos rfl, Maps.has_put_same (k := .string s.data.toList) hD trivial]
      rfl
    · rw [if_neg e, Maps.has_put_other (fun e1 => e (by injection e1))]
      exact h.1 k
  · rw [firstK_snoc_new h1] at hv
    by_cases e : k = s.data.toList
    · subst e
      rw [if_pos rfl] at hv
      injection hv with hv
      subst hv
      exact Maps.atKey_put_same (k := .string s.data.toList) hD trivial _ _
    · rw [if_neg e] at hv
      rw [Maps.atKey_put_other (fun e1 => e (by injection e1))]
      exact h.2 k v hv z

set_option maxHeartbeats 400000 in
set_option maxRecDepth 100000 in
/-- The closure's own call. -/
theorem many_calls {B bx : Nat} {ks : List (ByteArray × Int)} {w : World} (h : FirstAt w B bx ks) {s : ByteArray} (hs : s.size ≤ maxLen) :
    Calls Try.prog 57 #[.string s, .pointer (some ⟨bx, 0, none⟩)] w fun e w' => e = .returned (.int .i64 (manyK ks s.data.toList)) ∧ w = w' := by
  obtain ⟨mb, c, D, _, _, hx, hown, h1, h2⟩ := h
  have hkey := WideMaps.keyOf_string_mk Try.underlying9 hs
  obtain ⟨v, hv⟩ : ∃ v, manyK ks s.data.toList = v := ⟨_, rfl⟩
  rw [hv]
  have Hv := Lib.hid hv
  have H1 : Hid (Maps.has D (.string s.data.toList) = (firstK ks s.data.toList).isSome) := h1 _
  have H2 : Hid (∀ v, firstK ks s.data.toList = some v → ∀ z, D.atKey (.string s.data.toList) z = .lit (.int .i64 v)) := fun v hv => h2 _ v hv
  clear hv h1 h2
  cases hh : Maps.has D (.string s.data.toList) with
  | true =>
    have Hh := Lib.hid hh
    go_enter Try.func57, Try.ntmps57
    go_wp2_with (first
      | (at_lookup; refine wpList_lookup_own_ok_int _ rfl _ _ 91 rfl 9 3 .i64 lawS Try.underlying91 Try.underlying3 (zeroI _) mb c D rfl hown _ _ rfl hkey ?_; intro x hat hwx; have Hat : Hid (D.atKey (.string s.data.toList) (.lit (.int .i64 0)) = .lit (.int .i64 x)) := hat; clear hat)
      | go_in)
    go_ret
    have h3 := H1.out
    rw [Hh.out] at h3
    obtain ⟨u, hu⟩ := Option.isSome_iff_exists.1 h3.symm
    have h4 := (H2.out u hu _).symm.trans Hat.out
    have h5 := Hv.out
    simp only [manyK, hu, Option.getD_some] at h5
    obtain rfl : u = x := by simpa using h4
    subst h5
    exact ⟨rfl, rfl⟩
  | false =>
    have Hh := Lib.hid hh
    go_enter Try.func57, Try.ntmps57
    go_wp2_with (first
      | (at_lookup; refine wpList_lookup_own_ok_int _ rfl _ _ 91 rfl 9 3 .i64 lawS Try.underlying91 Try.underlying3 (zeroI _) mb c D rfl hown _ _ rfl hkey ?_; intro x hat hwx; have Hat : Hid (D.atKey (.string s.data.toList) (.lit (.int .i64 0)) = .lit (.int .i64 x)) := hat; clear hat)
      | go_in)
    go_ret
    have h3 := H1.out
    rw [Hh.out] at h3
    have h5 := Hv.out
    have h6 : firstK ks s.data.toList = none := by simpa using h3.symm
    simp only [manyK, h6, Option.getD_none] at h5
    subst h5
    exact ⟨rfl, rfl⟩

set_option maxHeartbeats 1000000 in
set_option maxRecDepth 100000 in
theorem firstOf_some (A : Addr) (c : Nat) (ks : List (ByteArray × Int)) (w : World) (hk : KRow w A ks) (hl : ks.length ≤ 1000000000000) :
    Calls Try.prog 52 #[.slice (some A) ks.length c] w fun e w' => ∃ bx, e = .returned (.func (.func 57) #[] #[.pointer (some ⟨bx, 0, none⟩)]) ∧ FirstAt w' w.heap.size bx ks ∧ Below w.heap.size w w' := by
  have hmm := @run_makeMap Try.prog
  have Hk := Lib.hid hk
  obtain ⟨l, hll⟩ : ∃ l, ks.length = l := ⟨_, rfl⟩
  have Hll := Lib.hid hll
  rw [hll] at hl ⊢
  clear hk hll
  go_enter Try.func52, Try.ntmps52
  go_wp2_with fail
  go_loopw [11] (fun i wr => ∃ (k : Nat) (D : DataW Unit), k ≤ l ∧ i = .int .i64 k ∧ wr.cell? ⟨w.heap.size + 1, 0, none⟩ = some (.map (some w.heap.size)) ∧ wr.ownsMap Try.prog 9 (plainElem Try.prog 3) w.heap.size k D ∧ Hid (FirstD (ks.take k) D) ∧ Hid (Below w.heap.size w wr) ∧ w.heap.size + 2 ≤ wr.heap.size)
    (fun i _ => l - (intOf i).toNat)
  case atStart =>
    refine ⟨0, .map [], Nat.zero_le _, rfl, by simp, ?_, ⟨fun k => rfl, fun k v hv => by cases hv⟩, ((Below.refl _ _).alloc (Nat.le_refl _) _).alloc (by simp) _, by simp⟩
    exact (World.ownsMap_made w Try.prog 9 (plainElem Try.prog 3)).alloc _
  case round =>
    obtain ⟨k, D, hkl, rfl, hx, hown, Hf, Hb, hsz⟩ := hrel
    by_cases hlt : k < l
    · obtain ⟨⟨s, v⟩, hks⟩ : ∃ x, ks[k]? = some x := ⟨_, List.getElem?_eq_getElem (by rw [Hll.out]; exact hlt)⟩
      obtain ⟨e0, e1, hss, hwv⟩ := Hk.out k s v hks
      have g0 := (Hb.out.cell (p := A.add (k * 2)) (World.block_lt_of_cell? _ _ e0)).trans e0
      have g1 := (Hb.out.cell (p := A.add (k * 2 + 1)) (World.block_lt_of_cell? _ _ e1)).trans e1
      rw [← add_add', add_one'] at g1
      have hkey := WideMaps.keyOf_string_mk Try.underlying9 hss
      have Hks := Lib.hid hks
      clear e0 e1 hks
      have hK1 : ks.take (k + 1) = ks.take k ++ [(s, v)] := by
        rw [List.take_add_one, Hks.out]
        rfl
      have HK1 := Lib.hid hK1
      have hx2 : (wr.alloc (.cells #[.string s, .int .i64 v] 57)).cell? ⟨w.heap.size + 1, 0, none⟩ = some (.map (some w.heap.size)) := by rw [World.cell?_alloc_lt _ _ _ (World.block_lt_of_cell? _ _ hx)]; exact hx
      have Hown := Lib.hid hown
      clear hK1
      cases hh : Maps.has D (.string s.data.toList) with
      | true =>
        have Hf1 : Hid (FirstD (ks.take (k + 1)) D) := by rw [HK1.out]; exact Hf.out.old hh
        go_wp2_with (first
          | (at_lookup; refine wpList_lookup_own_ok_int _ rfl _ _ 91 rfl 9 3 .i64 lawS Try.underlying91 Try.underlying3 (zeroI _) w.heap.size k D rfl (Hown.out.alloc _) _ _ rfl hkey ?_; intro x hat hwx; clear hat)
          | go_in)
        go_roundw
        case rel => exact ⟨k + 1, D, by omega, by go_num, hx2, (Hown.out.alloc _).mono (by omega), Hf1, Hb.out.alloc (by omega) _, by simp; omega⟩
        case measure => simp [intOf]; omega
      | false =>
        have Hf1 : Hid (FirstD (ks.take (k + 1)) (D.put (.string s.data.toList) (.lit (.int .i64 v)))) := by rw [HK1.out]; exact Hf.out.new hown.isMap hh
        go_wp2_with (first
          | (at_lookup; refine wpList_lookup_own_ok_int _ rfl _ _ 91 rfl 9 3 .i64 lawS Try.underlying91 Try.underlying3 (zeroI _) w.heap.size k D rfl (Hown.out.alloc _) _ _ rfl hkey ?_; intro x hat hwx; clear hat)
          | (at_mapUpdate; refine wpList_mapUpdate_own _ rfl _ _ _ 91 rfl 9 3 lawS Try.underlying91 _ w.heap.size k D rfl (Hown.out.alloc _) (by unfold maxLen; omega) _ _ _ rfl rfl hkey _ [] (plainElem_int Try.underlying3 hwv) ?_; intro w1 hown1 hgrow1)
          | go_in)
        go_roundw
        case rel =>
          refine ⟨k + 1, _, by omega, by go_num, ?_, hown1, Hf1, (Hb.out.alloc (by omega) _).grown hgrow1 (by simp; omega) (fun j hj => by injection hj with hj; omega), by have := hgrow1.size; simp at this; omega⟩
          exact hgrow1.cell hx2 (by simp)
        case measure => simp [intOf]; omega
    · have e1 : ks.take k = ks := List.take_of_length_le (by rw [Hll.out]; omega)
      have Hf1 : Hid (FirstD ks D) := by rw [← e1]; exact Hf.out
      go_wp2
      go_ret
      exact ⟨_, rfl, ⟨_, _, _, by omega, Nat.le_refl _, hx, hown, Hf1.out⟩, Hb.out⟩

set_option maxHeartbeats 400000 in
set_option maxRecDepth 100000 in
theorem firstOf_nil (w : World) :
    Calls Try.prog 52 #[.slice none 0 0] w fun e w' => ∃ bx, e = .returned (.func (.func 57) #[] #[.pointer (some ⟨bx, 0, none⟩)]) ∧ FirstAt w' w.heap.size bx [] ∧ Below w.heap.size w w' := by
  have hmm := @run_makeMap Try.prog
  go_enter Try.func52, Try.ntmps52
  go_wp2_with fail
  refine wp_loop_rounds 1 ?_
  rw [rounds_succ]
  go_wp2
  go_ret
  exact ⟨_, rfl, ⟨w.heap.size, 0, .map [], by omega, Nat.le_refl _, by simp, (World.ownsMap_made w Try.prog 9 (plainElem Try.prog 3)).alloc _, fun k => rfl, fun k v hv => by cases hv⟩, ((Below.refl _ _).alloc (Nat.le_refl _) _).alloc (by simp) _⟩

/-- Names and numbers that were handed in, in memory that the device doesn't own. -/
def KArg (w : World) (own : Owner) (kv : Value) (ks : List (ByteArray × Int)) : Prop :=
  (kv = .slice none 0 0 ∧ ks = []) ∨ ∃ A c, kv = .slice (some A) ks.length c ∧ (ks ≠ [] → own A.block = none) ∧ KRow w A ks

theorem KArg.step {w w' : World} {own own' : Owner} {kv : Value} {ks : List (ByteArray × Int)} (h : KArg w own kv ks) (hs : Step own own' w w') : KArg w' own' kv ks := by
  rcases h with h | ⟨A, c, h1, h3, h4⟩
  · exact Or.inl h
  · refine Or.inr ⟨A, c, h1, fun hne => ?_, fun j s m hj => ?_⟩
    · cases ks with
      | nil => exact absurd rfl hne
      | cons x l =>
        have h5 := World.block_lt_of_cell? _ _ (h4 0 x.1 x.2 rfl).1
        rw [add_block] at h5
        exact hs.own _ h5 (h3 hne)
    · obtain ⟨e0, e1, e2⟩ := h4 j s m hj
      have h6 := h3 (fun e => by subst e; simp at hj)
      have h5 := World.block_lt_of_cell? _ _ e0
      rw [add_block] at h5
      have hb := hs.fr.block A.block h5 (by simp [h6])
      exact ⟨(World.cell?_of_block (by rw [add_block]; exact hb)).trans e0, (World.cell?_of_block (by rw [add_block]; exact hb)).trans e1, e2⟩

theorem firstOf_calls {w : World} {own : Owner} {kv : Value} {ks : List (ByteArray × Int)} (h : KArg w own kv ks) (hl : ks.length ≤ 1000000000000) :
    Calls Try.prog 52 #[kv] w fun e w' => ∃ bx, e = .returned (.func (.func 57) #[] #[.pointer (some ⟨bx, 0, none⟩)]) ∧ FirstAt w' w.heap.size bx ks ∧ Below w.heap.size w w' := by
  rcases h with ⟨rfl, rfl⟩ | ⟨A, c, rfl, _, h4⟩
  · exact firstOf_nil w
  · exact firstOf_some A c ks w h4 hl

theorem FirstAt.step {w w' : World} {own own' : Owner} {B bx : Nat} {ks : List (ByteArray × Int)} (h : FirstAt w B bx ks) (hs : Step own own' w w') (ho : ∀ b, B ≤ b → own b = none) : FirstAt w' B bx ks := by
  obtain ⟨mb, c, D, h1, h2, hx, hown, h3⟩ := h
  refine ⟨mb, c, D, h1, h2, hs.fr.cell hx (by simp [ho bx h1]), ownsMap_of_block hown (hs.fr.block mb hown.lt (by simp [ho mb h2])), h3⟩

end Go.Proofs.Ytgkhnimdlkdaaaa

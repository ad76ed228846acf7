/- Queries: which rows of items are right. | Queries: what a value may be that has a text; what an expression has. -/
import Derived.Test.YtifacoompbngaaaGreatDoorM4
namespace Go.Proofs.YtifacoompbngaaaGreatDoor
open Go.RowKit Go.Lib Go.Op

/-- So long may texts be that are asked about. -/
def ItB (i : PIt) : Prop := i.ns.length ≤ 1000000 ∧ (∀ b ∈ i.ns, b.length ≤ 1000000) ∧ i.x.length ≤ 1000000

/-- The cells of a row of items. -/
theorem RowK.itemAt {K : Nat → Prop} {w : World} {a : Option Addr} {n c : Nat} {l : List PIt} (h : RowK itemD K w (.slice a n c) l) {j : Nat} {i : PIt} (hj : l[j]? = some i) : ∃ g o a' c', a = some ⟨g, o, none⟩ ∧ w.cell? ⟨g, o + j * 4, none⟩ = some (.bool i.no) ∧ w.cell? ⟨g, o + j * 4 + 1, none⟩ = some (.slice a' i.ns.length c') ∧ w.cell? ⟨g, o + j * 4 + 2, none⟩ = some (.string (strB i.x)) ∧ w.cell? ⟨g, o + j * 4 + 3, none⟩ = some (.int .i64 i.mode) ∧ RowK nameD K w (.slice a' i.ns.length c') i.ns := by
  obtain ⟨a1, c1, e, _, h⟩ := h
  injection e with e1 e2 e3
  obtain ⟨g, o, cs, ea, hg, ⟨a', c', hcs, hr⟩, hc⟩ := h j i hj
  subst hcs
  exact ⟨g, o, a', c', e1.trans ea, hc 0 _ rfl, hc 1 _ rfl, hc 2 _ rfl, hc 3 _ rfl, hr⟩

theorem rightIs_nil : rightIs [] = false := rfl
theorem rightIs_bad {l : List PIt} {i : PIt} (h0 : l[0]? = some i) (h : 6 < l.length ∨ i.no = true ∨ i.mode = 3) : rightIs l = false := by
  cases l with
  | nil => rfl
  | cons i' r =>
    obtain rfl : i' = i := by simpa using h0
    unfold rightIs
    have : (decide (6 < (i' :: r).length) || (i'.no || decide (i'.mode = 3))) = true := by
      rcases h with h | h | h
      · simp only [h, decide_true, Bool.true_or]
      · simp [h]
      · simp [h]
    show (!(decide (6 < (i' :: r).length) || (i'.no || decide (i'.mode = 3))) && ((i' :: r).all rightI && unlikeB ((i' :: r).map (·.x)))) = _
    rw [this]; rfl
theorem rightIs_good {l : List PIt} {i : PIt} (h0 : l[0]? = some i) (h1 : ¬ 6 < l.length) (h2 : i.no = false) (h3 : i.mode ≠ 3) : rightIs l = (l.all rightI && unlikeB (l.map (·.x))) := by
  cases l with
  | nil => simp at h0
  | cons i' r =>
    obtain rfl : i' = i := by simpa using h0
    unfold rightIs
    have : (decide (6 < (i' :: r).length) || (i'.no || decide (i'.mode = 3))) = false := by
      rw [decide_eq_false h1, h2, decide_eq_false h3]; rfl
    show (!(decide (6 < (i' :: r).length) || (i'.no || decide (i'.mode = 3))) && ((i' :: r).all rightI && unlikeB ((i' :: r).map (·.x)))) = _
    rw [this]; rfl

section
variable {K : Nat → Prop} {w : World} {a : Option Addr} {c : Nat} {l : List PIt}

set_option maxHeartbeats 1000000 in
set_option maxRecDepth 100000 in
theorem ritems_bad (h : RowK itemD K w (.slice a l.length c) l) (hbad : l = [] ∨ ∃ i, l[0]? = some i ∧ (6 < l.length ∨ i.no = true ∨ i.mode = 3)) :
    Calls Tryz.prog 52 #[.slice a l.length c] w fun e w' => e = .returned (.bool false) ∧ Below w.heap.size w w' := by
  rcases hbad with rfl | ⟨i, h0, hb⟩
  · clear h
    go_enter Tryz.func52, Tryz.ntmps52
    go_wp2
    go_ret
    exact ⟨rfl, Below.refl _ _⟩
  · obtain ⟨g, o, a', c', rfl, c0, c1, c2, c3, _⟩ := h.itemAt h0
    have hpos : 0 < l.length := (List.getElem?_eq_some_iff.1 h0).1
    obtain ⟨q, hq⟩ : ∃ q, l.length = q := ⟨_, rfl⟩
    rw [hq] at hpos hb ⊢
    simp only [Nat.zero_mul, Nat.add_zero] at c0 c1 c2 c3
    have t0 : ((q : Int) == 0) = false := by rw [beq_eq_false_iff_ne]; omega
    clear h h0 hq
    by_cases h6 : 6 < q
    · have t1 : decide (6 < (q : Int)) = true := decide_eq_true (by omega)
      clear hb
      go_enter Tryz.func52, Tryz.ntmps52
      go_wp2
      go_ret
      exact ⟨rfl, Below.refl _ _⟩
    have t1 : decide (6 < (q : Int)) = false := decide_eq_false (by omega)
    have hb2 := hb.resolve_left h6
    clear hb
    cases hno : i.no with
    | true =>
      rw [hno] at c0
      clear hb2 hno
      go_enter Tryz.func52, Tryz.ntmps52
      go_wp2
      go_ret
      exact ⟨rfl, Below.refl _ _⟩
    | false =>
      have hm := hb2.resolve_left (by rw [hno]; simp)
      rw [hno] at c0
      rw [hm] at c3
      have t3 : ((3 : Int) == 3) = true := rfl
      clear hb2 hno hm
      go_enter Tryz.func52, Tryz.ntmps52
      go_wp2
      go_ret
      exact ⟨rfl, Below.refl _ _⟩

set_option maxHeartbeats 2000000 in
set_option maxRecDepth 100000 in
theorem ritems_good (h : RowK itemD K w (.slice a l.length c) l) {i : PIt} (h0 : l[0]? = some i) (h6 : ¬ 6 < l.length) (hno : i.no = false) (hm : i.mode ≠ 3) (hbd : ∀ i ∈ l, ItB i) :
    Calls Tryz.prog 52 #[.slice a l.length c] w fun e w' => e = .returned (.bool (l.all rightI && unlikeB (l.map (·.x)))) ∧ Below w.heap.size w w' := by
  obtain ⟨z, hz⟩ : ∃ z, (l.all rightI && unlikeB (l.map (·.x))) = z := ⟨_, rfl⟩
  rw [hz]
  obtain ⟨g, o, a', c', rfl, c0, c1, c2, c3, _⟩ := h.itemAt h0
  have hpos : 0 < l.length := (List.getElem?_eq_some_iff.1 h0).1
  have H := Lib.hid h
  obtain ⟨q, hq⟩ : ∃ q, l.length = q := ⟨_, rfl⟩
  have HQ := Lib.hid hq
  have HZ := Lib.hid hz
  have HBD := Lib.hid hbd
  rw [hq] at hpos h6 ⊢
  simp only [Nat.zero_mul, Nat.add_zero] at c0 c1 c2 c3
  have t0 : ((q : Int) == 0) = false := by rw [beq_eq_false_iff_ne]; omega
  have t1 : decide (6 < (q : Int)) = false := decide_eq_false (by omega)
  have t3 : (i.mode == 3) = false := by rw [beq_eq_false_iff_ne]; exact hm
  rw [hno] at c0
  clear h h0 hq hz hbd hno hm
  go_enter Tryz.func52, Tryz.ntmps52
  go_wp2
  clear c0 c1 c2 c3 t0 t1 t3
  go_loopw [3, 29] (fun v k wr => ∃ j : Nat, k = .int .i64 j ∧ j ≤ q ∧ Hid (∀ i ∈ l.take j, rightI i = true) ∧ Hid (OwnP nameD wr w.heap.size 9 v ((l.take j).map (·.x))) ∧ Hid (Below w.heap.size w wr)) (fun _ k _ => q - (RowKit.intOf k).toNat)
  case atStart => exact ⟨0, rfl, Nat.zero_le _, fun i hi => (by simp at hi), ⟨[], rfl, World.ownsRow_nil _ _ _ _, fun c hc => (by cases hc), fun j x hj => (by simp at hj)⟩, Below.refl _ _⟩
  case round =>
    obtain ⟨j, rfl, hj, HA, HO, HB⟩ := hrel
    obtain ⟨va, vc, rfl⟩ := HO.out.slice
    by_cases hlt : j < q
    · obtain ⟨y, hy⟩ : ∃ y, l[j]? = some y := ⟨_, List.getElem?_eq_getElem (by rw [HQ.out]; exact hlt)⟩
      have hyb := HBD.out y (List.mem_of_getElem? hy)
      obtain ⟨g', o', a2, c2, e, d0, d1, d2, d3, hr⟩ := (H.out.low HB.out).itemAt hy
      injection e with e
      injection e with e1 e2
      subst e1 e2
      have hba := (Below.refl wr.heap.size wr).alloc (Nat.le_refl _) (.cells #[.bool y.no, .slice a2 y.ns.length c2, .string (strB y.x), .int .i64 y.mode] 62)
      have HRI := Lib.hid (rightItem_calls y (hr.low hba) hyb.1 hyb.2.1 (strB y.x))
      obtain ⟨m, hm⟩ : ∃ m, y.ns.length = m := ⟨_, rfl⟩
      rw [hm] at d1 HRI hba
      have HBA := Lib.hid (HB.out.alloc HB.out.size (.cells #[.bool y.no, .slice a2 m c2, .string (strB y.x), .int .i64 y.mode] 62))
      have HBA1 := Lib.hid hba
      have HY := Lib.hid hy
      obtain ⟨t, ht⟩ : ∃ t, rightI y = t := ⟨_, rfl⟩
      rw [ht] at HRI
      have HT := Lib.hid ht
      obtain ⟨p, hp⟩ : ∃ p, ((l.take j).map (·.x)).length = p := ⟨_, rfl⟩
      have HP := Lib.hid hp
      rw [hp] at HO ⊢
      clear hr hba hm hy ht hyb hp
      cases t with
      | false =>
        have hz0 : z = false := by
          rw [← HZ.out, List.all_eq_false.2 ⟨y, List.mem_of_getElem? HY.out, by rw [HT.out]; simp⟩]
          rfl
        subst hz0
        go_wp2_with (go_at_call 117; (with_reducible refine HRI.out.mono ?_); rintro e w1 ⟨rfl, hb1⟩; have HB1 := Lib.hid (HBA.out.trans (hb1.mono HBA.out.size)); clear hb1)
        go_ret
        exact ⟨rfl, HB1.out⟩
      | true =>
        have HA2 : Hid (∀ i ∈ l.take (j + 1), rightI i = true) := fun i hi => by
          rw [List.take_add_one, HY.out] at hi
          rcases List.mem_append.1 hi with hi | hi
          · exact HA.out i hi
          · obtain rfl : i = y := by simpa using hi
            exact HT.out
        have HAP : Hid (∀ w1, Below (wr.alloc (.cells #[.bool y.no, .slice a2 m c2, .string (strB y.x), .int .i64 y.mode] 62)).heap.size (wr.alloc (.cells #[.bool y.no, .slice a2 m c2, .string (strB y.x), .int .i64 y.mode] 62)) w1 → ∃ a9 l9 c9 w9, (Builtin.append_ #[60, 60] 60 #[.slice va p vc, .slice (some ⟨w1.heap.size, 0, none⟩) 1 1]).run Tryz.prog (w1.alloc (.cells #[.string (strB y.x)] 9)) = .ok (.slice a9 l9 c9) w9 ∧ Hid (OwnP nameD w9 w.heap.size 9 (.slice a9 l9 c9) ((l.take (j + 1)).map (·.x))) ∧ Hid (Below w.heap.size w w9)) := fun w1 hb1 => by
          have hb2 : Below wr.heap.size wr w1 := HBA1.out.trans (hb1.mono HBA1.out.size)
          have hb5 := (Below.refl w1.heap.size w1).alloc (Nat.le_refl _) (.cells #[.string (strB y.x)] 9)
          have o5 := (HO.out.keep (TFr.of_below (K := fun _ => False) hb2) (fun _ h => h.elim)).keep (TFr.of_below (K := fun _ => False) hb5) (fun _ h => h.elim)
          have hsz := HB.out.size
          obtain ⟨v9, w9, hr, ho, hg⟩ := OwnP.append (ts := 60) (ty := 60) (x := y.x) (by kernel_rfl) strI rfl (by decide) (by decide) o5 (by have := hb2.size; have := hb5.size; omega) (by rw [List.length_map, List.length_take]; omega) (show nameD.P _ _ [.string (strB y.x)] y.x from rfl) (heap_alloc_new w1 _)
          obtain ⟨a9, c9, rfl⟩ := ho.slice
          refine ⟨a9, _, c9, w9, hr, ?_, ?_⟩
          · show OwnP _ _ _ _ _ _
            rw [List.take_add_one, HY.out]
            simpa using ho
          · have hall : Below w.heap.size w (w1.alloc (.cells #[.string (strB y.x)] 9)) := (HB.out.trans (hb2.mono hsz)).trans (hb5.mono (by have := hb2.size; omega))
            exact hall.grown hg hall.size (fun k hk => (o5.own k hk).1)
        go_wp2_with (first
          | (go_at_call 117; (with_reducible refine HRI.out.mono ?_); rintro e w1 ⟨rfl, hb1⟩; have e2 := tkeep hb1 (tnew wr #[.bool y.no, .slice a2 m c2, .string (strB y.x), .int .i64 y.mode] 62 2 rfl); obtain ⟨a9, l9, c9, w9, hr9, O9, B9⟩ := HAP.out w1 hb1; clear hb1)
          | (at_builtin; refine Lib.wpList_append_run _ rfl _ _ _ _ rfl _ _ rfl rfl _ _ hr9 ?_; clear hr9))
        go_round
        case rel => exact ⟨j + 1, by go_num, by omega, HA2, O9, B9⟩
        case measure => simp [RowKit.intOf]; omega
    · have hjq : j = l.length := by rw [HQ.out]; omega
      have hall : l.all rightI = true := List.all_eq_true.2 (fun i hi => HA.out i (by rw [hjq, List.take_length]; exact hi))
      have hmap : (l.take j).map (·.x) = l.map (·.x) := by rw [hjq, List.take_length]
      rw [hmap] at HO ⊢
      have hz2 : unlikeB (l.map (·.x)) = z := by rw [← HZ.out, hall]; rfl
      have hun := unlike_calls HO.out.row (by rw [List.length_map, HQ.out]; omega) (fun b hb => by
        obtain ⟨i, hi, rfl⟩ := List.mem_map.1 hb
        exact (HBD.out i hi).2.2)
      obtain ⟨p, hp⟩ : ∃ p, (l.map (·.x)).length = p := ⟨_, rfl⟩
      rw [hp, hz2] at hun
      rw [hp]
      have HU := Lib.hid hun
      clear hun hp hz2 hmap hall hjq HO HZ
      go_wp2_with (go_at_call 118; (with_reducible refine HU.out.mono ?_); rintro e w1 ⟨rfl, hb1⟩; have HB1 := Lib.hid (HB.out.trans (hb1.mono HB.out.size)); clear hb1)
      go_ret
      exact ⟨rfl, HB1.out⟩

theorem rightItems_calls (h : RowK itemD K w (.slice a l.length c) l) (hbd : ∀ i ∈ l, ItB i) :
    Calls Tryz.prog 52 #[.slice a l.length c] w fun e w' => e = .returned (.bool (rightIs l)) ∧ Below w.heap.size w w' := by
  cases h0 : l[0]? with
  | none =>
    have hn : l = [] := by
      cases l with
      | nil => rfl
      | cons a r => simp at h0
    have e := ritems_bad h (.inl hn)
    subst hn
    exact e
  | some i =>
    by_cases hb : 6 < l.length ∨ i.no = true ∨ i.mode = 3
    · rw [rightIs_bad h0 hb]
      exact ritems_bad h (.inr ⟨i, h0, hb⟩)
    · have h1 : ¬ 6 < l.length := fun e => hb (.inl e)
      have h2 : i.no = false := by
        cases hn : i.no with
        | false => rfl
        | true => exact absurd (.inr (.inl hn)) hb
      have h3 : i.mode ≠ 3 := fun e => hb (.inr (.inr e))
      rw [rightIs_good h0 h1 h2 h3]
      exact ritems_good h h0 h1 h2 h3 hbd
end

end Go.Proofs.YtifacoompbngaaaGreatDoor
namespace Go.Proofs.YtifacoompbngaaaGreatDoor
open Go.RowKit Go.Lib Go.Op

def inkB (c : UInt8) : Bool := decide (32 ≤ c.toNat ∧ c.toNat ≤ 126 ∧ c.toNat ≠ 39)
def writeB (v : PVal) : Bool := v.s.all inkB && rightB v

set_option maxHeartbeats 1000000 in
set_option maxRecDepth 100000 in
theorem writable_calls (k n : Int) (s : List UInt8) (w : World) (hs : s.length ≤ 1000000) : Calls Tryz.prog 193 #[.agg #[.int .i64 k, .int .i64 n, .string (strB s)]] w fun e w' => e = .returned (.bool (writeB ⟨k, n, s⟩)) ∧ Below w.heap.size w w' := by
  obtain ⟨z, hz⟩ : ∃ z, writeB ⟨k, n, s⟩ = z := ⟨_, rfl⟩
  rw [hz]
  have hb0 := (Below.refl w.heap.size w).alloc (Nat.le_refl _) (.cells #[.int .i64 k, .int .i64 n, .string (strB s)] 35)
  obtain ⟨W, c, hcv, hbW, hcell⟩ := conv_bytes (w.alloc (.cells #[.int .i64 k, .int .i64 n, .string (strB s)] 35)) (strB s)
  have m0 := tkeep hbW (tnew w #[.int .i64 k, .int .i64 n, .string (strB s)] 35 0 rfl)
  have m1 := tkeep hbW (tnew w #[.int .i64 k, .int .i64 n, .string (strB s)] 35 1 rfl)
  have m2 := tkeep hbW (tnew w #[.int .i64 k, .int .i64 n, .string (strB s)] 35 2 rfl)
  have HB := Lib.hid (hb0.trans (hbW.mono hb0.size))
  obtain ⟨q, hq⟩ : ∃ q, (strB s).size = q := ⟨_, rfl⟩
  have hql : q = s.length := by rw [← hq, strB_size]
  rw [strB_list] at hcell
  simp only [World.size_alloc] at hcell hcv
  have HC := Lib.hid hcell
  have HQ := Lib.hid hql
  have HZ := Lib.hid hz
  rw [hq] at hcv
  have hvr := vright_calls k n (strB s) W (by rw [strB_size]; unfold maxLen; omega)
  have hrv : rightV k n (strB s) = rightB ⟨k, n, s⟩ := by unfold rightV; rw [strB_list]
  rw [hrv] at hvr
  have HVR := Lib.hid hvr
  have hqb : q ≤ 1000000 := by omega
  clear hz hb0 hbW hcell hq hql hvr hrv
  go_enter Tryz.func193, Tryz.ntmps193
  go_wp2
  go_loop [9] (fun i => ∃ j : Nat, i = .int .i64 j ∧ j ≤ q ∧ Hid (∀ x ∈ s.take j, inkB x = true)) (fun i => q - (RowKit.intOf i).toNat)
  case atStart => exact ⟨0, rfl, Nat.zero_le _, fun x hx => by simp at hx⟩
  case round =>
    obtain ⟨j, rfl, hj, HK⟩ := hrel
    by_cases hlt : j < q
    · obtain ⟨x, hx⟩ : ∃ x, s[j]? = some x := ⟨_, List.getElem?_eq_getElem (by rw [← HQ.out]; exact hlt)⟩
      have hcx := HC.out j x hx
      have Hx := Lib.hid hx
      have hx8 := x.toNat_lt
      have hstep := fun hch : inkB x = true => (fun y hy => by
        rw [List.take_add_one, Hx.out] at hy
        rcases List.mem_append.1 hy with hy | hy
        · exact HK.out y hy
        · obtain rfl : y = x := by simpa using hy
          exact hch : ∀ y ∈ s.take (j + 1), inkB y = true)
      have hfail := fun hch : inkB x = false => (show z = false by
        rw [← HZ.out]
        unfold writeB
        rw [show s.all inkB = false from List.all_eq_false.2 ⟨x, List.mem_of_getElem? Hx.out, by simp [hch]⟩]
        rfl)
      unfold inkB at hstep hfail
      clear hx
      generalize x.toNat = n at *
      by_cases a1 : n < 32
      · have hz0 := hfail (by simp; omega)
        subst hz0
        have t1 : decide (n < 32) = true := decide_eq_true a1
        clear hstep hfail
        go_wp2
        go_ret
        exact ⟨rfl, HB.out⟩
      have t1 : decide ((n : Int) < 32) = false := decide_eq_false (by omega)
      by_cases a2 : 126 < n
      · have hz0 := hfail (by simp; omega)
        subst hz0
        have t2 : decide (126 < n) = true := decide_eq_true a2
        clear hstep hfail
        go_wp2
        go_ret
        exact ⟨rfl, HB.out⟩
      have t2 : decide (126 < (n : Int)) = false := decide_eq_false (by omega)
      by_cases a3 : n = 39
      · have hz0 := hfail (by simp [a3])
        subst hz0
        subst a3
        clear hstep hfail
        go_wp2
        go_ret
        exact ⟨rfl, HB.out⟩
      have t3 : ((n : Int) == 39) = false := by rw [beq_eq_false_iff_ne]; omega
      have HS := Lib.hid (hstep (by simp; omega))
      clear hstep hfail
      go_wp2
      go_round
      case rel => exact ⟨j + 1, by go_num, by omega, HS⟩
      case measure => simp [RowKit.intOf]; omega
    · have hall : s.all inkB = true := List.all_eq_true.2 (fun x hx => HK.out x (by rw [show j = s.length by rw [← HQ.out]; omega, List.take_length]; exact hx))
      have hz2 : rightB ⟨k, n, s⟩ = z := by rw [← HZ.out]; unfold writeB; rw [hall]; rfl
      rw [hz2] at HVR
      clear hall hz2 HZ
      go_wp2_with (go_at_call 231; (with_reducible refine HVR.out.mono ?_); rintro e w1 ⟨rfl, rfl⟩)
      go_ret
      exact ⟨rfl, HB.out.alloc HB.out.size _⟩

section
variable {w : World} {a : Option Addr} {c n : Nat} {vs x f : List UInt8} {vk vn : Int}

set_option maxHeartbeats 1000000 in
set_option maxRecDepth 100000 in
theorem bare_val : Calls Tryz.prog 192 #[.agg #[.int .i64 1, .int .i64 vk, .int .i64 vn, .string (strB vs), .string (strB x), .string (strB f), .slice a n c]] w fun e w' => e = .returned (.bool (decide (x = [] ∧ f = [] ∧ n = 0))) ∧ Below w.heap.size w w' := by
  go_enter Tryz.func192, Tryz.ntmps192
  go_wp2
  all_goals
    go_ret
    exact ⟨tbool (by simp_all [tB_list] <;> omega), ((Below.refl w.heap.size w).alloc (Nat.le_refl _) _).alloc (by simp) _⟩
set_option maxHeartbeats 1000000 in
set_option maxRecDepth 100000 in
theorem bare_count : Calls Tryz.prog 192 #[.agg #[.int .i64 3, .int .i64 vk, .int .i64 vn, .string (strB vs), .string (strB x), .string (strB f), .slice a n c]] w fun e w' => e = .returned (.bool (decide ((⟨vk, vn, vs⟩ : PVal) = noV ∧ f = [] ∧ n = 0))) ∧ Below w.heap.size w w' := by
  go_enter Tryz.func192, Tryz.ntmps192
  go_wp2
  all_goals
    go_ret
    exact ⟨tbool (by simp_all [tB_list, noV] <;> omega), ((Below.refl w.heap.size w).alloc (Nat.le_refl _) _).alloc (by simp) _⟩
set_option maxHeartbeats 1000000 in
set_option maxRecDepth 100000 in
theorem bare_field : Calls Tryz.prog 192 #[.agg #[.int .i64 2, .int .i64 vk, .int .i64 vn, .string (strB vs), .string (strB x), .string (strB f), .slice a n c]] w fun e w' => e = .returned (.bool (decide ((⟨vk, vn, vs⟩ : PVal) = noV ∧ n = 0))) ∧ Below w.heap.size w w' := by
  go_enter Tryz.func192, Tryz.ntmps192
  go_wp2
  all_goals
    go_ret
    exact ⟨tbool (by simp_all [tB_list, noV] <;> omega), ((Below.refl w.heap.size w).alloc (Nat.le_refl _) _).alloc (by simp) _⟩
set_option maxHeartbeats 1000000 in
set_option maxRecDepth 100000 in
theorem bare_sum : Calls Tryz.prog 192 #[.agg #[.int .i64 4, .int .i64 vk, .int .i64 vn, .string (strB vs), .string (strB x), .string (strB f), .slice a n c]] w fun e w' => e = .returned (.bool (decide ((⟨vk, vn, vs⟩ : PVal) = noV ∧ n = 0))) ∧ Below w.heap.size w w' := by
  go_enter Tryz.func192, Tryz.ntmps192
  go_wp2
  all_goals
    go_ret
    exact ⟨tbool (by simp_all [tB_list, noV] <;> omega), ((Below.refl w.heap.size w).alloc (Nat.le_refl _) _).alloc (by simp) _⟩
set_option maxHeartbeats 1000000 in
set_option maxRecDepth 100000 in
theorem bare_min : Calls Tryz.prog 192 #[.agg #[.int .i64 5, .int .i64 vk, .int .i64 vn, .string (strB vs), .string (strB x), .string (strB f), .slice a n c]] w fun e w' => e = .returned (.bool (decide ((⟨vk, vn, vs⟩ : PVal) = noV ∧ n = 0))) ∧ Below w.heap.size w w' := by
  go_enter Tryz.func192, Tryz.ntmps192
  go_wp2
  all_goals
    go_ret
    exact ⟨tbool (by simp_all [tB_list, noV] <;> omega), ((Below.refl w.heap.size w).alloc (Nat.le_refl _) _).alloc (by simp) _⟩
set_option maxHeartbeats 1000000 in
set_option maxRecDepth 100000 in
theorem bare_max : Calls Tryz.prog 192 #[.agg #[.int .i64 6, .int .i64 vk, .int .i64 vn, .string (strB vs), .string (strB x), .string (strB f), .slice a n c]] w fun e w' => e = .returned (.bool (decide ((⟨vk, vn, vs⟩ : PVal) = noV ∧ n = 0))) ∧ Below w.heap.size w w' := by
  go_enter Tryz.func192, Tryz.ntmps192
  go_wp2
  all_goals
    go_ret
    exact ⟨tbool (by simp_all [tB_list, noV] <;> omega), ((Below.refl w.heap.size w).alloc (Nat.le_refl _) _).alloc (by simp) _⟩
set_option maxHeartbeats 1000000 in
set_option maxRecDepth 100000 in
theorem bare_add : Calls Tryz.prog 192 #[.agg #[.int .i64 7, .int .i64 vk, .int .i64 vn, .string (strB vs), .string (strB x), .string (strB f), .slice a n c]] w fun e w' => e = .returned (.bool (decide ((⟨vk, vn, vs⟩ : PVal) = noV ∧ x = [] ∧ f = [] ∧ n = 2))) ∧ Below w.heap.size w w' := by
  go_enter Tryz.func192, Tryz.ntmps192
  go_wp2
  all_goals
    go_ret
    exact ⟨tbool (by simp_all [tB_list, noV] <;> omega), ((Below.refl w.heap.size w).alloc (Nat.le_refl _) _).alloc (by simp) _⟩
set_option maxHeartbeats 1000000 in
set_option maxRecDepth 100000 in
theorem bare_sub : Calls Tryz.prog 192 #[.agg #[.int .i64 8, .int .i64 vk, .int .i64 vn, .string (strB vs), .string (strB x), .string (strB f), .slice a n c]] w fun e w' => e = .returned (.bool (decide ((⟨vk, vn, vs⟩ : PVal) = noV ∧ x = [] ∧ f = [] ∧ n = 2))) ∧ Below w.heap.size w w' := by
  go_enter Tryz.func192, Tryz.ntmps192
  go_wp2
  all_goals
    go_ret
    exact ⟨tbool (by simp_all [tB_list, noV] <;> omega), ((Below.refl w.heap.size w).alloc (Nat.le_refl _) _).alloc (by simp) _⟩
set_option maxHeartbeats 1000000 in
set_option maxRecDepth 100000 in
theorem bare_none {k : Int} (h1 : k ≠ 1) (h2 : k ≠ 2) (h3 : k ≠ 3) (h4 : k ≠ 4) (h5 : k ≠ 5) (h6 : k ≠ 6) (h7 : k ≠ 7) (h8 : k ≠ 8) : Calls Tryz.prog 192 #[.agg #[.int .i64 k, .int .i64 vk, .int .i64 vn, .string (strB vs), .string (strB x), .string (strB f), .slice a n c]] w fun e w' => e = .returned (.bool (false)) ∧ Below w.heap.size w w' := by
  have t1 : (k == 1) = false := by rw [beq_eq_false_iff_ne]; exact h1
  have t2 : (k == 2) = false := by rw [beq_eq_false_iff_ne]; exact h2
  have t3 : (k == 3) = false := by rw [beq_eq_false_iff_ne]; exact h3
  have t4 : (k == 4) = false := by rw [beq_eq_false_iff_ne]; exact h4
  have t5 : (k == 5) = false := by rw [beq_eq_false_iff_ne]; exact h5
  have t6 : (k == 6) = false := by rw [beq_eq_false_iff_ne]; exact h6
  have t7 : (k == 7) = false := by rw [beq_eq_false_iff_ne]; exact h7
  have t8 : (k == 8) = false := by rw [beq_eq_false_iff_ne]; exact h8
  clear h1 h2 h3 h4 h5 h6 h7 h8
  go_enter Tryz.func192, Tryz.ntmps192
  go_wp2
  all_goals
    go_ret
    exact ⟨tbool (by rfl), ((Below.refl w.heap.size w).alloc (Nat.le_refl _) _).alloc (by simp) _⟩
end

end Go.Proofs.YtifacoompbngaaaGreatDoor

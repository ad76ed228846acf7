/- Queries: texts that are joined. | Queries: Print. -/
import Derived.Test.YtifacoompbngaaaGreatDoorMC
namespace Go.Proofs.YtifacoompbngaaaGreatDoor
open Go.RowKit Go.Lib Go.Op

theorem inter_len (sep : List UInt8) (m : Nat) : ∀ (l : List (List UInt8)), (∀ b ∈ l, b.length ≤ m) → (sep.intercalate l).length ≤ l.length * (m + sep.length)
  | [], _ => by simp [List.intercalate]
  | [b], h => by
    have := h b (by simp)
    simp [List.intercalate]
    omega
  | b :: b' :: r, h => by
    have ih := inter_len sep m (b' :: r) (fun x hx => h x (List.mem_cons_of_mem _ hx))
    have h1 := h b List.mem_cons_self
    have e : (sep.intercalate (b :: b' :: r)) = b ++ (sep ++ sep.intercalate (b' :: r)) := by simp [List.intercalate]
    rw [e, List.length_append, List.length_append, List.length_cons (a := b), Nat.succ_mul]
    omega
theorem unlikeB_names {l : List (List UInt8)} (h : unlikeB l = true) : ∀ b ∈ l, b.length ≤ 16 := fun b hb => by
  unfold unlikeB at h
  rw [Bool.and_eq_true, List.all_eq_true] at h
  exact nameB_len (h.1 b hb)
theorem rightI_parts {i : PIt} (h : rightI i = true) : (1 ≤ i.mode ∧ i.mode ≤ 3) ∧ 0 < i.ns.length ∧ i.ns.length ≤ 3 ∧ ∀ b ∈ i.ns, b.length ≤ 16 := by
  unfold rightI at h
  split at h
  · cases h
  · rename_i hn
    rw [Bool.and_eq_true, decide_eq_true_eq] at h
    refine ⟨⟨?_, ?_⟩, h.1.1, h.1.2, unlikeB_names h.2⟩
    · exact Int.not_lt.1 (fun e => hn (.inl e))
    · exact Int.not_lt.1 (fun e => hn (.inr (.inl e)))
theorem orjoin_len {i : PIt} (h : rightI i = true) : ([32, 111, 114, 32].intercalate i.ns).length ≤ 1000 := by
  obtain ⟨_, _, h3, h4⟩ := rightI_parts h
  have h1 := inter_len [32, 111, 114, 32] 16 i.ns h4
  have : i.ns.length * (16 + [32, 111, 114, 32].length) ≤ 3 * 20 := Nat.mul_le_mul h3 (by decide)
  omega
theorem itemTx_len {i : PIt} (h : rightI i = true) (hx : i.x.length ≤ 100) : (itemTx i).length ≤ 1200 := by
  unfold itemTx
  have h1 := orjoin_len h
  have h2 := atL_short (l := modesL) (by decide) i.mode
  have h3 : (if i.no then ([110, 111, 116, 32] : List UInt8) else []).length ≤ 4 := by split <;> decide
  simp only [List.length_append, List.length_cons]
  omega
theorem predTx_len {p : PPr} (h : rightP p = true) : (predTx p).length ≤ 200000 := by
  unfold rightP at h
  rw [Bool.and_eq_true, Bool.and_eq_true] at h
  have h1 := exprTx_len 6 p.l h.2.1
  have h2 := exprTx_len 6 p.r h.2.2
  have h3 := atL_short (l := cmpsL) (by decide) p.cmp
  have e : (3 : Nat) ^ 6 = 729 := rfl
  unfold predTx
  simp only [List.length_append, List.length_cons]
  omega

theorem itemText_calls {K : Nat → Prop} {w : World} {a : Option Addr} {c : Nat} (i : PIt) (h : RowK nameD K w (.slice a i.ns.length c) i.ns) (hr : rightI i = true) (hx : i.x.length ≤ 100) : Calls Tryz.prog 59 #[.agg #[.bool i.no, .slice a i.ns.length c, .string (strB i.x), .int .i64 i.mode]] w fun e w' => e = .returned (.string (strB (itemTx i))) ∧ Below w.heap.size w w' := by
  obtain ⟨hm, h0, h3, h4⟩ := rightI_parts hr
  have hj := orjoin_len hr
  have hjoin := fun W (hW : Below w.heap.size w W) => joinRow_calls (h.low hW) (fun e => by rw [e] at h0; simp at h0) [32, 111, 114, 32] (by omega) (by omega)
  obtain ⟨no, ns, x, mode⟩ := i
  cases no with
  | false => exact it_false hm hx hj hjoin
  | true => exact it_true hm hx hj hjoin
theorem predText_calls {K : Nat → Prop} {w : World} {a b : Option Addr} {c d e1 e2 : Nat} (p : PPr) (h1 : ExK K w e1 (.slice a p.l.ks.length c) p.l.ks) (h2 : ExK K w e2 (.slice b p.r.ks.length d) p.r.ks) (hr : rightP p = true) (hv : PVars w) : Calls Tryz.prog 61 #[.agg #[.int .i64 p.cmp, .int .i64 p.l.k, .int .i64 p.l.v.k, .int .i64 p.l.v.n, .string (strB p.l.v.s), .string (strB p.l.x), .string (strB p.l.f), .slice a p.l.ks.length c, .int .i64 p.r.k, .int .i64 p.r.v.k, .int .i64 p.r.v.n, .string (strB p.r.v.s), .string (strB p.r.x), .string (strB p.r.f), .slice b p.r.ks.length d]] w fun e w' => e = .returned (.string (strB (predTx p))) ∧ Below w.heap.size w w' := by
  unfold rightP at hr
  rw [Bool.and_eq_true, Bool.and_eq_true, decide_eq_true_eq] at hr
  have l1 := exprTx_len 6 p.l hr.2.1
  have l2 := exprTx_len 6 p.r hr.2.2
  have e : (3 : Nat) ^ 6 = 729 := rfl
  exact pt_text (t0 := exprTx 6 p.l) (t1 := exprTx 6 p.r) hr.1 (by omega) (by omega)
    (fun W hW => exprText_calls 6 (by decide) p.l hr.2.1 W (hv.below hW) e1 a c (h1.keep (TFr.of_below hW)))
    (fun W hW => exprText_calls 6 (by decide) p.r hr.2.2 W (hv.below hW) e2 b d (h2.keep (TFr.of_below hW)))

set_option maxHeartbeats 2000000 in
set_option maxRecDepth 100000 in
theorem joinedI_calls {K : Nat → Prop} {w : World} {a : Option Addr} {c : Nat} {l : List PIt} (h : RowK itemD K w (.slice a l.length c) l) (hne : l ≠ []) (hl : l.length ≤ 6) (hg : ∀ y ∈ l, rightI y = true ∧ y.x.length ≤ 100) (hv : PVars w) (sep : List UInt8) (hs : sep.length ≤ 100) :
    Calls Tryz.prog 58 #[.slice a l.length c, .string (strB sep), .func (.func 59) #[] #[]] w fun e w' => e = .returned (.string (strB (sep.intercalate (l.map itemTx)))) ∧ Below w.heap.size w w' := by
  have H := Lib.hid h
  have HV := Lib.hid hv
  obtain ⟨q, hq⟩ : ∃ q, l.length = q := ⟨_, rfl⟩
  have HQ := Lib.hid hq
  have HG := Lib.hid hg
  have HNE := Lib.hid hne
  obtain ⟨rs, hrs⟩ : ∃ rs, strB (sep.intercalate (l.map itemTx)) = rs := ⟨_, rfl⟩
  have HRS := Lib.hid hrs
  rw [hrs]
  rw [hq] at hl ⊢
  clear h hq hg hv hrs hne
  go_enter Tryz.func58, Tryz.ntmps58
  go_wp2
  go_loopw [7, 12] (fun v k wr => ∃ j : Nat, k = .int .i64 j ∧ j ≤ q ∧ Hid (OwnP nameD wr w.heap.size 9 v ((l.take j).map itemTx)) ∧ Hid (Below w.heap.size w wr)) (fun _ k _ => q - (RowKit.intOf k).toNat)
  case atStart => exact ⟨0, rfl, Nat.zero_le _, ⟨[], rfl, World.ownsRow_nil _ _ _ _, fun c hc => (by cases hc), fun j x hj => (by simp at hj)⟩, Below.refl _ _⟩
  case round =>
    obtain ⟨j, rfl, hj, HO, HB⟩ := hrel
    obtain ⟨va, vc, rfl⟩ := HO.out.slice
    by_cases hlt : j < q
    · obtain ⟨y, hy⟩ : ∃ y, l[j]? = some y := ⟨_, List.getElem?_eq_getElem (by rw [HQ.out]; exact hlt)⟩
      have hyg := HG.out y (List.mem_of_getElem? hy)
      obtain ⟨g, o, a2, c2, rfl, d0, d1, d2, d3, hr⟩ := (H.out.low HB.out).itemAt hy
      obtain ⟨m, hm⟩ : ∃ m, y.ns.length = m := ⟨_, rfl⟩
      have hba := (Below.refl wr.heap.size wr).alloc (Nat.le_refl _) (.cells #[.bool y.no, .slice a2 m c2, .string (strB y.x), .int .i64 y.mode] 62)
      have htx := itemText_calls y (hr.low ((Below.refl wr.heap.size wr).alloc (Nat.le_refl _) (.cells #[.bool y.no, .slice a2 m c2, .string (strB y.x), .int .i64 y.mode] 62))) hyg.1 hyg.2
      rw [hm] at htx d1
      have HTX := Lib.hid htx
      have HBA := Lib.hid (HB.out.alloc HB.out.size (.cells #[.bool y.no, .slice a2 m c2, .string (strB y.x), .int .i64 y.mode] 62))
      have HBA1 := Lib.hid hba
      have HY := Lib.hid hy
      obtain ⟨p, hp⟩ : ∃ p, ((l.take j).map itemTx).length = p := ⟨_, rfl⟩
      rw [hp] at HO ⊢
      obtain ⟨ty, hty⟩ : ∃ ty, strB (itemTx y) = ty := ⟨_, rfl⟩
      have HTY := Lib.hid hty
      rw [hty] at HTX
      have HAP : Hid (∀ w1, Below (wr.alloc (.cells #[.bool y.no, .slice a2 m c2, .string (strB y.x), .int .i64 y.mode] 62)).heap.size (wr.alloc (.cells #[.bool y.no, .slice a2 m c2, .string (strB y.x), .int .i64 y.mode] 62)) w1 → ∃ a9 l9 c9 w9, (Builtin.append_ #[60, 60] 60 #[.slice va p vc, .slice (some ⟨w1.heap.size, 0, none⟩) 1 1]).run Tryz.prog (w1.alloc (.cells #[.string ty] 9)) = .ok (.slice a9 l9 c9) w9 ∧ Hid (OwnP nameD w9 w.heap.size 9 (.slice a9 l9 c9) ((l.take (j + 1)).map itemTx)) ∧ Hid (Below w.heap.size w w9)) := fun w1 hb1 => by
        have hb2 : Below wr.heap.size wr w1 := HBA1.out.trans (hb1.mono HBA1.out.size)
        have hb5 := (Below.refl w1.heap.size w1).alloc (Nat.le_refl _) (.cells #[.string ty] 9)
        have o5 := (HO.out.keep (TFr.of_below (K := fun _ => False) hb2) (fun _ h => h.elim)).keep (TFr.of_below (K := fun _ => False) hb5) (fun _ h => h.elim)
        have hsz := HB.out.size
        obtain ⟨v9, w9, hr, ho, hg⟩ := OwnP.append (ts := 60) (ty := 60) (x := itemTx y) (by kernel_rfl) strI rfl (by decide) (by decide) o5 (by have := hb2.size; have := hb5.size; omega) (by rw [List.length_map, List.length_take]; omega) (show nameD.P _ _ [.string ty] (itemTx y) from by rw [← HTY.out]; rfl) (heap_alloc_new w1 _)
        obtain ⟨a9, c9, rfl⟩ := ho.slice
        refine ⟨a9, _, c9, w9, hr, ?_, ?_⟩
        · show OwnP _ _ _ _ _ _
          rw [List.take_add_one, HY.out]
          simpa using ho
        · have hall : Below w.heap.size w (w1.alloc (.cells #[.string ty] 9)) := (HB.out.trans (hb2.mono hsz)).trans (hb5.mono (by have := hb2.size; omega))
          exact hall.grown hg hall.size (fun k hk => (o5.own k hk).1)
      clear hba hy hp hty htx hr hm hyg
      go_wp2_with (first
        | (go_at_call 59; (with_reducible refine HTX.out.mono ?_); rintro e w1 ⟨rfl, hb1⟩; obtain ⟨a9, l9, c9, w9, hr9, O9, B9⟩ := HAP.out w1 hb1; clear hb1)
        | (at_builtin; refine Lib.wpList_append_run _ rfl _ _ _ _ rfl _ _ rfl rfl _ _ hr9 ?_; clear hr9))
      go_round
      case rel => exact ⟨j + 1, by go_num, by omega, O9, B9⟩
      case measure => simp [RowKit.intOf]; omega
    · have hjq : j = l.length := by rw [HQ.out]; omega
      have hmap : (l.take j).map itemTx = l.map itemTx := by rw [hjq, List.take_length]
      rw [hmap] at HO ⊢
      have hjn := joinRow_calls HO.out.row (by simpa using HNE.out) sep (by
        have h1 := inter_len sep 1200 (l.map itemTx) (fun b hb => by
          obtain ⟨y, hy, rfl⟩ := List.mem_map.1 hb
          have hyg := HG.out y hy
          exact itemTx_len hyg.1 hyg.2)
        rw [List.length_map] at h1
        have : l.length * (1200 + sep.length) ≤ 6 * (1200 + 100) := Nat.mul_le_mul (by rw [HQ.out]; exact hl) (by omega)
        omega) (by rw [List.length_map, HQ.out]; omega)
      rw [HRS.out] at hjn
      obtain ⟨p, hp⟩ : ∃ p, (l.map itemTx).length = p := ⟨_, rfl⟩
      rw [hp] at hjn ⊢
      have HJ := Lib.hid hjn
      clear hjn hp hmap hjq HO
      go_wp2_with (go_at_call 125; (with_reducible refine HJ.out.mono ?_); rintro e w1 ⟨rfl, hb1⟩; have HB1 := Lib.hid (HB.out.trans (hb1.mono HB.out.size)); clear hb1)
      go_ret
      exact ⟨rfl, HB1.out⟩

set_option maxHeartbeats 2000000 in
set_option maxRecDepth 100000 in
theorem joinedP_calls {K : Nat → Prop} {w : World} {a : Option Addr} {c : Nat} {l : List PPr} (h : RowK predD K w (.slice a l.length c) l) (hne : l ≠ []) (hl : l.length ≤ 8) (hg : ∀ y ∈ l, rightP y = true) (hv : PVars w) (sep : List UInt8) (hs : sep.length ≤ 100) :
    Calls Tryz.prog 60 #[.slice a l.length c, .string (strB sep), .func (.func 61) #[] #[]] w fun e w' => e = .returned (.string (strB (sep.intercalate (l.map predTx)))) ∧ Below w.heap.size w w' := by
  have H := Lib.hid h
  have HV := Lib.hid hv
  obtain ⟨q, hq⟩ : ∃ q, l.length = q := ⟨_, rfl⟩
  have HQ := Lib.hid hq
  have HG := Lib.hid hg
  have HNE := Lib.hid hne
  obtain ⟨rs, hrs⟩ : ∃ rs, strB (sep.intercalate (l.map predTx)) = rs := ⟨_, rfl⟩
  have HRS := Lib.hid hrs
  rw [hrs]
  rw [hq] at hl ⊢
  clear h hq hg hv hrs hne
  go_enter Tryz.func60, Tryz.ntmps60
  go_wp2
  go_loopw [7, 12] (fun v k wr => ∃ j : Nat, k = .int .i64 j ∧ j ≤ q ∧ Hid (OwnP nameD wr w.heap.size 9 v ((l.take j).map predTx)) ∧ Hid (Below w.heap.size w wr)) (fun _ k _ => q - (RowKit.intOf k).toNat)
  case atStart => exact ⟨0, rfl, Nat.zero_le _, ⟨[], rfl, World.ownsRow_nil _ _ _ _, fun c hc => (by cases hc), fun j x hj => (by simp at hj)⟩, Below.refl _ _⟩
  case round =>
    obtain ⟨j, rfl, hj, HO, HB⟩ := hrel
    obtain ⟨va, vc, rfl⟩ := HO.out.slice
    by_cases hlt : j < q
    · obtain ⟨y, hy⟩ : ∃ y, l[j]? = some y := ⟨_, List.getElem?_eq_getElem (by rw [HQ.out]; exact hlt)⟩
      have hyg := HG.out y (List.mem_of_getElem? hy)
      obtain ⟨g, o, a1, q1, c1, b1, r1, d1, ed, rfl, hcell, hq1, hr1, h1, h2⟩ := (H.out.low HB.out).predAt hy
      have m0 := hcell 0 _ rfl
      have m1 := hcell 1 _ rfl
      have m2 := hcell 2 _ rfl
      have m3 := hcell 3 _ rfl
      have m4 := hcell 4 _ rfl
      have m5 := hcell 5 _ rfl
      have m6 := hcell 6 _ rfl
      have m7 := hcell 7 _ rfl
      have m8 := hcell 8 _ rfl
      have m9 := hcell 9 _ rfl
      have m10 := hcell 10 _ rfl
      have m11 := hcell 11 _ rfl
      have m12 := hcell 12 _ rfl
      have m13 := hcell 13 _ rfl
      have m14 := hcell 14 _ rfl
      simp only [Nat.add_zero] at m0
      have hba := (Below.refl wr.heap.size wr).alloc (Nat.le_refl _) (.cells #[.int .i64 y.cmp, .int .i64 y.l.k, .int .i64 y.l.v.k, .int .i64 y.l.v.n, .string (strB y.l.v.s), .string (strB y.l.x), .string (strB y.l.f), .slice a1 q1 c1, .int .i64 y.r.k, .int .i64 y.r.v.k, .int .i64 y.r.v.n, .string (strB y.r.v.s), .string (strB y.r.x), .string (strB y.r.f), .slice b1 r1 d1] 40)
      have htx := predText_calls y (h1.keep (TFr.of_below hba)) (h2.keep (TFr.of_below hba)) hyg ((HV.out.below HB.out).below hba)
      rw [← hq1, ← hr1] at htx
      have HTX := Lib.hid htx
      have HBA := Lib.hid (HB.out.alloc HB.out.size (.cells #[.int .i64 y.cmp, .int .i64 y.l.k, .int .i64 y.l.v.k, .int .i64 y.l.v.n, .string (strB y.l.v.s), .string (strB y.l.x), .string (strB y.l.f), .slice a1 q1 c1, .int .i64 y.r.k, .int .i64 y.r.v.k, .int .i64 y.r.v.n, .string (strB y.r.v.s), .string (strB y.r.x), .string (strB y.r.f), .slice b1 r1 d1] 40))
      have HBA1 := Lib.hid hba
      have HY := Lib.hid hy
      obtain ⟨p, hp⟩ : ∃ p, ((l.take j).map predTx).length = p := ⟨_, rfl⟩
      rw [hp] at HO ⊢
      obtain ⟨ty, hty⟩ : ∃ ty, strB (predTx y) = ty := ⟨_, rfl⟩
      have HTY := Lib.hid hty
      rw [hty] at HTX
      have HAP : Hid (∀ w1, Below (wr.alloc (.cells #[.int .i64 y.cmp, .int .i64 y.l.k, .int .i64 y.l.v.k, .int .i64 y.l.v.n, .string (strB y.l.v.s), .string (strB y.l.x), .string (strB y.l.f), .slice a1 q1 c1, .int .i64 y.r.k, .int .i64 y.r.v.k, .int .i64 y.r.v.n, .string (strB y.r.v.s), .string (strB y.r.x), .string (strB y.r.f), .slice b1 r1 d1] 40)).heap.size (wr.alloc (.cells #[.int .i64 y.cmp, .int .i64 y.l.k, .int .i64 y.l.v.k, .int .i64 y.l.v.n, .string (strB y.l.v.s), .string (strB y.l.x), .string (strB y.l.f), .slice a1 q1 c1, .int .i64 y.r.k, .int .i64 y.r.v.k, .int .i64 y.r.v.n, .string (strB y.r.v.s), .string (strB y.r.x), .string (strB y.r.f), .slice b1 r1 d1] 40)) w1 → ∃ a9 l9 c9 w9, (Builtin.append_ #[60, 60] 60 #[.slice va p vc, .slice (some ⟨w1.heap.size, 0, none⟩) 1 1]).run Tryz.prog (w1.alloc (.cells #[.string ty] 9)) = .ok (.slice a9 l9 c9) w9 ∧ Hid (OwnP nameD w9 w.heap.size 9 (.slice a9 l9 c9) ((l.take (j + 1)).map predTx)) ∧ Hid (Below w.heap.size w w9)) := fun w1 hb1 => by
        have hb2 : Below wr.heap.size wr w1 := HBA1.out.trans (hb1.mono HBA1.out.size)
        have hb5 := (Below.refl w1.heap.size w1).alloc (Nat.le_refl _) (.cells #[.string ty] 9)
        have o5 := (HO.out.keep (TFr.of_below (K := fun _ => False) hb2) (fun _ h => h.elim)).keep (TFr.of_below (K := fun _ => False) hb5) (fun _ h => h.elim)
        have hsz := HB.out.size
        obtain ⟨v9, w9, hr, ho, hg⟩ := OwnP.append (ts := 60) (ty := 60) (x := predTx y) (by kernel_rfl) strI rfl (by decide) (by decide) o5 (by have := hb2.size; have := hb5.size; omega) (by rw [List.length_map, List.length_take]; omega) (show nameD.P _ _ [.string ty] (predTx y) from by rw [← HTY.out]; rfl) (heap_alloc_new w1 _)
        obtain ⟨a9, c9, rfl⟩ := ho.slice
        refine ⟨a9, _, c9, w9, hr, ?_, ?_⟩
        · show OwnP _ _ _ _ _ _
          rw [List.take_add_one, HY.out]
          simpa using ho
        · have hall : Below w.heap.size w (w1.alloc (.cells #[.string ty] 9)) := (HB.out.trans (hb2.mono hsz)).trans (hb5.mono (by have := hb2.size; omega))
          exact hall.grown hg hall.size (fun k hk => (o5.own k hk).1)
      clear hba hy hp hty htx hcell h1 h2 hq1 hr1 hyg
      go_wp2_with (first
        | (go_at_call 61; (with_reducible refine HTX.out.mono ?_); rintro e w1 ⟨rfl, hb1⟩; obtain ⟨a9, l9, c9, w9, hr9, O9, B9⟩ := HAP.out w1 hb1; clear hb1)
        | (at_builtin; refine Lib.wpList_append_run _ rfl _ _ _ _ rfl _ _ rfl rfl _ _ hr9 ?_; clear hr9))
      go_round
      case rel => exact ⟨j + 1, by go_num, by omega, O9, B9⟩
      case measure => simp [RowKit.intOf]; omega
    · have hjq : j = l.length := by rw [HQ.out]; omega
      have hmap : (l.take j).map predTx = l.map predTx := by rw [hjq, List.take_length]
      rw [hmap] at HO ⊢
      have hjn := joinRow_calls HO.out.row (by simpa using HNE.out) sep (by
        have h1 := inter_len sep 200000 (l.map predTx) (fun b hb => by
          obtain ⟨y, hy, rfl⟩ := List.mem_map.1 hb
          have hyg := HG.out y hy
          exact predTx_len hyg)
        rw [List.length_map] at h1
        have : l.length * (200000 + sep.length) ≤ 8 * (200000 + 100) := Nat.mul_le_mul (by rw [HQ.out]; exact hl) (by omega)
        omega) (by rw [List.length_map, HQ.out]; omega)
      rw [HRS.out] at hjn
      obtain ⟨p, hp⟩ : ∃ p, (l.map predTx).length = p := ⟨_, rfl⟩
      rw [hp] at hjn ⊢
      have HJ := Lib.hid hjn
      clear hjn hp hmap hjq HO
      go_wp2_with (go_at_call 125; (with_reducible refine HJ.out.mono ?_); rintro e w1 ⟨rfl, hb1⟩; have HB1 := Lib.hid (HB.out.trans (hb1.mono HB.out.size)); clear hb1)
      go_ret
      exact ⟨rfl, HB1.out⟩

end Go.Proofs.YtifacoompbngaaaGreatDoor
namespace Go.Proofs.YtifacoompbngaaaGreatDoor
open Go.RowKit Go.Lib Go.Op

section
variable {w : World} {a b : Option Addr} {q c r d : Nat} {wi pk : Int} {bb : List UInt8} {ti tp tf pt : ByteArray}

set_option maxHeartbeats 2000000 in
set_option maxRecDepth 100000 in
theorem pr_no (hR : ∀ W, Below w.heap.size w W → Calls Tryz.prog 22 #[.agg #[.slice a q c, .slice b r d, .int .i64 wi, .string (strB bb), .int .i64 pk]] W fun e w' => e = .returned (.bool false) ∧ Below W.heap.size W w') : Calls Tryz.prog 24 #[.agg #[.slice a q c, .slice b r d, .int .i64 wi, .string (strB bb), .int .i64 pk]] w fun e w' => e = .returned (.string (strB [])) ∧ Below w.heap.size w w' := by
  have hb0 := (Below.refl w.heap.size w).alloc (Nat.le_refl _) (.cells #[.slice a q c, .slice b r d, .int .i64 wi, .string (strB bb), .int .i64 pk] 26)
  have HB0 := Lib.hid hb0
  have HR := Lib.hid (hR _ hb0)
  clear hR hb0
  go_enter Tryz.func24, Tryz.ntmps24
  go_wp2_with (go_at_call 22; (with_reducible refine HR.out.mono ?_); rintro e w1 ⟨rfl, hb1⟩; have HB1 := Lib.hid (HB0.out.trans (hb1.mono HB0.out.size)); clear hb1)
  go_ret
  exact ⟨rfl, HB1.out⟩
set_option maxHeartbeats 2000000 in
set_option maxRecDepth 100000 in
theorem pr_nn (hR : ∀ W, Below w.heap.size w W → Calls Tryz.prog 22 #[.agg #[.slice a q c, .slice b r d, .int .i64 wi, .string (strB bb), .int .i64 pk]] W fun e w' => e = .returned (.bool true) ∧ Below W.heap.size W w') (hI : ∀ W, Below w.heap.size w W → Calls Tryz.prog 58 #[.slice a q c, .string ⟨#[32, 116, 104, 101, 110, 32]⟩, .func (.func 59) #[] #[]] W fun e w' => e = .returned (.string ti) ∧ Below W.heap.size W w') (hF : ∀ W, Below w.heap.size w W → Calls Tryz.prog 62 #[.int .i64 wi, .int .i64 10] W fun e w' => e = .returned (.string tf) ∧ Below W.heap.size W w') (hr : ¬ 0 < r) (hbb : bb = [])
    (si : ti.size ≤ 10000) (sf : tf.size ≤ 100) (_ : (strB bb).size ≤ 100) (st : pt.size ≤ 10)
    (hix : ∀ W, (Instr.index 117 (textsV picksL) (.int .i64 pk)).run Tryz.prog W = .ok (.string pt) W) :
    Calls Tryz.prog 24 #[.agg #[.slice a q c, .slice b r d, .int .i64 wi, .string (strB bb), .int .i64 pk]] w fun e w' => e = .returned (.string ((((⟨#[115, 101, 113, 32]⟩ ++ ti) ++ (⟨#[32, 119, 105, 116, 104, 105, 110, 32]⟩ ++ tf)) ++ ⟨#[32, 112, 105, 99, 107, 32]⟩) ++ pt)) ∧ Below w.heap.size w w' := by
  have hb0 := (Below.refl w.heap.size w).alloc (Nat.le_refl _) (.cells #[.slice a q c, .slice b r d, .int .i64 wi, .string (strB bb), .int .i64 pk] 26)
  have HB0 := Lib.hid hb0
  have HR := Lib.hid (hR _ hb0)
  have HI := Lib.hid hI
  have HF := Lib.hid hF
  have HC := Lib.hid (fun W => picks_calls W)
  have t0 : decide (0 < r) = false := decide_eq_false hr
  have t1 : ((strB bb).toList == []) = true := by rw [tB_list, hbb]; rfl
  have z0 : (⟨#[115, 101, 113, 32]⟩ : ByteArray).size = 4 := rfl
  have z1 : (⟨#[32, 119, 104, 101, 114, 101, 32]⟩ : ByteArray).size = 7 := rfl
  have z2 : (⟨#[32, 119, 105, 116, 104, 105, 110, 32]⟩ : ByteArray).size = 8 := rfl
  have z3 : (⟨#[32, 98, 121, 32]⟩ : ByteArray).size = 4 := rfl
  have z4 : (⟨#[32, 112, 105, 99, 107, 32]⟩ : ByteArray).size = 6 := rfl
  clear hR hI hF hb0 hr hbb
  go_enter Tryz.func24, Tryz.ntmps24
  go_wp2_with (first
    | (go_at_call 22; (with_reducible refine HR.out.mono ?_); rintro e w1 ⟨rfl, hb1⟩; have m0 := tkeep hb1 (tnew w #[.slice a q c, .slice b r d, .int .i64 wi, .string (strB bb), .int .i64 pk] 26 0 rfl); have m1 := tkeep hb1 (tnew w #[.slice a q c, .slice b r d, .int .i64 wi, .string (strB bb), .int .i64 pk] 26 1 rfl); have m2 := tkeep hb1 (tnew w #[.slice a q c, .slice b r d, .int .i64 wi, .string (strB bb), .int .i64 pk] 26 2 rfl); have m3 := tkeep hb1 (tnew w #[.slice a q c, .slice b r d, .int .i64 wi, .string (strB bb), .int .i64 pk] 26 3 rfl); have m4 := tkeep hb1 (tnew w #[.slice a q c, .slice b r d, .int .i64 wi, .string (strB bb), .int .i64 pk] 26 4 rfl); have HB1 := Lib.hid (HB0.out.trans (hb1.mono HB0.out.size)); clear hb1)
    | (go_at_call 58; (with_reducible refine (HI.out _ HB1.out).mono ?_); rintro e w2 ⟨rfl, hb2⟩; have n0 := tkeep hb2 m0; have n1 := tkeep hb2 m1; have n2 := tkeep hb2 m2; have n3 := tkeep hb2 m3; have n4 := tkeep hb2 m4; have HB2 := Lib.hid (HB1.out.trans (hb2.mono HB1.out.size)); clear hb2)
    | (go_at_call 62; (with_reducible refine (HF.out _ HB2.out).mono ?_); rintro e w4 ⟨rfl, hb4⟩; have k0 := tkeep hb4 n0; have k1 := tkeep hb4 n1; have k2 := tkeep hb4 n2; have k3 := tkeep hb4 n3; have k4 := tkeep hb4 n4; have HB4 := Lib.hid (HB2.out.trans (hb4.mono HB2.out.size)); clear hb4))
  have d3 : w4.drew.cell? ⟨w.heap.size, 3, none⟩ = some (.string (strB bb)) := k3
  have d4 : w4.drew.cell? ⟨w.heap.size, 4, none⟩ = some (.int .i64 pk) := k4
  refine wp_region_held_drew (S := fun W => W.cell? ⟨w.heap.size, 3, none⟩ = some (.string (strB bb)) ∧ W.cell? ⟨w.heap.size, 4, none⟩ = some (.int .i64 pk)) (by kernel_rfl) ⟨d3, d4⟩ (fun hHeld => ?_)
  refine ttakeH 0 35 (v := ?va0) rfl (by kernel_rfl) (by kernel_rfl) (by kernel_rfl) rfl (fun _ _ _ h => h) (by rfl) ?ya0 (by assumption) ?ra0
  case ya0 => (intro W hSw; (try dsimp only at hSw); (try obtain ⟨hS0, hS1⟩ := hSw); go_simp; (try rw [if_neg (by omega)]); try with_reducible rfl)
  try simp only [Act.put, List.setIfInBounds_toArray, List.set_cons_zero, List.set_cons_succ]
  refine ttakeH 1 36 (v := ?va1) rfl (by kernel_rfl) (by kernel_rfl) (by kernel_rfl) rfl (fun _ _ _ h => h) (by rfl) ?ya1 (by assumption) ?ra1
  case ya1 => (intro W hSw; (try dsimp only at hSw); (try obtain ⟨hS0, hS1⟩ := hSw); go_simp; (try rw [if_neg (by omega)]); try with_reducible rfl)
  try simp only [Act.put, List.setIfInBounds_toArray, List.set_cons_zero, List.set_cons_succ]
  refine ttakeH 3 38 (v := ?va3) rfl (by kernel_rfl) (by kernel_rfl) (by kernel_rfl) rfl (fun _ _ _ h => h) (by rfl) ?ya3 (by assumption) ?ra3
  case ya3 => (intro W hSw; (try dsimp only at hSw); (try obtain ⟨hS0, hS1⟩ := hSw); go_simp; (try rw [if_neg (by omega)]); try with_reducible rfl)
  try simp only [Act.put, List.setIfInBounds_toArray, List.set_cons_zero, List.set_cons_succ]
  refine ttakeH 4 39 (v := ?va4) rfl (by kernel_rfl) (by kernel_rfl) (by kernel_rfl) rfl (fun _ _ _ h => h) (by rfl) ?ya4 (by assumption) ?ra4
  case ya4 => (intro W hSw; (try dsimp only at hSw); (try obtain ⟨hS0, hS1⟩ := hSw); go_simp; (try rw [if_neg (by omega)]); try with_reducible rfl)
  try simp only [Act.put, List.setIfInBounds_toArray, List.set_cons_zero, List.set_cons_succ]
  refine wpAnyH_ready (rs := [2]) (by kernel_rfl) (by simp) ?_
  refine AllReadyH.cons (o := _) rfl (fun K hK => ?_) AllReadyH.nil
  dsimp only [List.getElem_toArray, List.getElem_cons_succ, List.getElem_cons_zero]
  go_simp
  go_at_call 63
  (with_reducible refine (HC.out _).mono ?_)
  rintro e w5 ⟨rfl, hb5⟩
  have HB5 := Lib.hid ((vbelow_drew HB4.out).trans (hb5.mono (show _ ≤ w4.drew.heap.size from HB4.out.size)))
  have f3 := tkeep hb5 d3
  have f4 := tkeep hb5 d4
  clear hb5
  go_wp2_with fail
  refine hK.out _ _ ⟨f3, f4⟩ (fun hHelda2 => ?_)
  clear hK K
  try simp only [Act.put, List.setIfInBounds_toArray, List.set_cons_zero, List.set_cons_succ]
  refine ttakeH 5 40 (v := ?va5) rfl (by kernel_rfl) (by kernel_rfl) (by kernel_rfl) rfl (fun _ _ _ h => h) (by rfl) ?ya5 (by assumption) ?ra5
  case ya5 => (intro W hSw; (try dsimp only at hSw); (try obtain ⟨hS0, hS1⟩ := hSw); go_simp; (try rw [if_neg (by omega)]); try with_reducible rfl)
  try simp only [Act.put, List.setIfInBounds_toArray, List.set_cons_zero, List.set_cons_succ]
  refine ttakeH 6 41 (v := ?va6) rfl (by kernel_rfl) (by kernel_rfl) (by kernel_rfl) rfl (fun _ _ _ h => h) (by rfl) ?ya6 (by assumption) ?ra6
  case ya6 => (intro W hSw; (try dsimp only at hSw); (try obtain ⟨hS0, hS1⟩ := hSw); go_simp; (try rw [if_neg (by omega)]); try with_reducible rfl)
  try simp only [Act.put, List.setIfInBounds_toArray, List.set_cons_zero, List.set_cons_succ]
  refine ttakeH 7 2 (v := ?va7) rfl (by kernel_rfl) (by kernel_rfl) (by kernel_rfl) rfl (fun _ _ _ h => h) (by rfl) ?ya7 (by assumption) ?ra7
  case ya7 => (intro W hSw; (try dsimp only at hSw); (try obtain ⟨hS0, hS1⟩ := hSw); go_simp; (try rw [if_neg (by omega)]); try with_reducible rfl)
  try simp only [Act.put, List.setIfInBounds_toArray, List.set_cons_zero, List.set_cons_succ]
  refine wpAnyH_done (by kernel_rfl) ?_ _
  go_wp2
  go_ret
  exact ⟨rfl, HB5.out⟩
set_option maxHeartbeats 2000000 in
set_option maxRecDepth 100000 in
theorem pr_nb (hR : ∀ W, Below w.heap.size w W → Calls Tryz.prog 22 #[.agg #[.slice a q c, .slice b r d, .int .i64 wi, .string (strB bb), .int .i64 pk]] W fun e w' => e = .returned (.bool true) ∧ Below W.heap.size W w') (hI : ∀ W, Below w.heap.size w W → Calls Tryz.prog 58 #[.slice a q c, .string ⟨#[32, 116, 104, 101, 110, 32]⟩, .func (.func 59) #[] #[]] W fun e w' => e = .returned (.string ti) ∧ Below W.heap.size W w') (hF : ∀ W, Below w.heap.size w W → Calls Tryz.prog 62 #[.int .i64 wi, .int .i64 10] W fun e w' => e = .returned (.string tf) ∧ Below W.heap.size W w') (hr : ¬ 0 < r) (hbb : bb ≠ [])
    (si : ti.size ≤ 10000) (sf : tf.size ≤ 100) (_ : (strB bb).size ≤ 100) (st : pt.size ≤ 10)
    (hix : ∀ W, (Instr.index 117 (textsV picksL) (.int .i64 pk)).run Tryz.prog W = .ok (.string pt) W) :
    Calls Tryz.prog 24 #[.agg #[.slice a q c, .slice b r d, .int .i64 wi, .string (strB bb), .int .i64 pk]] w fun e w' => e = .returned (.string (((((⟨#[115, 101, 113, 32]⟩ ++ ti) ++ (⟨#[32, 119, 105, 116, 104, 105, 110, 32]⟩ ++ tf)) ++ (⟨#[32, 98, 121, 32]⟩ ++ strB bb)) ++ ⟨#[32, 112, 105, 99, 107, 32]⟩) ++ pt)) ∧ Below w.heap.size w w' := by
  have hb0 := (Below.refl w.heap.size w).alloc (Nat.le_refl _) (.cells #[.slice a q c, .slice b r d, .int .i64 wi, .string (strB bb), .int .i64 pk] 26)
  have HB0 := Lib.hid hb0
  have HR := Lib.hid (hR _ hb0)
  have HI := Lib.hid hI
  have HF := Lib.hid hF
  have HC := Lib.hid (fun W => picks_calls W)
  have t0 : decide (0 < r) = false := decide_eq_false hr
  have t1 : ((strB bb).toList == []) = false := by rw [tB_list, beq_eq_false_iff_ne]; exact hbb
  have z0 : (⟨#[115, 101, 113, 32]⟩ : ByteArray).size = 4 := rfl
  have z1 : (⟨#[32, 119, 104, 101, 114, 101, 32]⟩ : ByteArray).size = 7 := rfl
  have z2 : (⟨#[32, 119, 105, 116, 104, 105, 110, 32]⟩ : ByteArray).size = 8 := rfl
  have z3 : (⟨#[32, 98, 121, 32]⟩ : ByteArray).size = 4 := rfl
  have z4 : (⟨#[32, 112, 105, 99, 107, 32]⟩ : ByteArray).size = 6 := rfl
  clear hR hI hF hb0 hr hbb
  go_enter Tryz.func24, Tryz.ntmps24
  go_wp2_with (first
    | (go_at_call 22; (with_reducible refine HR.out.mono ?_); rintro e w1 ⟨rfl, hb1⟩; have m0 := tkeep hb1 (tnew w #[.slice a q c, .slice b r d, .int .i64 wi, .string (strB bb), .int .i64 pk] 26 0 rfl); have m1 := tkeep hb1 (tnew w #[.slice a q c, .slice b r d, .int .i64 wi, .string (strB bb), .int .i64 pk] 26 1 rfl); have m2 := tkeep hb1 (tnew w #[.slice a q c, .slice b r d, .int .i64 wi, .string (strB bb), .int .i64 pk] 26 2 rfl); have m3 := tkeep hb1 (tnew w #[.slice a q c, .slice b r d, .int .i64 wi, .string (strB bb), .int .i64 pk] 26 3 rfl); have m4 := tkeep hb1 (tnew w #[.slice a q c, .slice b r d, .int .i64 wi, .string (strB bb), .int .i64 pk] 26 4 rfl); have HB1 := Lib.hid (HB0.out.trans (hb1.mono HB0.out.size)); clear hb1)
    | (go_at_call 58; (with_reducible refine (HI.out _ HB1.out).mono ?_); rintro e w2 ⟨rfl, hb2⟩; have n0 := tkeep hb2 m0; have n1 := tkeep hb2 m1; have n2 := tkeep hb2 m2; have n3 := tkeep hb2 m3; have n4 := tkeep hb2 m4; have HB2 := Lib.hid (HB1.out.trans (hb2.mono HB1.out.size)); clear hb2)
    | (go_at_call 62; (with_reducible refine (HF.out _ HB2.out).mono ?_); rintro e w4 ⟨rfl, hb4⟩; have k0 := tkeep hb4 n0; have k1 := tkeep hb4 n1; have k2 := tkeep hb4 n2; have k3 := tkeep hb4 n3; have k4 := tkeep hb4 n4; have HB4 := Lib.hid (HB2.out.trans (hb4.mono HB2.out.size)); clear hb4))
  have d3 : w4.drew.cell? ⟨w.heap.size, 3, none⟩ = some (.string (strB bb)) := k3
  have d4 : w4.drew.cell? ⟨w.heap.size, 4, none⟩ = some (.int .i64 pk) := k4
  refine wp_region_held_drew (S := fun W => W.cell? ⟨w.heap.size, 3, none⟩ = some (.string (strB bb)) ∧ W.cell? ⟨w.heap.size, 4, none⟩ = some (.int .i64 pk)) (by kernel_rfl) ⟨d3, d4⟩ (fun hHeld => ?_)
  refine ttakeH 0 35 (v := ?va0) rfl (by kernel_rfl) (by kernel_rfl) (by kernel_rfl) rfl (fun _ _ _ h => h) (by rfl) ?ya0 (by assumption) ?ra0
  case ya0 => (intro W hSw; (try dsimp only at hSw); (try obtain ⟨hS0, hS1⟩ := hSw); go_simp; (try rw [if_neg (by omega)]); try with_reducible rfl)
  try simp only [Act.put, List.setIfInBounds_toArray, List.set_cons_zero, List.set_cons_succ]
  refine ttakeH 1 36 (v := ?va1) rfl (by kernel_rfl) (by kernel_rfl) (by kernel_rfl) rfl (fun _ _ _ h => h) (by rfl) ?ya1 (by assumption) ?ra1
  case ya1 => (intro W hSw; (try dsimp only at hSw); (try obtain ⟨hS0, hS1⟩ := hSw); go_simp; (try rw [if_neg (by omega)]); try with_reducible rfl)
  try simp only [Act.put, List.setIfInBounds_toArray, List.set_cons_zero, List.set_cons_succ]
  refine ttakeH 3 38 (v := ?va3) rfl (by kernel_rfl) (by kernel_rfl) (by kernel_rfl) rfl (fun _ _ _ h => h) (by rfl) ?ya3 (by assumption) ?ra3
  case ya3 => (intro W hSw; (try dsimp only at hSw); (try obtain ⟨hS0, hS1⟩ := hSw); go_simp; (try rw [if_neg (by omega)]); try with_reducible rfl)
  try simp only [Act.put, List.setIfInBounds_toArray, List.set_cons_zero, List.set_cons_succ]
  refine ttakeH 4 39 (v := ?va4) rfl (by kernel_rfl) (by kernel_rfl) (by kernel_rfl) rfl (fun _ _ _ h => h) (by rfl) ?ya4 (by assumption) ?ra4
  case ya4 => (intro W hSw; (try dsimp only at hSw); (try obtain ⟨hS0, hS1⟩ := hSw); go_simp; (try rw [if_neg (by omega)]); try with_reducible rfl)
  try simp only [Act.put, List.setIfInBounds_toArray, List.set_cons_zero, List.set_cons_succ]
  refine wpAnyH_ready (rs := [2]) (by kernel_rfl) (by simp) ?_
  refine AllReadyH.cons (o := _) rfl (fun K hK => ?_) AllReadyH.nil
  dsimp only [List.getElem_toArray, List.getElem_cons_succ, List.getElem_cons_zero]
  go_simp
  go_at_call 63
  (with_reducible refine (HC.out _).mono ?_)
  rintro e w5 ⟨rfl, hb5⟩
  have HB5 := Lib.hid ((vbelow_drew HB4.out).trans (hb5.mono (show _ ≤ w4.drew.heap.size from HB4.out.size)))
  have f3 := tkeep hb5 d3
  have f4 := tkeep hb5 d4
  clear hb5
  go_wp2_with fail
  refine hK.out _ _ ⟨f3, f4⟩ (fun hHelda2 => ?_)
  clear hK K
  try simp only [Act.put, List.setIfInBounds_toArray, List.set_cons_zero, List.set_cons_succ]
  refine ttakeH 5 40 (v := ?va5) rfl (by kernel_rfl) (by kernel_rfl) (by kernel_rfl) rfl (fun _ _ _ h => h) (by rfl) ?ya5 (by assumption) ?ra5
  case ya5 => (intro W hSw; (try dsimp only at hSw); (try obtain ⟨hS0, hS1⟩ := hSw); go_simp; (try rw [if_neg (by omega)]); try with_reducible rfl)
  try simp only [Act.put, List.setIfInBounds_toArray, List.set_cons_zero, List.set_cons_succ]
  refine ttakeH 6 41 (v := ?va6) rfl (by kernel_rfl) (by kernel_rfl) (by kernel_rfl) rfl (fun _ _ _ h => h) (by rfl) ?ya6 (by assumption) ?ra6
  case ya6 => (intro W hSw; (try dsimp only at hSw); (try obtain ⟨hS0, hS1⟩ := hSw); go_simp; (try rw [if_neg (by omega)]); try with_reducible rfl)
  try simp only [Act.put, List.setIfInBounds_toArray, List.set_cons_zero, List.set_cons_succ]
  refine ttakeH 7 2 (v := ?va7) rfl (by kernel_rfl) (by kernel_rfl) (by kernel_rfl) rfl (fun _ _ _ h => h) (by rfl) ?ya7 (by assumption) ?ra7
  case ya7 => (intro W hSw; (try dsimp only at hSw); (try obtain ⟨hS0, hS1⟩ := hSw); go_simp; (try rw [if_neg (by omega)]); try with_reducible rfl)
  try simp only [Act.put, List.setIfInBounds_toArray, List.set_cons_zero, List.set_cons_succ]
  refine wpAnyH_done (by kernel_rfl) ?_ _
  go_wp2
  go_ret
  exact ⟨rfl, HB5.out⟩
set_option maxHeartbeats 2000000 in
set_option maxRecDepth 100000 in
theorem pr_pn (hR : ∀ W, Below w.heap.size w W → Calls Tryz.prog 22 #[.agg #[.slice a q c, .slice b r d, .int .i64 wi, .string (strB bb), .int .i64 pk]] W fun e w' => e = .returned (.bool true) ∧ Below W.heap.size W w') (hI : ∀ W, Below w.heap.size w W → Calls Tryz.prog 58 #[.slice a q c, .string ⟨#[32, 116, 104, 101, 110, 32]⟩, .func (.func 59) #[] #[]] W fun e w' => e = .returned (.string ti) ∧ Below W.heap.size W w') (hP : ∀ W, Below w.heap.size w W → Calls Tryz.prog 60 #[.slice b r d, .string ⟨#[32, 97, 110, 100, 32]⟩, .func (.func 61) #[] #[]] W fun e w' => e = .returned (.string tp) ∧ Below W.heap.size W w') (hF : ∀ W, Below w.heap.size w W → Calls Tryz.prog 62 #[.int .i64 wi, .int .i64 10] W fun e w' => e = .returned (.string tf) ∧ Below W.heap.size W w') (hr : 0 < r) (hbb : bb = [])
    (si : ti.size ≤ 10000) (sp : tp.size ≤ 2000000) (sf : tf.size ≤ 100) (_ : (strB bb).size ≤ 100) (st : pt.size ≤ 10)
    (hix : ∀ W, (Instr.index 117 (textsV picksL) (.int .i64 pk)).run Tryz.prog W = .ok (.string pt) W) :
    Calls Tryz.prog 24 #[.agg #[.slice a q c, .slice b r d, .int .i64 wi, .string (strB bb), .int .i64 pk]] w fun e w' => e = .returned (.string (((((⟨#[115, 101, 113, 32]⟩ ++ ti) ++ (⟨#[32, 119, 104, 101, 114, 101, 32]⟩ ++ tp)) ++ (⟨#[32, 119, 105, 116, 104, 105, 110, 32]⟩ ++ tf)) ++ ⟨#[32, 112, 105, 99, 107, 32]⟩) ++ pt)) ∧ Below w.heap.size w w' := by
  have hb0 := (Below.refl w.heap.size w).alloc (Nat.le_refl _) (.cells #[.slice a q c, .slice b r d, .int .i64 wi, .string (strB bb), .int .i64 pk] 26)
  have HB0 := Lib.hid hb0
  have HR := Lib.hid (hR _ hb0)
  have HI := Lib.hid hI
  have HP := Lib.hid hP
  have HF := Lib.hid hF
  have HC := Lib.hid (fun W => picks_calls W)
  have t0 : decide (0 < r) = true := decide_eq_true hr
  have t1 : ((strB bb).toList == []) = true := by rw [tB_list, hbb]; rfl
  have z0 : (⟨#[115, 101, 113, 32]⟩ : ByteArray).size = 4 := rfl
  have z1 : (⟨#[32, 119, 104, 101, 114, 101, 32]⟩ : ByteArray).size = 7 := rfl
  have z2 : (⟨#[32, 119, 105, 116, 104, 105, 110, 32]⟩ : ByteArray).size = 8 := rfl
  have z3 : (⟨#[32, 98, 121, 32]⟩ : ByteArray).size = 4 := rfl
  have z4 : (⟨#[32, 112, 105, 99, 107, 32]⟩ : ByteArray).size = 6 := rfl
  clear hR hI hP hF hb0 hr hbb
  go_enter Tryz.func24, Tryz.ntmps24
  go_wp2_with (first
    | (go_at_call 22; (with_reducible refine HR.out.mono ?_); rintro e w1 ⟨rfl, hb1⟩; have m0 := tkeep hb1 (tnew w #[.slice a q c, .slice b r d, .int .i64 wi, .string (strB bb), .int .i64 pk] 26 0 rfl); have m1 := tkeep hb1 (tnew w #[.slice a q c, .slice b r d, .int .i64 wi, .string (strB bb), .int .i64 pk] 26 1 rfl); have m2 := tkeep hb1 (tnew w #[.slice a q c, .slice b r d, .int .i64 wi, .string (strB bb), .int .i64 pk] 26 2 rfl); have m3 := tkeep hb1 (tnew w #[.slice a q c, .slice b r d, .int .i64 wi, .string (strB bb), .int .i64 pk] 26 3 rfl); have m4 := tkeep hb1 (tnew w #[.slice a q c, .slice b r d, .int .i64 wi, .string (strB bb), .int .i64 pk] 26 4 rfl); have HB1 := Lib.hid (HB0.out.trans (hb1.mono HB0.out.size)); clear hb1)
    | (go_at_call 58; (with_reducible refine (HI.out _ HB1.out).mono ?_); rintro e w2 ⟨rfl, hb2⟩; have n0 := tkeep hb2 m0; have n1 := tkeep hb2 m1; have n2 := tkeep hb2 m2; have n3 := tkeep hb2 m3; have n4 := tkeep hb2 m4; have HB2 := Lib.hid (HB1.out.trans (hb2.mono HB1.out.size)); clear hb2)
    | (go_at_call 60; (with_reducible refine (HP.out _ HB2.out).mono ?_); rintro e w3 ⟨rfl, hb3⟩; have p0 := tkeep hb3 n0; have p1 := tkeep hb3 n1; have p2 := tkeep hb3 n2; have p3 := tkeep hb3 n3; have p4 := tkeep hb3 n4; have HB3 := Lib.hid (HB2.out.trans (hb3.mono HB2.out.size)); clear hb3)
    | (go_at_call 62; (with_reducible refine (HF.out _ HB3.out).mono ?_); rintro e w4 ⟨rfl, hb4⟩; have k0 := tkeep hb4 p0; have k1 := tkeep hb4 p1; have k2 := tkeep hb4 p2; have k3 := tkeep hb4 p3; have k4 := tkeep hb4 p4; have HB4 := Lib.hid (HB3.out.trans (hb4.mono HB3.out.size)); clear hb4))
  have d3 : w4.drew.cell? ⟨w.heap.size, 3, none⟩ = some (.string (strB bb)) := k3
  have d4 : w4.drew.cell? ⟨w.heap.size, 4, none⟩ = some (.int .i64 pk) := k4
  refine wp_region_held_drew (S := fun W => W.cell? ⟨w.heap.size, 3, none⟩ = some (.string (strB bb)) ∧ W.cell? ⟨w.heap.size, 4, none⟩ = some (.int .i64 pk)) (by kernel_rfl) ⟨d3, d4⟩ (fun hHeld => ?_)
  refine ttakeH 0 35 (v := ?va0) rfl (by kernel_rfl) (by kernel_rfl) (by kernel_rfl) rfl (fun _ _ _ h => h) (by rfl) ?ya0 (by assumption) ?ra0
  case ya0 => (intro W hSw; (try dsimp only at hSw); (try obtain ⟨hS0, hS1⟩ := hSw); go_simp; (try rw [if_neg (by omega)]); try with_reducible rfl)
  try simp only [Act.put, List.setIfInBounds_toArray, List.set_cons_zero, List.set_cons_succ]
  refine ttakeH 1 36 (v := ?va1) rfl (by kernel_rfl) (by kernel_rfl) (by kernel_rfl) rfl (fun _ _ _ h => h) (by rfl) ?ya1 (by assumption) ?ra1
  case ya1 => (intro W hSw; (try dsimp only at hSw); (try obtain ⟨hS0, hS1⟩ := hSw); go_simp; (try rw [if_neg (by omega)]); try with_reducible rfl)
  try simp only [Act.put, List.setIfInBounds_toArray, List.set_cons_zero, List.set_cons_succ]
  refine ttakeH 3 38 (v := ?va3) rfl (by kernel_rfl) (by kernel_rfl) (by kernel_rfl) rfl (fun _ _ _ h => h) (by rfl) ?ya3 (by assumption) ?ra3
  case ya3 => (intro W hSw; (try dsimp only at hSw); (try obtain ⟨hS0, hS1⟩ := hSw); go_simp; (try rw [if_neg (by omega)]); try with_reducible rfl)
  try simp only [Act.put, List.setIfInBounds_toArray, List.set_cons_zero, List.set_cons_succ]
  refine ttakeH 4 39 (v := ?va4) rfl (by kernel_rfl) (by kernel_rfl) (by kernel_rfl) rfl (fun _ _ _ h => h) (by rfl) ?ya4 (by assumption) ?ra4
  case ya4 => (intro W hSw; (try dsimp only at hSw); (try obtain ⟨hS0, hS1⟩ := hSw); go_simp; (try rw [if_neg (by omega)]); try with_reducible rfl)
  try simp only [Act.put, List.setIfInBounds_toArray, List.set_cons_zero, List.set_cons_succ]
  refine wpAnyH_ready (rs := [2]) (by kernel_rfl) (by simp) ?_
  refine AllReadyH.cons (o := _) rfl (fun K hK => ?_) AllReadyH.nil
  dsimp only [List.getElem_toArray, List.getElem_cons_succ, List.getElem_cons_zero]
  go_simp
  go_at_call 63
  (with_reducible refine (HC.out _).mono ?_)
  rintro e w5 ⟨rfl, hb5⟩
  have HB5 := Lib.hid ((vbelow_drew HB4.out).trans (hb5.mono (show _ ≤ w4.drew.heap.size from HB4.out.size)))
  have f3 := tkeep hb5 d3
  have f4 := tkeep hb5 d4
  clear hb5
  go_wp2_with fail
  refine hK.out _ _ ⟨f3, f4⟩ (fun hHelda2 => ?_)
  clear hK K
  try simp only [Act.put, List.setIfInBounds_toArray, List.set_cons_zero, List.set_cons_succ]
  refine ttakeH 5 40 (v := ?va5) rfl (by kernel_rfl) (by kernel_rfl) (by kernel_rfl) rfl (fun _ _ _ h => h) (by rfl) ?ya5 (by assumption) ?ra5
  case ya5 => (intro W hSw; (try dsimp only at hSw); (try obtain ⟨hS0, hS1⟩ := hSw); go_simp; (try rw [if_neg (by omega)]); try with_reducible rfl)
  try simp only [Act.put, List.setIfInBounds_toArray, List.set_cons_zero, List.set_cons_succ]
  refine ttakeH 6 41 (v := ?va6) rfl (by kernel_rfl) (by kernel_rfl) (by kernel_rfl) rfl (fun _ _ _ h => h) (by rfl) ?ya6 (by assumption) ?ra6
  case ya6 => (intro W hSw; (try dsimp only at hSw); (try obtain ⟨hS0, hS1⟩ := hSw); go_simp; (try rw [if_neg (by omega)]); try with_reducible rfl)
  try simp only [Act.put, List.setIfInBounds_toArray, List.set_cons_zero, List.set_cons_succ]
  refine ttakeH 7 2 (v := ?va7) rfl (by kernel_rfl) (by kernel_rfl) (by kernel_rfl) rfl (fun _ _ _ h => h) (by rfl) ?ya7 (by assumption) ?ra7
  case ya7 => (intro W hSw; (try dsimp only at hSw); (try obtain ⟨hS0, hS1⟩ := hSw); go_simp; (try rw [if_neg (by omega)]); try with_reducible rfl)
  try simp only [Act.put, List.setIfInBounds_toArray, List.set_cons_zero, List.set_cons_succ]
  refine wpAnyH_done (by kernel_rfl) ?_ _
  go_wp2
  go_ret
  exact ⟨rfl, HB5.out⟩
set_option maxHeartbeats 2000000 in
set_option maxRecDepth 100000 in
theorem pr_pb (hR : ∀ W, Below w.heap.size w W → Calls Tryz.prog 22 #[.agg #[.slice a q c, .slice b r d, .int .i64 wi, .string (strB bb), .int .i64 pk]] W fun e w' => e = .returned (.bool true) ∧ Below W.heap.size W w') (hI : ∀ W, Below w.heap.size w W → Calls Tryz.prog 58 #[.slice a q c, .string ⟨#[32, 116, 104, 101, 110, 32]⟩, .func (.func 59) #[] #[]] W fun e w' => e = .returned (.string ti) ∧ Below W.heap.size W w') (hP : ∀ W, Below w.heap.size w W → Calls Tryz.prog 60 #[.slice b r d, .string ⟨#[32, 97, 110, 100, 32]⟩, .func (.func 61) #[] #[]] W fun e w' => e = .returned (.string tp) ∧ Below W.heap.size W w') (hF : ∀ W, Below w.heap.size w W → Calls Tryz.prog 62 #[.int .i64 wi, .int .i64 10] W fun e w' => e = .returned (.string tf) ∧ Below W.heap.size W w') (hr : 0 < r) (hbb : bb ≠ [])
    (si : ti.size ≤ 10000) (sp : tp.size ≤ 2000000) (sf : tf.size ≤ 100) (_ : (strB bb).size ≤ 100) (st : pt.size ≤ 10)
    (hix : ∀ W, (Instr.index 117 (textsV picksL) (.int .i64 pk)).run Tryz.prog W = .ok (.string pt) W) :
    Calls Tryz.prog 24 #[.agg #[.slice a q c, .slice b r d, .int .i64 wi, .string (strB bb), .int .i64 pk]] w fun e w' => e = .returned (.string ((((((⟨#[115, 101, 113, 32]⟩ ++ ti) ++ (⟨#[32, 119, 104, 101, 114, 101, 32]⟩ ++ tp)) ++ (⟨#[32, 119, 105, 116, 104, 105, 110, 32]⟩ ++ tf)) ++ (⟨#[32, 98, 121, 32]⟩ ++ strB bb)) ++ ⟨#[32, 112, 105, 99, 107, 32]⟩) ++ pt)) ∧ Below w.heap.size w w' := by
  have hb0 := (Below.refl w.heap.size w).alloc (Nat.le_refl _) (.cells #[.slice a q c, .slice b r d, .int .i64 wi, .string (strB bb), .int .i64 pk] 26)
  have HB0 := Lib.hid hb0
  have HR := Lib.hid (hR _ hb0)
  have HI := Lib.hid hI
  have HP := Lib.hid hP
  have HF := Lib.hid hF
  have HC := Lib.hid (fun W => picks_calls W)
  have t0 : decide (0 < r) = true := decide_eq_true hr
  have t1 : ((strB bb).toList == []) = false := by rw [tB_list, beq_eq_false_iff_ne]; exact hbb
  have z0 : (⟨#[115, 101, 113, 32]⟩ : ByteArray).size = 4 := rfl
  have z1 : (⟨#[32, 119, 104, 101, 114, 101, 32]⟩ : ByteArray).size = 7 := rfl
  have z2 : (⟨#[32, 119, 105, 116, 104, 105, 110, 32]⟩ : ByteArray).size = 8 := rfl
  have z3 : (⟨#[32, 98, 121, 32]⟩ : ByteArray).size = 4 := rfl
  have z4 : (⟨#[32, 112, 105, 99, 107, 32]⟩ : ByteArray).size = 6 := rfl
  clear hR hI hP hF hb0 hr hbb
  go_enter Tryz.func24, Tryz.ntmps24
  go_wp2_with (first
    | (go_at_call 22; (with_reducible refine HR.out.mono ?_); rintro e w1 ⟨rfl, hb1⟩; have m0 := tkeep hb1 (tnew w #[.slice a q c, .slice b r d, .int .i64 wi, .string (strB bb), .int .i64 pk] 26 0 rfl); have m1 := tkeep hb1 (tnew w #[.slice a q c, .slice b r d, .int .i64 wi, .string (strB bb), .int .i64 pk] 26 1 rfl); have m2 := tkeep hb1 (tnew w #[.slice a q c, .slice b r d, .int .i64 wi, .string (strB bb), .int .i64 pk] 26 2 rfl); have m3 := tkeep hb1 (tnew w #[.slice a q c, .slice b r d, .int .i64 wi, .string (strB bb), .int .i64 pk] 26 3 rfl); have m4 := tkeep hb1 (tnew w #[.slice a q c, .slice b r d, .int .i64 wi, .string (strB bb), .int .i64 pk] 26 4 rfl); have HB1 := Lib.hid (HB0.out.trans (hb1.mono HB0.out.size)); clear hb1)
    | (go_at_call 58; (with_reducible refine (HI.out _ HB1.out).mono ?_); rintro e w2 ⟨rfl, hb2⟩; have n0 := tkeep hb2 m0; have n1 := tkeep hb2 m1; have n2 := tkeep hb2 m2; have n3 := tkeep hb2 m3; have n4 := tkeep hb2 m4; have HB2 := Lib.hid (HB1.out.trans (hb2.mono HB1.out.size)); clear hb2)
    | (go_at_call 60; (with_reducible refine (HP.out _ HB2.out).mono ?_); rintro e w3 ⟨rfl, hb3⟩; have p0 := tkeep hb3 n0; have p1 := tkeep hb3 n1; have p2 := tkeep hb3 n2; have p3 := tkeep hb3 n3; have p4 := tkeep hb3 n4; have HB3 := Lib.hid (HB2.out.trans (hb3.mono HB2.out.size)); clear hb3)
    | (go_at_call 62; (with_reducible refine (HF.out _ HB3.out).mono ?_); rintro e w4 ⟨rfl, hb4⟩; have k0 := tkeep hb4 p0; have k1 := tkeep hb4 p1; have k2 := tkeep hb4 p2; have k3 := tkeep hb4 p3; have k4 := tkeep hb4 p4; have HB4 := Lib.hid (HB3.out.trans (hb4.mono HB3.out.size)); clear hb4))
  have d3 : w4.drew.cell? ⟨w.heap.size, 3, none⟩ = some (.string (strB bb)) := k3
  have d4 : w4.drew.cell? ⟨w.heap.size, 4, none⟩ = some (.int .i64 pk) := k4
  refine wp_region_held_drew (S := fun W => W.cell? ⟨w.heap.size, 3, none⟩ = some (.string (strB bb)) ∧ W.cell? ⟨w.heap.size, 4, none⟩ = some (.int .i64 pk)) (by kernel_rfl) ⟨d3, d4⟩ (fun hHeld => ?_)
  refine ttakeH 0 35 (v := ?va0) rfl (by kernel_rfl) (by kernel_rfl) (by kernel_rfl) rfl (fun _ _ _ h => h) (by rfl) ?ya0 (by assumption) ?ra0
  case ya0 => (intro W hSw; (try dsimp only at hSw); (try obtain ⟨hS0, hS1⟩ := hSw); go_simp; (try rw [if_neg (by omega)]); try with_reducible rfl)
  try simp only [Act.put, List.setIfInBounds_toArray, List.set_cons_zero, List.set_cons_succ]
  refine ttakeH 1 36 (v := ?va1) rfl (by kernel_rfl) (by kernel_rfl) (by kernel_rfl) rfl (fun _ _ _ h => h) (by rfl) ?ya1 (by assumption) ?ra1
  case ya1 => (intro W hSw; (try dsimp only at hSw); (try obtain ⟨hS0, hS1⟩ := hSw); go_simp; (try rw [if_neg (by omega)]); try with_reducible rfl)
  try simp only [Act.put, List.setIfInBounds_toArray, List.set_cons_zero, List.set_cons_succ]
  refine ttakeH 3 38 (v := ?va3) rfl (by kernel_rfl) (by kernel_rfl) (by kernel_rfl) rfl (fun _ _ _ h => h) (by rfl) ?ya3 (by assumption) ?ra3
  case ya3 => (intro W hSw; (try dsimp only at hSw); (try obtain ⟨hS0, hS1⟩ := hSw); go_simp; (try rw [if_neg (by omega)]); try with_reducible rfl)
  try simp only [Act.put, List.setIfInBounds_toArray, List.set_cons_zero, List.set_cons_succ]
  refine ttakeH 4 39 (v := ?va4) rfl (by kernel_rfl) (by kernel_rfl) (by kernel_rfl) rfl (fun _ _ _ h => h) (by rfl) ?ya4 (by assumption) ?ra4
  case ya4 => (intro W hSw; (try dsimp only at hSw); (try obtain ⟨hS0, hS1⟩ := hSw); go_simp; (try rw [if_neg (by omega)]); try with_reducible rfl)
  try simp only [Act.put, List.setIfInBounds_toArray, List.set_cons_zero, List.set_cons_succ]
  refine wpAnyH_ready (rs := [2]) (by kernel_rfl) (by simp) ?_
  refine AllReadyH.cons (o := _) rfl (fun K hK => ?_) AllReadyH.nil
  dsimp only [List.getElem_toArray, List.getElem_cons_succ, List.getElem_cons_zero]
  go_simp
  go_at_call 63
  (with_reducible refine (HC.out _).mono ?_)
  rintro e w5 ⟨rfl, hb5⟩
  have HB5 := Lib.hid ((vbelow_drew HB4.out).trans (hb5.mono (show _ ≤ w4.drew.heap.size from HB4.out.size)))
  have f3 := tkeep hb5 d3
  have f4 := tkeep hb5 d4
  clear hb5
  go_wp2_with fail
  refine hK.out _ _ ⟨f3, f4⟩ (fun hHelda2 => ?_)
  clear hK K
  try simp only [Act.put, List.setIfInBounds_toArray, List.set_cons_zero, List.set_cons_succ]
  refine ttakeH 5 40 (v := ?va5) rfl (by kernel_rfl) (by kernel_rfl) (by kernel_rfl) rfl (fun _ _ _ h => h) (by rfl) ?ya5 (by assumption) ?ra5
  case ya5 => (intro W hSw; (try dsimp only at hSw); (try obtain ⟨hS0, hS1⟩ := hSw); go_simp; (try rw [if_neg (by omega)]); try with_reducible rfl)
  try simp only [Act.put, List.setIfInBounds_toArray, List.set_cons_zero, List.set_cons_succ]
  refine ttakeH 6 41 (v := ?va6) rfl (by kernel_rfl) (by kernel_rfl) (by kernel_rfl) rfl (fun _ _ _ h => h) (by rfl) ?ya6 (by assumption) ?ra6
  case ya6 => (intro W hSw; (try dsimp only at hSw); (try obtain ⟨hS0, hS1⟩ := hSw); go_simp; (try rw [if_neg (by omega)]); try with_reducible rfl)
  try simp only [Act.put, List.setIfInBounds_toArray, List.set_cons_zero, List.set_cons_succ]
  refine ttakeH 7 2 (v := ?va7) rfl (by kernel_rfl) (by kernel_rfl) (by kernel_rfl) rfl (fun _ _ _ h => h) (by rfl) ?ya7 (by assumption) ?ra7
  case ya7 => (intro W hSw; (try dsimp only at hSw); (try obtain ⟨hS0, hS1⟩ := hSw); go_simp; (try rw [if_neg (by omega)]); try with_reducible rfl)
  try simp only [Act.put, List.setIfInBounds_toArray, List.set_cons_zero, List.set_cons_succ]
  refine wpAnyH_done (by kernel_rfl) ?_ _
  go_wp2
  go_ret
  exact ⟨rfl, HB5.out⟩
end

theorem rightQ_parts {p : PQu} (h : rightQ p = true) : rightIs p.its = true ∧ p.prs.length ≤ 8 ∧ (∀ y ∈ p.prs, rightP y = true) ∧ (0 ≤ p.within ∧ p.within ≤ 1099511627776) ∧ (p.by_ = [] ∨ nameB p.by_ = true) ∧ 1 ≤ p.pick ∧ p.pick ≤ 3 := by
  unfold rightQ at h
  simp only [Bool.and_eq_true, Bool.or_eq_true, decide_eq_true_eq, List.all_eq_true] at h
  exact ⟨h.1, h.2.1, h.2.2.1, h.2.2.2.1, h.2.2.2.2.1, h.2.2.2.2.2⟩
theorem rightIs_parts {l : List PIt} (h : rightIs l = true) : l ≠ [] ∧ l.length ≤ 6 ∧ (∀ y ∈ l, rightI y = true ∧ y.x.length ≤ 100) := by
  unfold rightIs at h
  cases l with
  | nil => cases h
  | cons i r =>
    simp only [Bool.and_eq_true, Bool.not_eq_true', Bool.or_eq_false_iff, decide_eq_false_iff_not] at h
    refine ⟨by simp, by have := h.1.1; omega, fun y hy => ⟨List.all_eq_true.1 h.2.1 y hy, ?_⟩⟩
    have := unlikeB_names h.2.2 y.x (List.mem_map_of_mem hy)
    omega
theorem strB_nil_size : (strB []).size = 0 := rfl
theorem print_calls {K : Nat → Prop} {w : World} {a b : Option Addr} {q c r d : Nat} {p : PQu} (h : QuAt K w a q c b r d p) (hb : QuB p) (hv : PVars w) :
    Calls Tryz.prog 24 #[.agg #[.slice a q c, .slice b r d, .int .i64 p.within, .string (strB p.by_), .int .i64 p.pick]] w fun e w' => e = .returned (.string (strB (printQ p))) ∧ Below w.heap.size w w' := by
  have hR := fun W (hW : Below w.heap.size w W) => right_calls (p := p) (K := K) (w := W) (a := a) (b := b) (q := q) (c := c) (r := r) (d := d) ⟨h.1.low hW, h.2.low hW⟩ hb
  unfold printQ
  cases hr : rightQ p with
  | false =>
    rw [hr] at hR
    rw [if_neg (by simp)]
    exact pr_no hR
  | true =>
    rw [hr] at hR
    rw [if_pos rfl]
    obtain ⟨hIs, h8, hPs, hw, hby, hpk⟩ := rightQ_parts hr
    obtain ⟨hne, h6, hg⟩ := rightIs_parts hIs
    obtain ⟨h1, h2⟩ := h
    obtain rfl := h1.len
    obtain rfl := h2.len
    have hI := fun W (hW : Below w.heap.size w W) => joinedI_calls (h1.low hW) hne h6 hg (hv.below hW) [32, 116, 104, 101, 110, 32] (by decide)
    have hF := fun W (hW : Below w.heap.size w W) => (Tryz.strconv_FormatInt_10 p.within (by omega) (by omega) W (hv.below hW).tab).mono (fun e w' ⟨he, hg⟩ => (⟨he, tgrow_below hg⟩ : e = Ending.returned (.string ⟨(itoa p.within).toArray⟩) ∧ Below W.heap.size W w'))
    have li : ([32, 116, 104, 101, 110, 32].intercalate (p.its.map itemTx)).length ≤ 10000 := by
      have h3 := inter_len [32, 116, 104, 101, 110, 32] 1200 (p.its.map itemTx) (fun x hx => by
        obtain ⟨y, hy, rfl⟩ := List.mem_map.1 hx
        exact itemTx_len (hg y hy).1 (hg y hy).2)
      rw [List.length_map] at h3
      have h4 : p.its.length * (1200 + [32, 116, 104, 101, 110, (32 : UInt8)].length) ≤ 6 * (1200 + 6) := Nat.mul_le_mul h6 (Nat.le_refl _)
      omega
    have lf : (strB (itoa p.within)).size ≤ 100 := by
      rw [strB_size]
      exact Nat.le_trans (itoa_short p.within (by omega)) (by decide)
    have lb : (strB p.by_).size ≤ 100 := by
      rw [strB_size]
      rcases hby with e | e
      · rw [e]; decide
      · have := nameB_len e
        omega
    have lt : (strB (atL picksL p.pick)).size ≤ 10 := by rw [strB_size]; exact atL_short (by decide) p.pick
    have hix := picks_index p.pick hpk
    by_cases hp : p.prs = []
    · have hp0 : ¬ 0 < p.prs.length := by rw [hp]; simp
      rw [if_pos hp]
      by_cases hbb : p.by_ = []
      · rw [if_pos hbb]
        refine (pr_nn hR hI hF hp0 hbb (by rw [strB_size]; exact li) lf lb lt hix).mono ?_
        rintro e w' ⟨rfl, hb'⟩
        refine ⟨?_, hb'⟩
        congr 2
        show ((strB _ ++ strB _) ++ (strB _ ++ strB (itoa p.within))) ++ strB _ ++ strB _ = _
        simp only [catT]
        congr 1
        simp
      · rw [if_neg hbb]
        refine (pr_nb hR hI hF hp0 hbb (by rw [strB_size]; exact li) lf lb lt hix).mono ?_
        rintro e w' ⟨rfl, hb'⟩
        refine ⟨?_, hb'⟩
        congr 2
        show (((strB _ ++ strB _) ++ (strB _ ++ strB (itoa p.within))) ++ (strB _ ++ strB _)) ++ strB _ ++ strB _ = _
        simp only [catT]
        congr 1
        simp
    · have hp0 : 0 < p.prs.length := List.length_pos_iff.2 hp
      have hP := fun W (hW : Below w.heap.size w W) => joinedP_calls (h2.low hW) hp h8 hPs (hv.below hW) [32, 97, 110, 100, 32] (by decide)
      have lp : ([32, 97, 110, 100, 32].intercalate (p.prs.map predTx)).length ≤ 2000000 := by
        have h3 := inter_len [32, 97, 110, 100, 32] 200000 (p.prs.map predTx) (fun x hx => by
          obtain ⟨y, hy, rfl⟩ := List.mem_map.1 hx
          exact predTx_len (hPs y hy))
        rw [List.length_map] at h3
        have h4 : p.prs.length * (200000 + [32, 97, 110, 100, (32 : UInt8)].length) ≤ 8 * (200000 + 5) := Nat.mul_le_mul h8 (Nat.le_refl _)
        omega
      rw [if_neg hp]
      by_cases hbb : p.by_ = []
      · rw [if_pos hbb]
        refine (pr_pn hR hI hP hF hp0 hbb (by rw [strB_size]; exact li) (by rw [strB_size]; exact lp) lf lb lt hix).mono ?_
        rintro e w' ⟨rfl, hb'⟩
        refine ⟨?_, hb'⟩
        congr 2
        show (((strB _ ++ strB _) ++ (strB _ ++ strB _)) ++ (strB _ ++ strB (itoa p.within))) ++ strB _ ++ strB _ = _
        simp only [catT]
        congr 1
        simp
      · rw [if_neg hbb]
        refine (pr_pb hR hI hP hF hp0 hbb (by rw [strB_size]; exact li) (by rw [strB_size]; exact lp) lf lb lt hix).mono ?_
        rintro e w' ⟨rfl, hb'⟩
        refine ⟨?_, hb'⟩
        congr 2
        show ((((strB _ ++ strB _) ++ (strB _ ++ strB _)) ++ (strB _ ++ strB (itoa p.within))) ++ (strB _ ++ strB _)) ++ strB _ ++ strB _ = _
        simp only [catT]
        congr 1
        simp

end Go.Proofs.YtifacoompbngaaaGreatDoor

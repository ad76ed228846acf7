/- The document's Get. -/
import Derived.Test.YtppgecbjdkfohaaVK
namespace Go.Proofs.Ytppgecbjdkfohaa
open Go.RowKit Go.Lib Go.Op

theorem refV_1 (d : UInt8) (t : List UInt8) : refV (1 :: d :: t) = (match numR (d :: t) with | none => none | some x => if rightB ⟨1, zagN x.1, []⟩ then some (⟨1, zagN x.1, []⟩, 1 + x.2) else none) := rfl
theorem refV_2 (d : UInt8) (t : List UInt8) : refV (2 :: d :: t) = (if t.length < d.toNat then none else if rightB ⟨2, 0, t.take d.toNat⟩ then some (⟨2, 0, t.take d.toNat⟩, 2 + d.toNat) else none) := rfl
theorem refV_3 (d : UInt8) (t : List UInt8) : refV (3 :: d :: t) = (if rightB ⟨3, d.toNat, []⟩ then some (⟨3, d.toNat, []⟩, 2) else none) := rfl
theorem refV_else {c : UInt8} (d : UInt8) (t : List UInt8) (h1 : c.toNat ≠ 1) (h2 : c.toNat ≠ 2) (h3 : c.toNat ≠ 3) : refV (c :: d :: t) = none := by
  unfold refV
  simp only
  rw [if_neg h1, if_neg h2, if_neg h3]

theorem two_below (w : World) (o p : Obj) : Below w.heap.size w ((w.alloc o).alloc p) := ((Below.refl _ _).alloc (Nat.le_refl _) _).alloc (by simp) _

theorem numR_lt {l : List UInt8} {x : Nat × Nat} (h : numR l = some x) : x.1 ≤ 2199023255552 ∧ x.2 ≤ 7 := by
  unfold numR at h
  split at h
  · cases h
  · rename_i h0
    rw [not_or] at h0
    injection h with h
    obtain ⟨_, h2, _⟩ := dgo_said h0.1
    rw [h] at h0 h2
    exact ⟨by omega, h2⟩

theorem GetPost.mk {w w' : World} {o : Option (PVal × Nat)} {v : PVal} {c : Nat} {k n m : Int} {s : ByteArray} (h : o = Option.some (v, c)) (h1 : v.k = k) (h2 : v.n = n) (h3 : strB v.s = s) (h4 : m = c) (hb : Below w.heap.size w w') : GetPost w o (.returned (.tuple #[.agg #[.int .i64 k, .int .i64 n, .string s], .int .i64 m, .bool true])) w' := by
  rw [h, h4, ← h1, ← h2, ← h3]; exact ⟨rfl, hb⟩

set_option maxHeartbeats 4000000 in
set_option maxRecDepth 100000 in
theorem rget_calls (w : World) (v : Value) (bs : List UInt8) (h : BRow w v bs) (hbl : bs.length ≤ 1000000) : Calls Try.prog 64 #[v] w (GetPost w (refV bs)) := by
  obtain ⟨a, c, rfl, hc, hcm⟩ := h.len
  have hse : (⟨#[]⟩ : ByteArray).size ≤ maxLen := size_small (by decide)
  have Hse := Lib.hid hse
  clear hse
  match bs, h, hbl, hc with
  | [], h, hbl, hc =>
    have e : refV [] = none := rfl
    rw [e]
    clear h
    go_enter Try.func64, Try.ntmps64
    go_wp2
    refine bodyPost_ret (v := .tuple #[.agg #[.int .i64 0, .int .i64 0, .string ⟨#[]⟩], .int .i64 0, .bool false]) (by simp [results, Try.results64, go_sem]) rfl (GetPost.none rfl ?_)
    repeat' (first | exact Below.refl _ _ | refine Below.alloc ?_ (by simp <;> omega) _ | refine Below.setCell ?_ (by simp) _)
  | [x], h, hbl, hc =>
    have e : refV [x] = none := rfl
    rw [e]
    have hl1 : ([x] : List UInt8).length = 1 := rfl
    rw [hl1] at hc ⊢
    clear h hl1
    go_enter Try.func64, Try.ntmps64
    go_wp2
    refine bodyPost_ret (v := .tuple #[.agg #[.int .i64 0, .int .i64 0, .string ⟨#[]⟩], .int .i64 0, .bool false]) (by simp [results, Try.results64, go_sem]) rfl (GetPost.none rfl ?_)
    repeat' (first | exact Below.refl _ _ | refine Below.alloc ?_ (by simp <;> omega) _ | refine Below.setCell ?_ (by simp) _)
  | x :: d :: t, h, hbl, hc =>
  obtain ⟨A, rfl, hx⟩ := h.someA
  obtain ⟨A', e1, hd⟩ := h.atc (i := 1) (x := d) rfl
  injection e1 with e1
  subst e1
  have hd8 := d.toNat_lt
  have hx8 := x.toNat_lt
  obtain ⟨l, hl⟩ : ∃ l, (x :: d :: t).length = l := ⟨_, rfl⟩
  have htl : t.length + 2 = l := by rw [← hl]; rfl
  have hl2 : 2 ≤ l := by omega
  have hlb : l ≤ 1000000 := by omega
  obtain ⟨v1, hv1, hb1⟩ := h.drop (k := 1) (by simp)
  have hdr : (x :: d :: t).drop 1 = d :: t := rfl
  rw [hdr] at hb1
  rw [hl] at hv1 hc ⊢
  have hv1' : ∀ W : World, (Instr.slice 40 (.slice (some A) l c) (some (.int .i64 1)) none none).run Try.prog W = .ok v1 W := hv1
  have hAlt := World.block_lt_of_cell? _ _ hx
  have hAlt1 := World.block_lt_of_cell? _ _ hd
  unfold maxLen at hcm
  have hi0 : (0 : Int) < l := by omega
  have hi1 : (1 : Int) < l := by omega
  have hbw : ∀ o p : Obj, Below w.heap.size w ((w.alloc o).alloc p) := fun o p => two_below w o p
  by_cases h1 : x.toNat = 1
  · obtain rfl : x = 1 := u8_eq h1
    have hnum := fun W (hW : Below w.heap.size w W) => number_calls W v1 (d :: t) (hb1.below hW)
    have HN : Hid (∀ W, Below w.heap.size w W → Calls Try.prog 63 #[v1, .int .i64 2199023255552] W (NumPost W (numR (d :: t)))) := hnum
    have hr := refV_1 d t
    cases hn : numR (d :: t) with
    | none =>
      rw [hn] at hr
      have Hr : Hid (refV (1 :: d :: t) = none) := hr
      rw [hn] at HN
      clear hr hn hnum hv1 hb1 h hl hdr hbw
      go_enter Try.func64, Try.ntmps64
      go_wp2_with (go_at_call 63; (with_reducible refine (HN.out _ (two_below w _ _)).mono ?_); rintro e wn ⟨rfl, rfl⟩)
      refine bodyPost_ret (v := .tuple #[.agg #[.int .i64 0, .int .i64 0, .string ⟨#[]⟩], .int .i64 0, .bool false]) (by simp [results, Try.results64, go_sem]) rfl (GetPost.none Hr.out ?_)
      repeat' (first | exact Below.refl _ _ | refine Below.alloc ?_ (by simp <;> omega) _ | refine Below.setCell ?_ (by simp) _)
    | some y =>
      obtain ⟨yn, ym⟩ := y
      have hy := numR_lt hn
      simp only at hy
      obtain ⟨hy1, hy2⟩ := hy
      rw [hn] at hr HN
      simp only at hr
      have HN' : Hid (∀ W, Below w.heap.size w W → Calls Try.prog 63 #[v1, .int .i64 2199023255552] W fun e w' => e = .returned (.tuple #[.int .i64 yn, .int .i64 ym, .bool true]) ∧ W = w') := HN.out
      clear HN hn hnum hv1 hb1 h hl hdr hbw
      by_cases hm : yn % 2 = 1
      · have e2 : zagN yn = -((yn : Int) / 2) - 1 := by unfold zagN; rw [if_pos hm]; omega
        have hm2 : (yn : Int) % 2 = 1 := by omega
        rw [e2] at hr
        cases hrv : rightB ⟨1, -((yn : Int) / 2) - 1, []⟩ with
        | false =>
          have hrv' : rightV 1 (-((yn : Int) / 2) - 1) ⟨#[]⟩ = false := hrv
          have Hr : Hid (refV (1 :: d :: t) = none) := by show _ = _; rw [hr, hrv]; rfl
          clear hr hrv e2
          go_enter Try.func64, Try.ntmps64
          go_wp2_with (first | (go_at_call 63; (with_reducible refine (HN'.out _ (two_below w _ _)).mono ?_); rintro e wn ⟨rfl, rfl⟩) | (go_at_call 35; (with_reducible refine (rright_calls _ _ _ _ Hse.out).mono ?_); rintro e wq ⟨rfl, rfl⟩))
          refine bodyPost_ret (v := .tuple #[.agg #[.int .i64 0, .int .i64 0, .string ⟨#[]⟩], .int .i64 0, .bool false]) (by simp [results, Try.results64, go_sem]) rfl (GetPost.none Hr.out ?_)
          repeat' (first | exact Below.refl _ _ | refine Below.alloc ?_ (by simp <;> omega) _ | refine Below.setCell ?_ (by simp) _)
        | true =>
          have hrv' : rightV 1 (-((yn : Int) / 2) - 1) ⟨#[]⟩ = true := hrv
          have Hr : Hid (refV (1 :: d :: t) = some (⟨1, -((yn : Int) / 2) - 1, []⟩, 1 + ym)) := by show _ = _; rw [hr, hrv]; rfl
          clear hr hrv e2
          go_enter Try.func64, Try.ntmps64
          go_wp2_with (first | (go_at_call 63; (with_reducible refine (HN'.out _ (two_below w _ _)).mono ?_); rintro e wn ⟨rfl, rfl⟩) | (go_at_call 35; (with_reducible refine (rright_calls _ _ _ _ Hse.out).mono ?_); rintro e wq ⟨rfl, rfl⟩))
          refine bodyPost_ret (v := .tuple #[.agg #[.int .i64 1, .int .i64 (-((yn : Int) / 2) - 1), .string ⟨#[]⟩], .int .i64 (1 + (ym : Int)), .bool true]) (by simp [results, Try.results64, go_sem]) rfl (GetPost.mk Hr.out rfl rfl rfl (by omega) ?_)
          repeat' (first | exact Below.refl _ _ | refine Below.alloc ?_ (by simp <;> omega) _ | refine Below.setCell ?_ (by simp) _)
      · have e2 : zagN yn = (yn : Int) / 2 := by unfold zagN; rw [if_neg hm]; omega
        have hm2 : ((yn : Int) % 2 == 1) = false := by rw [beq_eq_false_iff_ne]; omega
        rw [e2] at hr
        cases hrv : rightB ⟨1, (yn : Int) / 2, []⟩ with
        | false =>
          have hrv' : rightV 1 ((yn : Int) / 2) ⟨#[]⟩ = false := hrv
          have Hr : Hid (refV (1 :: d :: t) = none) := by show _ = _; rw [hr, hrv]; rfl
          clear hr hrv e2
          go_enter Try.func64, Try.ntmps64
          go_wp2_with (first | (go_at_call 63; (with_reducible refine (HN'.out _ (two_below w _ _)).mono ?_); rintro e wn ⟨rfl, rfl⟩) | (go_at_call 35; (with_reducible refine (rright_calls _ _ _ _ Hse.out).mono ?_); rintro e wq ⟨rfl, rfl⟩))
          refine bodyPost_ret (v := .tuple #[.agg #[.int .i64 0, .int .i64 0, .string ⟨#[]⟩], .int .i64 0, .bool false]) (by simp [results, Try.results64, go_sem]) rfl (GetPost.none Hr.out ?_)
          repeat' (first | exact Below.refl _ _ | refine Below.alloc ?_ (by simp <;> omega) _ | refine Below.setCell ?_ (by simp) _)
        | true =>
          have hrv' : rightV 1 ((yn : Int) / 2) ⟨#[]⟩ = true := hrv
          have Hr : Hid (refV (1 :: d :: t) = some (⟨1, (yn : Int) / 2, []⟩, 1 + ym)) := by show _ = _; rw [hr, hrv]; rfl
          clear hr hrv e2
          go_enter Try.func64, Try.ntmps64
          go_wp2_with (first | (go_at_call 63; (with_reducible refine (HN'.out _ (two_below w _ _)).mono ?_); rintro e wn ⟨rfl, rfl⟩) | (go_at_call 35; (with_reducible refine (rright_calls _ _ _ _ Hse.out).mono ?_); rintro e wq ⟨rfl, rfl⟩))
          refine bodyPost_ret (v := .tuple #[.agg #[.int .i64 1, .int .i64 ((yn : Int) / 2), .string ⟨#[]⟩], .int .i64 (1 + (ym : Int)), .bool true]) (by simp [results, Try.results64, go_sem]) rfl (GetPost.mk Hr.out rfl rfl rfl (by omega) ?_)
          repeat' (first | exact Below.refl _ _ | refine Below.alloc ?_ (by simp <;> omega) _ | refine Below.setCell ?_ (by simp) _)
  have hdW : ∀ k : Int, ((w.alloc (.cells #[.int .i64 0, .int .i64 0, .string ⟨#[]⟩] 52)).alloc (.cells #[.int .i64 k, .int .i64 0, .string ⟨#[]⟩] 52)).cell? ⟨A.block, A.off + 1, none⟩ = some (.int .u8 d.toNat) := fun k => ((two_below w _ _).cell hAlt1).trans hd
  by_cases h2 : x.toNat = 2
  · obtain rfl : x = 2 := u8_eq h2
    have hr := refV_2 d t
    have hdW2 := hdW 2
    by_cases hbig : t.length < d.toNat
    · have Hr : Hid (refV (2 :: d :: t) = none) := by show _ = _; rw [hr, if_pos hbig]
      have hg : ((l : Int) - 2 < d.toNat) := by omega
      clear hr hv1 hb1 h hl hdr hbw hbig hdW
      go_enter Try.func64, Try.ntmps64
      go_wp2
      refine bodyPost_ret (v := .tuple #[.agg #[.int .i64 0, .int .i64 0, .string ⟨#[]⟩], .int .i64 0, .bool false]) (by simp [results, Try.results64, go_sem]) rfl (GetPost.none Hr.out ?_)
      repeat' (first | exact Below.refl _ _ | refine Below.alloc ?_ (by simp <;> omega) _ | refine Below.setCell ?_ (by simp) _)
    · obtain ⟨v2, hv2, hb2⟩ := h.cut (k := 2) (m := 2 + d.toNat) (by omega) (by rw [hl]; omega)
      have ed : (((2 : UInt8) :: d :: t).drop 2).take (2 + d.toNat - 2) = t.take d.toNat := by rw [show 2 + d.toNat - 2 = d.toNat by omega]; rfl
      rw [ed] at hb2
      rw [hl] at hv2
      have hv2' : ∀ W : World, (Instr.slice 40 (.slice (some A) l c) (some (.int .i64 2)) (some (.int .i64 (2 + (d.toNat : Int)))) none).run Try.prog W = .ok v2 W := fun W => by
        have h1 := hv2 W
        rwa [show ((2 + d.toNat : Nat) : Int) = 2 + (d.toNat : Int) by omega] at h1
      rw [if_neg hbig] at hr
      have htk : (t.take d.toNat).length = d.toNat := by rw [List.length_take]; omega
      have hcv : (convert 40 9 v2).run Try.prog ((w.alloc (.cells #[.int .i64 0, .int .i64 0, .string ⟨#[]⟩] 52)).alloc (.cells #[.int .i64 2, .int .i64 0, .string ⟨#[]⟩] 52)) = .ok (.string (strB (t.take d.toNat))) ((w.alloc (.cells #[.int .i64 0, .int .i64 0, .string ⟨#[]⟩] 52)).alloc (.cells #[.int .i64 2, .int .i64 0, .string ⟨#[]⟩] 52)) := conv_brow (hb2.below (two_below w _ _))
      generalize hq : t.take d.toNat = q at hcv hr htk
      have hqs : (strB q).size ≤ maxLen := by rw [strB_size, htk]; unfold maxLen; omega
      have hg : ¬ ((l : Int) - 2 < d.toNat) := by omega
      have Hqs := Lib.hid hqs
      have hrb : rightV 2 0 (strB q) = rightB ⟨2, 0, q⟩ := by unfold rightV; rw [strB_list]
      cases hrv : rightB ⟨2, 0, q⟩ with
      | false =>
        have hrv' : rightV 2 0 (strB q) = false := hrb.trans hrv
        have Hr : Hid (refV (2 :: d :: t) = none) := by show _ = _; rw [hr, hrv]; rfl
        clear hr hrv hv1 hb1 h hl hdr hbw hbig hdW hb2 hv2 ed hq htk hqs hrb
        go_enter Try.func64, Try.ntmps64
        go_wp2_with (go_at_call 35; (with_reducible refine (rright_calls _ _ _ _ Hqs.out).mono ?_); rintro e wq ⟨rfl, rfl⟩)
        refine bodyPost_ret (v := .tuple #[.agg #[.int .i64 0, .int .i64 0, .string ⟨#[]⟩], .int .i64 0, .bool false]) (by simp [results, Try.results64, go_sem]) rfl (GetPost.none Hr.out ?_)
        repeat' (first | exact Below.refl _ _ | refine Below.alloc ?_ (by simp <;> omega) _ | refine Below.setCell ?_ (by simp) _)
      | true =>
        have hrv' : rightV 2 0 (strB q) = true := hrb.trans hrv
        have Hr : Hid (refV (2 :: d :: t) = some (⟨2, 0, q⟩, 2 + d.toNat)) := by show _ = _; rw [hr, hrv]; rfl
        clear hr hrv hv1 hb1 h hl hdr hbw hbig hdW hb2 hv2 ed hq htk hqs hrb
        go_enter Try.func64, Try.ntmps64
        go_wp2_with (go_at_call 35; (with_reducible refine (rright_calls _ _ _ _ Hqs.out).mono ?_); rintro e wq ⟨rfl, rfl⟩)
        refine bodyPost_ret (v := .tuple #[.agg #[.int .i64 2, .int .i64 0, .string (strB q)], .int .i64 (2 + (d.toNat : Int)), .bool true]) (by simp [results, Try.results64, go_sem]) rfl (GetPost.mk Hr.out rfl rfl rfl (by omega) ?_)
        repeat' (first | exact Below.refl _ _ | refine Below.alloc ?_ (by simp <;> omega) _ | refine Below.setCell ?_ (by simp) _)
  by_cases h3 : x.toNat = 3
  · obtain rfl : x = 3 := u8_eq h3
    have hr := refV_3 d t
    have hdW2 := hdW 3
    cases hrv : rightB ⟨3, (d.toNat : Int), []⟩ with
    | false =>
      have hrv' : rightV 3 (d.toNat : Int) ⟨#[]⟩ = false := hrv
      have Hr : Hid (refV (3 :: d :: t) = none) := by show _ = _; rw [hr, hrv]; rfl
      clear hr hrv hv1 hb1 h hl hdr hbw hdW
      go_enter Try.func64, Try.ntmps64
      go_wp2_with (go_at_call 35; (with_reducible refine (rright_calls _ _ _ _ Hse.out).mono ?_); rintro e wq ⟨rfl, rfl⟩)
      refine bodyPost_ret (v := .tuple #[.agg #[.int .i64 0, .int .i64 0, .string ⟨#[]⟩], .int .i64 0, .bool false]) (by simp [results, Try.results64, go_sem]) rfl (GetPost.none Hr.out ?_)
      repeat' (first | exact Below.refl _ _ | refine Below.alloc ?_ (by simp <;> omega) _ | refine Below.setCell ?_ (by simp) _)
    | true =>
      have hrv' : rightV 3 (d.toNat : Int) ⟨#[]⟩ = true := hrv
      have Hr : Hid (refV (3 :: d :: t) = some (⟨3, d.toNat, []⟩, 2)) := by show _ = _; rw [hr, hrv]; rfl
      clear hr hrv hv1 hb1 h hl hdr hbw hdW
      go_enter Try.func64, Try.ntmps64
      go_wp2_with (go_at_call 35; (with_reducible refine (rright_calls _ _ _ _ Hse.out).mono ?_); rintro e wq ⟨rfl, rfl⟩)
      refine bodyPost_ret (v := .tuple #[.agg #[.int .i64 3, .int .i64 (d.toNat : Int), .string ⟨#[]⟩], .int .i64 2, .bool true]) (by simp [results, Try.results64, go_sem]) rfl (GetPost.mk Hr.out rfl rfl rfl rfl ?_)
      repeat' (first | exact Below.refl _ _ | refine Below.alloc ?_ (by simp <;> omega) _ | refine Below.setCell ?_ (by simp) _)
  · have Hr : Hid (refV (x :: d :: t) = none) := refV_else d t h1 h2 h3
    have hrv' : rightV (x.toNat : Int) 0 ⟨#[]⟩ = false := rightV_not (by omega) (by omega) (by omega)
    have k1 : ((x.toNat : Int) == 1) = false := by rw [beq_eq_false_iff_ne]; omega
    have k2 : ((x.toNat : Int) == 2) = false := by rw [beq_eq_false_iff_ne]; omega
    have k3 : ((x.toNat : Int) == 3) = false := by rw [beq_eq_false_iff_ne]; omega
    clear hv1 hb1 h hl hdr hbw hdW
    go_enter Try.func64, Try.ntmps64
    go_wp2_with (go_at_call 35; (with_reducible refine (rright_calls _ _ _ _ Hse.out).mono ?_); rintro e wq ⟨rfl, rfl⟩)
    refine bodyPost_ret (v := .tuple #[.agg #[.int .i64 0, .int .i64 0, .string ⟨#[]⟩], .int .i64 0, .bool false]) (by simp [results, Try.results64, go_sem]) rfl (GetPost.none Hr.out ?_)
    repeat' (first | exact Below.refl _ _ | refine Below.alloc ?_ (by simp <;> omega) _ | refine Below.setCell ?_ (by simp) _)

end Go.Proofs.Ytppgecbjdkfohaa

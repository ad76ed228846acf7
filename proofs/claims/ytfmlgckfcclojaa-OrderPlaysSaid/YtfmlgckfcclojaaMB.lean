/- Both laws of the order that are proved so far. -/
import Derived.Test.YtfmlgckfcclojaaMA
import Derived.Lib.AppendZeros
namespace Go.Proofs.Ytfmlgckfcclojaa
open Go.ChangeShapes Go.WideShapes Go.ChangeAt Go.RowKit Go.Lib Go.Deep
open Go.ChangeMaps (open_string shut_string)

namespace orderDue
set_option maxRecDepth 100000 in
theorem lifted (os : Os) (started : os.Started) (H : Type) (enc : TypeId × Value → H) :
    ReturnsInHanded {} Try.checked os 13 .any (Rows.orderDueSpec.pre6 enc Try.prog Try.f13 Rows.orderDueRow.domain false) (Rows.orderDueSpec.post enc Try.prog Try.f13 false true false false) := by
  refine returnsInHanded_of_change (C := Try.checked) eown_ started (by kernel_rfl) Try.func13
    (ChangeSpec.witness6 (enc := enc) (C := Try.checked) false ⟨#[], #[.slice none 0 0, .int .i64 0], []⟩ 8 (by kernel_rfl) (by kernel_rfl) (by kernel_rfl) (by kernel_rfl)) ?_
  intro W base args ds gs before hval0 hW _ _
  have hval : ∀ (j : Nat) t v, Try.f13.params[j]? = some t → args[j]? = some v → Value.okWide Try.prog W .any base t v := hval0
  have hW' := hW
  obtain ⟨p, q, hA0, hV, rfl, _, _⟩ := hW
  have hA : DataW.TrodAll enc Try.prog W 0 (fun _ => true) true Try.f13.params.toList args.toList ds p := hA0
  rw [Try.params13] at hA hval
  obtain ⟨v0, vs0, d0, ds0, p0, q0, hargs, rfl, rfl, h0, r0⟩ := trodAll_cons hA
  obtain ⟨v1, vs1, d1, ds1, p1, q1, rfl, rfl, rfl, h1, r1⟩ := trodAll_cons r0
  obtain ⟨rfl, rfl, rfl⟩ := trodAll_nil r1
  obtain rfl : args = #[v0, v1] := by cases args; simp_all
  obtain ⟨rfl, rfl⟩ := trodVars_none hV
  have lt0 : ∀ x ∈ p0, x.block < W.heap.size := by obtain ⟨m, hm⟩ := h0; exact DataW.trod_lt m _ _ _ hm
  have lt1 : ∀ x ∈ p1, x.block < W.heap.size := by obtain ⟨m, hm⟩ := h1; exact DataW.trod_lt m _ _ _ hm
  have k0 := h0
  have k1 := h1
  obtain ⟨a0, l0, c0, rfl⟩ := okWide_slice Try.underlying66 (hval 0 66 v0 rfl rfl)
  obtain ⟨n1, rfl, _, _, hw1⟩ := open_int Try.underlying2 (hval 1 2 v1 rfl rfl) h1
  have hn1 : (-9223372036854775808 : Int) ≤ n1 ∧ n1 ≤ 9223372036854775807 := by
    have h8 : (decide ((-9223372036854775808 : Int) ≤ n1) && decide (n1 ≤ 9223372036854775807)) = true := hw1
    simpa using h8
  obtain ⟨m0, hm0⟩ := h0
  obtain ⟨es0, rfl, hl0, hr0⟩ := open_events hm0
  clear hA0 hval0
  refine (due_walk W a0 c0 es0 hr0 hl0 n1).mono fun e W' ⟨he, bel⟩ => ?_
  subst he
  exact ⟨_, rfl, _, _, _, [], _, [], hW', trodAll_mk1 (shut_bool Try.underlying4 _), (trodAll_cons_mk (Below.trod elaidOut (by kernel_rfl) (of_decide_eq_true (by kernel_rfl)) k0 bel lt0) (trodAll_cons_mk (Below.trod elaidOut (by kernel_rfl) (of_decide_eq_true (by kernel_rfl)) k1 bel lt1) trodAll_mk0)), rfl, bel.frame _, fun h => by cases h⟩

theorem holds : Rows.OrderDueSaid :=
  OpenClaim.holds_of_wide 13 Try.f13 rfl rfl rfl rfl rfl rfl rfl ⟨rfl, rfl, rfl, rfl, rfl⟩ rfl rfl rfl rfl rfl (by kernel_rfl) Try.func13 (by kernel_rfl)
    (of_decide_eq_true (by kernel_rfl)) (by unfold Func.isWrapper; first | (rw [if_pos (by decide +kernel)]; kernel_rfl) | (rw [if_neg (by decide +kernel)]; exact ⟨rfl, rfl⟩))
    (fun os started H enc _ => lifted os started H enc)
end orderDue
end Go.Proofs.Ytfmlgckfcclojaa
namespace Go.Proofs.Ytfmlgckfcclojaa
open Go.RowKit Go.Lib Go.Op

/-- A buffer of owner k, in a law's walk. -/
structure OBk (w : World) (own : Nat → Nat) (k bb : Nat) (T : Int) (M : List Core) : Prop where
  ex : ∃ L, Buf w own k bb T L ∧ L.map EIn.core = M

theorem OBk.step {w w' : World} {K : Nat → Prop} {own own' : Nat → Nat} {k bb : Nat} {T : Int} {M : List Core} (h : OBk w own k bb T M) (hs : OStep K own own' w w') (h1 : ¬ K k) (h0 : ¬ K 0) : OBk w' own' k bb T M := by
  obtain ⟨L, hL, hm⟩ := h.ex
  exact ⟨⟨L, hL.step hs h1 h0, hm⟩⟩
theorem OBk.len {w : World} {own : Nat → Nat} {k bb : Nat} {T : Int} {M : List Core} (h : OBk w own k bb T M) : M.length ≤ 256 := by
  obtain ⟨L, h1, h2⟩ := h.ex
  rw [← h2, List.length_map]
  exact h1.len
theorem OBk.sort {w : World} {own : Nat → Nat} {k bb : Nat} {T : Int} {M : List Core} (h : OBk w own k bb T M) : M.Pairwise (fun a b => lessC a b = true) := by
  obtain ⟨L, h1, rfl⟩ := h.ex
  rw [List.pairwise_map]
  exact h1.sort
theorem OBk.right {w : World} {own : Nat → Nat} {k bb : Nat} {T : Int} {M : List Core} (h : OBk w own k bb T M) : ∀ c ∈ M, rightC c = true := by
  obtain ⟨L, h1, rfl⟩ := h.ex
  intro c hc
  obtain ⟨x, hx, rfl⟩ := List.mem_map.1 hc
  exact (h1.vals x hx).2.2

/-- What a law holds beside: nothing of what was there ahead has changed, and nobody owns it, nor what comes. -/
structure OWd (w0 w : World) (own : Nat → Nat) : Prop where
  oz : OZ w own
  hb : Below w0.heap.size w0 w
  zo : ∀ b, b < w0.heap.size → own b = 0
theorem OWd.step {w0 w w' : World} {K : Nat → Prop} {own own' : Nat → Nat} (h : OWd w0 w own) (hs : OStep K own own' w w') (h0 : ¬ K 0) (hz : OZ w' own') : OWd w0 w' own' :=
  ⟨hz, h.hb.trans ⟨hs.fr.os, hs.fr.tape, hs.fr.output, hs.fr.size, fun b hb => hs.fr.block b (Nat.lt_of_lt_of_le hb h.hb.size) (by rw [h.zo b hb]; exact h0)⟩, fun b hb => (hs.own b (Nat.lt_of_lt_of_le hb h.hb.size)).trans (h.zo b hb)⟩
theorem OWd.below {w0 w w' : World} {own : Nat → Nat} (h : OWd w0 w own) (hb : Below w.heap.size w w') : OWd w0 w' own := h.step (K := fun _ => False) (OStep.of_below hb) (fun h => h) (h.oz.step hb.size)
theorem OBk.below {w w' : World} {own : Nat → Nat} {k bb : Nat} {T : Int} {M : List Core} (h : OBk w own k bb T M) (hb : Below w.heap.size w w') : OBk w' own k bb T M := h.step (K := fun _ => False) (OStep.of_below hb) (fun h => h) (fun h => h)

def PutK (w0 w : World) (own : Nat → Nat) (k bb : Nat) (T : Int) (M : List Core) (c : Core) (e : Ending) (w' : World) : Prop :=
  ∃ own', e = .returned (.int .i64 (putCC T M c)) ∧ OBk w' own' k bb T (putWC T M c) ∧ OStep (fun j => j = k) own own' w w' ∧ OWd w0 w' own'
theorem OBk.put {w0 w : World} {own : Nat → Nat} {k bb : Nat} {T : Int} {M : List Core} (h : OBk w own k bb T M) (hk : k ≠ 0) (ho : OWd w0 w own) (y : EIn) (hy : VRow w y.a y.vs) (hn : y.nm.size ≤ maxLen) (hl : y.vs.length ≤ maxLen) :
    Calls Try.prog 43 #[.pointer (some ⟨bb, 0, none⟩), y.v] w (PutK w0 w own k bb T M y.core) := by
  obtain ⟨L, hL, rfl⟩ := h.ex
  refine (oput_calls hL hk y hy hn hl).mono ?_
  rintro e w' ⟨own', L', rfl, h1, h2, h3, h4⟩
  exact ⟨own', by rw [putC_core], ⟨⟨L', h2, by rw [h3, putW_core]⟩⟩, h1, ho.step h1 (fun e => hk e.symm) (h4 ho.oz)⟩

def AdvK (w0 w : World) (own : Nat → Nat) (k bb : Nat) (T : Int) (M : List Core) (time : Int) (e : Ending) (w' : World) : Prop :=
  ∃ v, e = .returned (.tuple #[v, .int .i64 (advC T time)]) ∧ OBk w' own k bb (advT T time) (advWC T M time) ∧ ERow w' own v (advEC T M time) ∧ OStep (fun j => j = k) own own w w' ∧ OWd w0 w' own
theorem OBk.adv {w0 w : World} {own : Nat → Nat} {k bb : Nat} {T : Int} {M : List Core} (h : OBk w own k bb T M) (hk : k ≠ 0) (ho : OWd w0 w own) (time : Int) :
    Calls Try.prog 40 #[.pointer (some ⟨bb, 0, none⟩), .int .i64 time] w (AdvK w0 w own k bb T M time) := by
  obtain ⟨L, hL, rfl⟩ := h.ex
  refine (oadvance_calls hL hk ho.oz time).mono ?_
  rintro e w' ⟨v, es, rfl, h1, h2, h3, h4⟩
  exact ⟨v, rfl, ⟨⟨_, h2, advW_core _ _ _⟩⟩, ⟨es, h3, by rw [h4, advE_core]⟩, h1, ho.step h1 (fun e => hk e.symm) (ho.oz.step h1.fr.size)⟩
theorem OBk.wait {w0 w : World} {own : Nat → Nat} {k bb : Nat} {T : Int} {M : List Core} (h : OBk w own k bb T M) (ho : OWd w0 w own) :
    Calls Try.prog 47 #[.pointer (some ⟨bb, 0, none⟩)] w (WaitQ w own M) := by
  obtain ⟨L, hL, rfl⟩ := h.ex
  refine (owaiting_calls hL ho.oz).mono ?_
  rintro e w' ⟨v, es, rfl, h1, h2, h3⟩
  exact ⟨v, rfl, h1, ⟨es, h2, h3⟩⟩
theorem OBk.time {w : World} {own : Nat → Nat} {k bb : Nat} {T : Int} {M : List Core} (h : OBk w own k bb T M) :
    Calls Try.prog 45 #[.pointer (some ⟨bb, 0, none⟩)] w fun e w' => e = .returned (.int .i64 T) ∧ w = w' := by
  obtain ⟨L, hL, rfl⟩ := h.ex
  exact otime_calls hL
def NewK (w0 w : World) (own : Nat → Nat) (k : Nat) (e : Ending) (w' : World) : Prop :=
  ∃ own', e = .returned (.pointer (some ⟨w.heap.size, 0, none⟩)) ∧ OStep (fun _ => False) own own' w w' ∧ OBk w' own' k w.heap.size (-1) [] ∧ OWd w0 w' own'
theorem OWd.new {w0 w : World} {own : Nat → Nat} (h : OWd w0 w own) (k : Nat) : Calls Try.prog 37 #[] w (NewK w0 w own k) := by
  refine (onew_calls w own k).mono ?_
  rintro e w' ⟨own', rfl, h1, h2, h3, _⟩
  exact ⟨own', rfl, h1, ⟨⟨[], h2, rfl⟩⟩, h.step h1 (fun h => h) (h3 h.oz)⟩

theorem VRow.ofr2 {K : Nat → Prop} {w w' : World} (h : OFr K w w') {a : Option Addr} {vs : List VIn} (hv : VRow w a vs) (hK : ∀ A, a = some A → vs ≠ [] → ¬ K A.block) : VRow w' a vs := by
  cases vs with
  | nil => exact fun j x hj => by simp at hj
  | cons v t => exact hv.ofr h (fun A hA => hK A hA (by simp))

/-- Events in a row that k owns; their values nobody writes. -/
structure KRow (w : World) (own : Nat → Nat) (k : Nat) (v : Value) (es : List EIn) : Prop where
  row : w.ownsRow 0 25 5 v es.length (flat es)
  own' : ∀ g, v.ownBlock = some g → own g = k
  vals : ∀ x ∈ es, VRow w x.a x.vs ∧ (∀ A, x.a = some A → x.vs ≠ [] → A.block < w.heap.size ∧ own A.block = 0) ∧ x.vs.length ≤ maxLen ∧ x.nm.size ≤ maxLen

theorem KRow.nil (w : World) (own : Nat → Nat) (k : Nat) : KRow w own k (.slice none 0 0) [] := ⟨World.ownsRow_nil _ _ _ _, (fun g hg => by cases hg), (fun x hx => by cases hx)⟩
theorem KRow.step {K : Nat → Prop} {w w' : World} {own own2 : Nat → Nat} {k : Nat} {v : Value} {es : List EIn} (h : KRow w own k v es) (hs : OStep K own own2 w w') (hk : ¬ K k) (h0 : ¬ K 0) : KRow w' own2 k v es where
  row := eowns_of_block h.row (fun g hg => hs.fr.block g (h.row.lt g hg).2 (by rw [h.own' g hg]; exact hk))
  own' g hg := (hs.own g (h.row.lt g hg).2).trans (h.own' g hg)
  vals x hx := by
    obtain ⟨h1, h2, h3⟩ := h.vals x hx
    exact ⟨h1.ofr2 hs.fr (fun A hA hn => by rw [(h2 A hA hn).2]; exact h0), fun A hA hn => ⟨Nat.lt_of_lt_of_le (h2 A hA hn).1 hs.fr.size, (hs.own _ (h2 A hA hn).1).trans (h2 A hA hn).2⟩, h3⟩
theorem KRow.below {w w' : World} {own : Nat → Nat} {k : Nat} {v : Value} {es : List EIn} (h : KRow w own k v es) (hb : Below w.heap.size w w') : KRow w' own k v es := h.step (K := fun _ => False) (OStep.of_below hb) (fun h => h) (fun h => h)
theorem KRow.slice {w : World} {own : Nat → Nat} {k : Nat} {v : Value} {es : List EIn} (h : KRow w own k v es) : ∃ a c, v = .slice a es.length c ∧ EvRow w a es := by
  obtain ⟨a, c, rfl⟩ := vowns_slice h.row
  exact ⟨a, c, rfl, ECells.of_owns h.row rfl, fun x hx => ⟨(h.vals x hx).1, (h.vals x hx).2.2⟩⟩

/-- Where values lie that came in. -/
theorem VRow.lt {w : World} {a : Option Addr} {vs : List VIn} (h : VRow w a vs) {A : Addr} (hA : a = some A) (hn : vs ≠ []) : A.block < w.heap.size := by
  cases vs with
  | nil => exact absurd rfl hn
  | cons v0 t =>
    obtain ⟨A', e, h0, _⟩ := h 0 v0 rfl
    rw [hA] at e
    injection e with e
    have := World.block_lt_of_cell? _ _ h0
    rw [oadd_block, ← e] at this
    exact this

/-- Events appended to it, run: what lies in cells that may be read. -/
theorem KRow.append {w : World} {own : Nat → Nat} {k : Nat} {v : Value} {es : List EIn} (h : KRow w own k v es) (hk : k ≠ 0) (hz : OZ w own) (xs : List EIn) (hl : es.length + xs.length ≤ 100000) (hxs : ∀ x ∈ xs, VRow w x.a x.vs ∧ (∀ A, x.a = some A → x.vs ≠ [] → A.block < w.heap.size ∧ own A.block = 0) ∧ x.vs.length ≤ maxLen ∧ x.nm.size ≤ maxLen)
    (A : Addr) (c : Nat) (hsrc : ∀ j u, (flat xs)[j]? = some u → w.cell? (A.add j) = some u) (ty : TypeId) :
    ∃ v' w' own', (Builtin.append_ #[66, 66] ty #[v, .slice (some A) xs.length c]).run Try.prog w = .ok v' w' ∧ KRow w' own' k v' (es ++ xs) ∧ OStep (fun j => j = k) own own' w w' ∧ OZ w' own' := by
  obtain ⟨i0, hi, hz0, hz1, hz2⟩ := info_parts infoE
  obtain ⟨v', w', hr, h2, h3, _, h5⟩ := run_append_own_at (P := Try.prog) w 0 66 ty 25 i0 _ 5 64 Try.underlying66 hi hz0 hz1 hz2 rfl (by decide) v es.length (flat es) h.row A xs.length c (flat xs) (flat_len xs) hsrc (flat_one xs) (by unfold maxLen; omega) (by omega) (Nat.zero_le _)
  have hs3 := h3.size
  have hob : ∀ g, v'.ownBlock = some g → (g < w.heap.size ∧ own g = k) ∨ g = w.heap.size := fun g hg => by
    rcases h5 with e | e
    · rw [e] at hg; exact .inl ⟨(h.row.lt g hg).2, h.own' g hg⟩
    · rw [e] at hg; injection hg with hg; exact .inr hg.symm
  obtain ⟨own', hown⟩ : ∃ own' : Nat → Nat, own' = fun b => if v'.ownBlock = some b then k else own b := ⟨_, rfl⟩
  have own_row : ∀ g, v'.ownBlock = some g → own' g = k := fun g hg => by rw [hown]; exact if_pos hg
  have own_old : ∀ b, b < w.heap.size → own' b = own b := fun b hb => by
    rw [hown]
    dsimp only
    by_cases e : v'.ownBlock = some b
    · rw [if_pos e]
      rcases hob b e with h1 | h1
      · exact h1.2.symm
      · omega
    · rw [if_neg e]
  have hst : OStep (fun j => j = k) own own' w w' := ⟨OFr.of_grown h3 (fun g hg => h.own' g hg), own_old⟩
  have key : ∀ x : EIn, (VRow w x.a x.vs ∧ (∀ A, x.a = some A → x.vs ≠ [] → A.block < w.heap.size ∧ own A.block = 0) ∧ x.vs.length ≤ maxLen ∧ x.nm.size ≤ maxLen) → VRow w' x.a x.vs ∧ (∀ A, x.a = some A → x.vs ≠ [] → A.block < w'.heap.size ∧ own' A.block = 0) ∧ x.vs.length ≤ maxLen ∧ x.nm.size ≤ maxLen := fun x ⟨e1, e2, e3⟩ =>
    ⟨e1.ofr2 hst.fr (fun A hA hn => by rw [(e2 A hA hn).2]; exact fun e => hk e.symm), fun A hA hn => ⟨Nat.lt_of_lt_of_le (e2 A hA hn).1 hs3, (own_old _ (e2 A hA hn).1).trans (e2 A hA hn).2⟩, e3⟩
  refine ⟨v', w', own', hr, ⟨?_, own_row, fun x hx => ?_⟩, hst, fun b hb => ?_⟩
  · rw [flat_append, List.length_append]
    exact h2
  · rcases List.mem_append.1 hx with hx | hx
    · exact key x (h.vals x hx)
    · exact key x (hxs x hx)
  · rw [hown]
    dsimp only
    rw [if_neg (fun e => by have := (h2.lt b e).2; omega)]
    exact hz b (by omega)

end Go.Proofs.Ytfmlgckfcclojaa
namespace Go.Proofs.Ytfmlgckfcclojaa
open Go.RowKit Go.Lib Go.Op

theorem lessC_trans (x y z : Core) (h : lessC x y = true) (h' : lessC y z = true) : lessC x z = true := by
  simp only [lessC, lessE, decide_eq_true_eq] at h h' ⊢
  omega
theorem lessC_asym (x y : Core) (h : lessC x y = true) : lessC y x = false := by
  simp only [lessC, lessE, decide_eq_true_eq, decide_eq_false_iff_not] at h ⊢
  omega
theorem lessC_irr (x : Core) : lessC x x = false := by
  simp only [lessC, lessE, decide_eq_false_iff_not]
  omega
/-- One of two is ahead. -/
def apartC (a b : Core) : Prop := lessC a b = true ∨ lessC b a = true
theorem sorted_apart {M : List Core} (h : M.Pairwise (fun a b => lessC a b = true)) : M.Pairwise apartC := h.imp (fun h => .inl h)

theorem sorted_unique : ∀ {M N : List Core}, M.Pairwise (fun a b => lessC a b = true) → N.Pairwise (fun a b => lessC a b = true) → M.Perm N → M = N
  | [], N, _, _, h => by
    have := h.length_eq
    exact (List.eq_nil_of_length_eq_zero this.symm).symm
  | a :: M, [], _, _, h => by have := h.length_eq; simp at this
  | a :: M, b :: N, h1, h2, h => by
    rw [List.pairwise_cons] at h1 h2
    have hab : a = b := by
      have ha : a ∈ b :: N := h.mem_iff.1 (by simp)
      have hb : b ∈ a :: M := h.mem_iff.2 (by simp)
      rcases List.mem_cons.1 ha with e | ha
      · exact e
      · rcases List.mem_cons.1 hb with e | hb
        · exact e.symm
        · have e1 := h2.1 a ha
          have e2 := h1.1 b hb
          rw [lessC_asym _ _ e1] at e2
          cases e2
    subst hab
    rw [sorted_unique h1.2 h2.2 ((List.perm_cons a).1 h)]

theorem rightC_ts {c : Core} (h : rightC c = true) : 0 ≤ c.1 ∧ c.1 ≤ 1099511627776 := by
  exact (rightE_iff.1 h).1

/-- One that is apart from all that wait is taken. -/
theorem putCC_ok {T : Int} {N : List Core} {c : Core} (hr : rightC c = true) (hT : T < c.1) (hN : N.Pairwise (fun a b => lessC a b = true)) (ha : ∀ z ∈ N, apartC c z) (hl : N.length < 256) : putCC T N c = 0 := by
  unfold putCC
  rw [if_pos hr, if_neg (by omega)]
  cases hz : N[posL lessC N c]? with
  | none => simp [hl]
  | some z =>
    have hzl : lessC c z = true := by
      cases h : lessC c z with
      | true => rfl
      | false =>
        obtain ⟨y, hy, h1, h2⟩ := (there_iff lessC_trans hN).2 ⟨z, hz, h⟩
        rcases ha y hy with e | e
        · rw [h1] at e; cases e
        · rw [h2] at e; cases e
    simp [hzl, hl]
/-- What was taken is right, and comes behind the time. -/
theorem putCC_is {T : Int} {N : List Core} {c : Core} (h : putCC T N c = 0) : rightC c = true ∧ T < c.1 := by
  unfold putCC at h
  by_cases hr : rightC c = true
  · rw [if_pos hr] at h
    by_cases ht : c.1 ≤ T
    · rw [if_pos ht] at h; cases h
    · exact ⟨hr, by omega⟩
  · rw [if_neg hr] at h; cases h
theorem putWC_perm {T : Int} {N : List Core} {c : Core} (h : putCC T N c = 0) : (putWC T N c).Perm (c :: N) := by
  unfold putWC
  rw [if_pos h]
  exact insL_perm N c

/-- Of those that were taken the next one, from behind, is taken by a buffer that has all behind it. -/
theorem again_ok {M N E : List Core} {k : Nat} {c : Core} (hM : M.Pairwise (fun a b => lessC a b = true)) (hr : ∀ x ∈ M, rightC x = true) (hl : M.length ≤ 256) (hp : M.Perm E) (hN : N.Pairwise (fun a b => lessC a b = true)) (hNp : N.Perm (E.drop (k + 1))) (hc : E[k]? = some c) :
    putCC (-1) N c = 0 ∧ (putWC (-1) N c).Perm (E.drop k) := by
  have hk := (List.getElem?_eq_some_iff.1 hc).1
  have hd : E.drop k = c :: E.drop (k + 1) := by
    rw [List.drop_eq_getElem_cons hk]
    rw [List.getElem?_eq_getElem hk] at hc
    injection hc with hc
    rw [hc]
  have hap : E.Pairwise apartC := (hp.pairwise_iff (fun {_ _} h => h.symm)).1 (sorted_apart hM)
  have h1 : ∀ z ∈ E.drop (k + 1), apartC c z := by
    have h2 := hap.sublist (List.drop_sublist k E)
    rw [hd, List.pairwise_cons] at h2
    exact h2.1
  have hrc : rightC c = true := hr c (hp.mem_iff.2 (List.mem_of_getElem? hc))
  have hlen := hp.length_eq
  have hnl := hNp.length_eq
  rw [List.length_drop] at hnl
  have h0 := putCC_ok (T := -1) hrc (by have := (rightC_ts hrc).1; omega) hN (fun z hz => h1 z (hNp.mem_iff.1 hz)) (by omega)
  refine ⟨h0, ?_⟩
  rw [hd]
  exact (putWC_perm h0).trans (hNp.cons c)

/-- Numbers in a row. -/
def NumRow (w : World) (a : Option Addr) (ns : List Int) : Prop := ∀ j n, ns[j]? = some n → ∃ A, a = some A ∧ w.cell? (A.add j) = some (.int .i64 n)
theorem NumRow.below {w w' : World} {a : Option Addr} {ns : List Int} (h : NumRow w a ns) (hb : Below w.heap.size w w') : NumRow w' a ns := fun j n hj => by
  obtain ⟨A, e, h1⟩ := h j n hj
  exact ⟨A, e, ekeep hb h1⟩

end Go.Proofs.Ytfmlgckfcclojaa
namespace Go.Proofs.Ytfmlgckfcclojaa
open Go.RowKit Go.Lib Go.Op

/-- What is held while events come. -/
structure AnyS (w wr : World) (own : Nat → Nat) (ba bb : Nat) (M N : List Core) (v : Value) (es : List EIn) : Prop where
  a : OBk wr own 1 ba (-1) M
  b : OBk wr own 2 bb (-1) N
  r : KRow wr own 3 v es
  o : OWd w wr own
  p : M.Perm (es.map EIn.core)
theorem AnyS.below {w wr w' : World} {own : Nat → Nat} {ba bb : Nat} {M N : List Core} {v : Value} {es : List EIn} (h : AnyS w wr own ba bb M N v es) (hb : Below wr.heap.size wr w') : AnyS w w' own ba bb M N v es := ⟨h.a.below hb, h.b.below hb, h.r.below hb, h.o.below hb, h.p⟩

theorem fits1000 {N : List Core} (h : ∀ c ∈ N, rightC c = true) : ∀ c ∈ N, c.2.2.2.2.length ≤ 1000 := fun c hc => by
  have h1 := (rightE_iff.1 (h c hc)).2.2.2.2.1
  have h2 : c.2.2.2.2.length ≤ 8 := by simpa [pe] using h1
  omega
theorem advEC_mem {T : Int} {M : List Core} {time : Int} {c : Core} (h : c ∈ advEC T M time) : c ∈ M := by
  unfold advEC at h
  split at h
  · exact (List.takeWhile_prefix _).subset h
  · cases h
theorem advEC_len {T : Int} {M : List Core} {time : Int} : (advEC T M time).length ≤ M.length := by
  unfold advEC
  split
  · exact (List.takeWhile_prefix _).length_le
  · exact Nat.zero_le _

set_option maxHeartbeats 2000000 in
set_option maxRecDepth 100000 in
theorem any_walk (w : World) (a : Option Addr) (c : Nat) (l : List EIn) (hl : EvRow w a l) (hn : l.length ≤ maxLen) (ta : Option Addr) (tc : Nat) (ns : List Int) (ht : NumRow w ta ns) (htn : ns.length ≤ maxLen) :
    Calls Try.prog 11 #[.slice a l.length c, .slice ta ns.length tc] w fun e w' => e = .returned (.bool true) ∧ Below w.heap.size w w' := by
  have HH := Lib.hid (ohead_calls w)
  have HL := Lib.hid hl
  have HT := Lib.hid ht
  obtain ⟨n, hnn⟩ : ∃ n, l.length = n := ⟨_, rfl⟩
  obtain ⟨q, hqq⟩ : ∃ q, ns.length = q := ⟨_, rfl⟩
  have Hn := Lib.hid hnn
  have Hq := Lib.hid hqq
  rw [hnn] at hn ⊢
  rw [hqq] at htn ⊢
  unfold maxLen at hn htn
  clear hl hnn ht hqq
  go_enter Try.func11, Try.ntmps11
  go_wp2_with fail
  with_reducible refine HH.out.mono ?_
  rintro e w1 ⟨rfl, hb1⟩
  have HO1 : Hid (OWd w w1 (fun _ => 0)) := ⟨fun _ _ => rfl, hb1, fun _ _ => rfl⟩
  clear HH hb1
  have HN := Lib.hid (HO1.out.new 1)
  go_wp2_with fail
  refine HN.out.mono ?_
  rintro e w2 ⟨own2, rfl, _, ha2, ho2⟩
  have HA2 := Lib.hid ha2
  have HO2 := Lib.hid ho2
  clear HN ha2 ho2
  have HN := Lib.hid (HO2.out.new 2)
  go_wp2_with fail
  refine HN.out.mono ?_
  rintro e w3 ⟨own3, rfl, hs3, hb3, ho3⟩
  have HS : Hid (AnyS w w3 own3 w1.heap.size w2.heap.size [] [] (.slice none 0 0) []) := ⟨HA2.out.step hs3 (fun h => h) (fun h => h), hb3, KRow.nil _ _ _, ho3, List.Perm.refl _⟩
  clear HN hs3 hb3 ho3 HA2
  obtain ⟨ba, hba⟩ : ∃ ba, w1.heap.size = ba := ⟨_, rfl⟩
  obtain ⟨bb, hbb⟩ : ∃ bb, w2.heap.size = bb := ⟨_, rfl⟩
  rw [hba, hbb] at HS ⊢
  clear hba hbb HO1 HO2
  by_cases h200 : 200 < n
  · have hd : decide (200 < (n : Int)) = true := by simp; omega
    go_wp2
    go_ret
    exact ⟨rfl, HS.out.o.hb⟩
  have hd : decide (200 < (n : Int)) = false := by simp; omega
  by_cases h100 : 100 < q
  · have hd : decide (100 < (q : Int)) = true := by simp; omega
    go_wp2
    go_ret
    exact ⟨rfl, HS.out.o.hb⟩
  have hd3 : decide (100 < (q : Int)) = false := by simp; omega
  go_wp2_with fail
  go_loopw [8, 9] (fun x i wr => ∃ (k : Nat) (own : Nat → Nat) (M : List Core) (va : Option Addr) (vc : Nat) (es : List EIn), i = .int .i64 k ∧ x = .slice va es.length vc ∧ k ≤ n ∧ Hid (AnyS w wr own ba bb M [] (.slice va es.length vc) es) ∧ es.length ≤ k) (fun _ i _ => n - (intOf i).toNat)
  case atStart => exact ⟨0, own3, [], none, 0, [], rfl, rfl, Nat.zero_le _, HS, Nat.le_refl _⟩
  case round =>
    obtain ⟨k, own, M, va, vc, es, rfl, rfl, hk, HO, hek⟩ := hrel
    by_cases hlt : k < n
    · obtain ⟨x, hx⟩ : ∃ x, l[k]? = some x := ⟨_, List.getElem?_eq_getElem (by rw [Hn.out]; exact hlt)⟩
      have hxv := HL.out.2 x (List.mem_of_getElem? hx)
      have hxo : ∀ A, x.a = some A → True := fun _ _ => trivial
      have hce : ∀ W, Below w.heap.size w W → ∃ A, a = some A ∧ W.cell? (A.add (k * 5)) = some (.int .i64 x.ts) ∧ W.cell? (efld A 5 k 1) = some (.int .i64 x.dep) ∧ W.cell? (efld A 5 k 2) = some (.int .i64 x.seq) ∧ W.cell? (efld A 5 k 3) = some (.string x.nm) ∧ W.cell? (efld A 5 k 4) = some (.slice x.a x.vs.length x.c) := fun W hW => (HL.out.below hW).1 k x hx
      have HCE := Lib.hid hce
      obtain ⟨A, rfl, c0, c1, c2, c3, c4⟩ := hce wr HO.out.o.hb
      unfold efld at c1 c2 c3 c4
      have HGE : Hid (Calls Try.prog 16 #[evV x.ts x.dep x.seq x.nm (.slice x.a x.vs.length x.c)] wr (GreatP wr)) := greatE_calls x.ts x.dep x.seq x.nm x.a x.c x.vs wr hxv.2.2 (hxv.1.below HO.out.o.hb) hxv.2.1
      have HPU : Hid (∀ W, Below wr.heap.size wr W → Calls Try.prog 43 #[.pointer (some ⟨ba, 0, none⟩), evV x.ts x.dep x.seq x.nm (.slice x.a x.vs.length x.c)] W (PutK w W own 1 ba (-1) M x.core)) := fun W hW => (HO.out.a.below hW).put (by decide) (HO.out.o.below hW) x (hxv.1.below (HO.out.o.below hW).hb) hxv.2.2 hxv.2.1
      obtain ⟨z, hz⟩ : ∃ z, putCC (-1) M x.core = z := ⟨_, rfl⟩
      have Hz := Lib.hid hz
      have HX := Lib.hid hxv
      obtain ⟨vl, hvl⟩ : ∃ vl, x.vs.length = vl := ⟨_, rfl⟩
      have Hvl := Lib.hid hvl
      rw [hvl] at c4 HGE HPU HCE
      have hk0 : (0 : Int) ≤ (k : Int) := by omega
      have hk1 : (k : Int) < (n : Int) := by omega
      clear hx hxv hce hz hvl hxo
      go_wp2_with fail
      with_reducible refine HGE.out.mono ?_
      rintro e w3 ⟨g, rfl, hb3⟩
      have HB3 := Lib.hid hb3
      clear HGE hb3
      cases g with
      | true =>
        go_wp2
        go_ret
        exact ⟨rfl, (HO.out.o.below HB3.out).hb⟩
      | false =>
      have c0 := ekeep HB3.out c0
      have c1 := ekeep HB3.out c1
      have c2 := ekeep HB3.out c2
      have c3 := ekeep HB3.out c3
      have c4 := ekeep HB3.out c4
      go_wp2_with fail
      with_reducible refine (HPU.out _ HB3.out).mono ?_
      rintro e w4 ⟨own4, rfl, h4, hs4, ho4⟩
      have HA4 := Lib.hid h4
      have HO4 := Lib.hid ho4
      have HR4 := Lib.hid ((HO.out.r.below HB3.out).step hs4 (by decide) (by decide))
      have HBb4 := Lib.hid ((HO.out.b.below HB3.out).step hs4 (by decide) (by decide))
      rw [Hz.out]
      clear h4 hs4 ho4 HPU c0 c1 c2 c3 c4
      by_cases hz0 : z = 0
      · subst hz0
        obtain ⟨A', e1, c0, c1, c2, c3, c4⟩ := HCE.out w4 HO4.out.hb
        injection e1 with e1
        subst e1
        unfold efld at c1 c2 c3 c4
        have HAP : Hid (∃ a9 l9 c9 w9 own9, (Builtin.append_ #[66, 66] 66 #[.slice va es.length vc, .slice (some ⟨w4.heap.size, 0, none⟩) 1 1]).run Try.prog (w4.alloc (.cells #[.int .i64 x.ts, .int .i64 x.dep, .int .i64 x.seq, .string x.nm, .slice x.a vl x.c] 25)) = .ok (.slice a9 l9 c9) w9 ∧ Hid (AnyS w w9 own9 ba bb (putWC (-1) M x.core) [] (.slice a9 l9 c9) (es ++ [x]))) := by
          have hba := (Below.refl w4.heap.size w4).alloc (Nat.le_refl _) (.cells #[.int .i64 x.ts, .int .i64 x.dep, .int .i64 x.seq, .string x.nm, .slice x.a vl x.c] 25)
          obtain ⟨v9, w9, own9, hr9, h9, hs9, hz9⟩ := (HR4.out.below hba).append (by decide) (HO4.out.below hba).oz [x] (by simp; omega) (fun y hy => by
            rw [List.mem_singleton] at hy
            subst hy
            refine ⟨(HX.out.1.below HO4.out.hb).below hba, fun A hA hnv => ?_, HX.out.2⟩
            have hlt := HX.out.1.lt hA hnv
            have h4b := HO4.out.hb.size
            exact ⟨by simp; omega, HO4.out.zo _ hlt⟩) ⟨w4.heap.size, 0, none⟩ 1 (fun j u hj => by
              have hnew := heap_alloc_new w4 (.cells #[.int .i64 x.ts, .int .i64 x.dep, .int .i64 x.seq, .string x.nm, .slice x.a vl x.c] 25)
              refine one_src hnew j u ?_
              have : flat [x] = x.cells := by simp [flat]
              rw [this] at hj
              rw [← Hvl.out]
              exact hj) 66
          obtain ⟨a9, c9, rfl⟩ : ∃ a c, v9 = .slice a (es ++ [x]).length c := by obtain ⟨a', c', e, _⟩ := h9.slice; exact ⟨a', c', e⟩
          refine ⟨a9, _, c9, w9, own9, hr9, ⟨(HA4.out.below hba).step hs9 (by decide) (by decide), (HBb4.out.below hba).step hs9 (by decide) (by decide), h9, (HO4.out.below hba).step hs9 (by decide) hz9, ?_⟩⟩
          rw [List.map_append]
          refine (putWC_perm Hz.out).trans ((HO.out.p.cons _).trans ?_)
          exact (List.perm_append_singleton _ _).symm
        obtain ⟨a9, l9, c9, w9, own9, hr9, HF9⟩ := HAP.out
        have HL9 : Hid (l9 = (es ++ [x]).length) := by
          obtain ⟨_, _, e, _⟩ := HF9.out.r.slice
          injection e
        clear HAP
        go_wp2_with (at_builtin; refine Lib.wpList_append_run _ rfl _ _ _ _ rfl _ _ rfl rfl _ _ hr9 ?_; clear hr9)
        go_roundw
        case rel => exact ⟨k + 1, own9, _, a9, c9, es ++ [x], by go_num, by rw [HL9.out], by omega, by rw [← HL9.out]; exact HF9, by simp; omega⟩
        case measure => simp [intOf]; omega
      · have hd1 : (z == 0) = false := by rw [beq_eq_false_iff_ne]; exact hz0
        have HF : Hid (AnyS w w4 own4 ba bb M [] (.slice va es.length vc) es) := by
          have e : putWC (-1) M x.core = M := by unfold putWC; rw [if_neg (by rw [Hz.out]; exact hz0)]
          have h := HA4.out
          rw [e] at h
          exact ⟨h, HBb4.out, HR4.out, HO4.out, HO.out.p⟩
        go_wp2
        go_roundw
        case rel => exact ⟨k + 1, own4, M, va, vc, es, by go_num, rfl, by omega, HF, by omega⟩
        case measure => simp [intOf]; omega
    · obtain ⟨m, hm⟩ : ∃ m, es.length = m := ⟨_, rfl⟩
      have Hm := Lib.hid hm
      rw [hm] at HO hek ⊢
      clear hm
      go_wp2_with fail
      go_loopw [10] (fun i wr => ∃ (k : Nat) (i0 : Int) (own : Nat → Nat) (N : List Core), i = .int .i64 i0 ∧ k ≤ m ∧ i0 + 1 = (k : Int) ∧ Hid (AnyS w wr own ba bb M N (.slice va m vc) es ∧ N.Perm ((es.map EIn.core).drop k))) (fun i _ => (intOf i + 1).toNat)
      case atStart => exact ⟨m, _, own, [], rfl, Nat.le_refl _, by omega, ⟨HO.out, by rw [List.drop_of_length_le (by rw [List.length_map, Hm.out]; exact Nat.le_refl _)]⟩⟩
      case round =>
        obtain ⟨k2, i0, own2, N, rfl, hk2, hik, HS2⟩ := hrel
        by_cases h0 : 0 ≤ i0
        · obtain ⟨j, rfl⟩ : ∃ j : Nat, i0 = j := ⟨i0.toNat, by omega⟩
          obtain rfl : k2 = j + 1 := by omega
          obtain ⟨hA, hNp⟩ := HS2.out
          obtain ⟨x, hx⟩ : ∃ x, es[j]? = some x := ⟨_, List.getElem?_eq_getElem (by rw [Hm.out]; omega)⟩
          have hcx : (es.map EIn.core)[j]? = some x.core := by rw [List.getElem?_map, hx]; rfl
          obtain ⟨hz, hp⟩ := again_ok hA.a.sort hA.a.right hA.a.len hA.p hA.b.sort hNp hcx
          obtain ⟨a', c', e1, hev⟩ := hA.r.slice
          have e1' : va = a' := by injection e1
          subst e1'
          obtain ⟨A, rfl, c0, c1, c2, c3, c4⟩ := hev.1 j x hx
          have hxv := hev.2 x (List.mem_of_getElem? hx)
          unfold efld at c1 c2 c3 c4
          have HPU : Hid (Calls Try.prog 43 #[.pointer (some ⟨bb, 0, none⟩), evV x.ts x.dep x.seq x.nm (.slice x.a x.vs.length x.c)] wr (PutK w wr own2 2 bb (-1) N x.core)) := hA.b.put (by decide) hA.o x hxv.1 hxv.2.2 hxv.2.1
          have HA := Lib.hid hA
          have Hz := Lib.hid hz
          have HP := Lib.hid hp
          obtain ⟨vl, hvl⟩ : ∃ vl, x.vs.length = vl := ⟨_, rfl⟩
          rw [hvl] at c4 HPU
          have hk0 : (0 : Int) ≤ (j : Int) := by omega
          have hk1 : (j : Int) < (m : Int) := by omega
          have hjm : j < m := by omega
          clear hA hNp hx hcx hz hp e1 hev hxv hvl HS2 hik
          go_wp2_with fail
          with_reducible refine HPU.out.mono ?_
          rintro e w4 ⟨own4, rfl, h4, hs4, ho4⟩
          have HF : Hid (AnyS w w4 own4 ba bb M (putWC (-1) N x.core) (.slice (some A) m vc) es ∧ (putWC (-1) N x.core).Perm ((es.map EIn.core).drop j)) := ⟨⟨HA.out.a.step hs4 (by decide) (by decide), h4, HA.out.r.step hs4 (by decide) (by decide), ho4, HA.out.p⟩, HP.out⟩
          rw [Hz.out]
          clear h4 hs4 ho4 HPU c0 c1 c2 c3 c4
          go_wp2
          go_roundw
          case rel => exact ⟨j, _, own4, _, rfl, by omega, by omega, HF⟩
          case measure => simp [intOf]
        · obtain rfl : k2 = 0 := by omega
          obtain ⟨hA, hNp⟩ := HS2.out
          rw [List.drop_zero] at hNp
          obtain rfl : M = N := sorted_unique hA.a.sort hA.b.sort (hA.p.trans hNp.symm)
          have HA := Lib.hid (show OBk wr own2 1 ba (-1) M ∧ OBk wr own2 2 bb (-1) M ∧ OWd w wr own2 from ⟨hA.a, hA.b, hA.o⟩)
          have hd5 : decide (0 ≤ i0) = false := by simpa using h0
          clear hA hNp HS2
          go_wp2_with fail
          go_loopw [12] (fun i wr => ∃ (k : Nat) (own : Nat → Nat) (T : Int) (M : List Core), i = .int .i64 k ∧ k ≤ q ∧ Hid (OBk wr own 1 ba T M ∧ OBk wr own 2 bb T M ∧ OWd w wr own)) (fun i _ => q - (intOf i).toNat)
          case atStart => exact ⟨0, own2, -1, M, rfl, Nat.zero_le _, HA⟩
          case round =>
            obtain ⟨k3, own3, T, M3, rfl, hk3, HS3⟩ := hrel
            by_cases hlt3 : k3 < q
            · obtain ⟨t, ht⟩ : ∃ t, ns[k3]? = some t := ⟨_, List.getElem?_eq_getElem (by rw [Hq.out]; exact hlt3)⟩
              have htc : ∀ W, Below w.heap.size w W → ∃ A, ta = some A ∧ W.cell? (A.add k3) = some (.int .i64 t) := fun W hW => (HT.out.below hW) k3 t ht
              have HTC := Lib.hid htc
              obtain ⟨A, rfl, c0⟩ := htc wr HS3.out.2.2.hb
              have HAD : Hid (Calls Try.prog 40 #[.pointer (some ⟨ba, 0, none⟩), .int .i64 t] wr (AdvK w wr own3 1 ba T M3 t)) := HS3.out.1.adv (by decide) HS3.out.2.2 t
              have hk0 : (0 : Int) ≤ (k3 : Int) := by omega
              have hk1 : (k3 : Int) < (q : Int) := by omega
              clear ht htc
              go_wp2_with fail
              with_reducible refine HAD.out.mono ?_
              rintro e w4 ⟨v4, rfl, h4, hr4, hs4, ho4⟩
              have HR4 := Lib.hid hr4
              have HB4 := Lib.hid (HS3.out.2.1.step hs4 (by decide) (by decide))
              have HA4 := Lib.hid h4
              have HO4 := Lib.hid ho4
              obtain ⟨a4, c4, rfl⟩ := hr4.slice
              clear h4 hr4 hs4 ho4 HAD c0
              obtain ⟨A', e1, c0⟩ := HTC.out w4 HO4.out.hb
              injection e1 with e1
              subst e1
              have HAD : Hid (Calls Try.prog 40 #[.pointer (some ⟨bb, 0, none⟩), .int .i64 t] w4 (AdvK w w4 own3 2 bb T M3 t)) := HB4.out.adv (by decide) HO4.out t
              go_wp2_with fail
              with_reducible refine HAD.out.mono ?_
              rintro e w5 ⟨v5, rfl, h5, hr5, hs5, ho5⟩
              have HR5 := Lib.hid hr5
              have HR4b := Lib.hid (HR4.out.step hs5 (by decide))
              have HF : Hid (OBk w5 own3 1 ba (advT T t) (advWC T M3 t) ∧ OBk w5 own3 2 bb (advT T t) (advWC T M3 t) ∧ OWd w w5 own3) := ⟨HA4.out.step hs5 (by decide) (by decide), h5, ho5⟩
              have HSm : Hid (Calls Try.prog 42 #[.slice a4 (advEC T M3 t).length c4, v5] w5 fun e w' => e = .returned (.bool true) ∧ Below w5.heap.size w5 w') := rsame_calls HR4b.out hr5 (by have := advEC_len (T := T) (M := M3) (time := t); have := HS3.out.1.len; omega) (fun x hx => fits1000 HS3.out.1.right x (advEC_mem hx))
              obtain ⟨a5, c5, rfl⟩ := hr5.slice
              obtain ⟨nl, hnl⟩ : ∃ nl, (advEC T M3 t).length = nl := ⟨_, rfl⟩
              rw [hnl] at HSm ⊢
              have hzz : ((advC T t) != (advC T t)) = false := by simp
              obtain ⟨z, hz⟩ : ∃ z, advC T t = z := ⟨_, rfl⟩
              rw [hz] at hzz ⊢
              clear h5 hr5 hs5 ho5 HAD c0 hnl hz
              go_wp2_with (go_at_call 42; (with_reducible refine HSm.out.mono ?_); rintro e w6 ⟨rfl, hb6⟩; have HF6 : Hid (OBk w6 own3 1 ba (advT T t) (advWC T M3 t) ∧ OBk w6 own3 2 bb (advT T t) (advWC T M3 t) ∧ OWd w w6 own3) := ⟨HF.out.1.below hb6, HF.out.2.1.below hb6, HF.out.2.2.below hb6⟩; clear hb6)
              go_roundw
              case rel => exact ⟨k3 + 1, own3, _, _, by go_num, by omega, HF6⟩
              case measure => simp [intOf]; omega
            · have HW1 := Lib.hid (HS3.out.1.wait HS3.out.2.2)
              have HW2 : Hid (∀ W, Below wr.heap.size wr W → Calls Try.prog 47 #[.pointer (some ⟨bb, 0, none⟩)] W (WaitQ W own3 M3)) := fun W hW => (HS3.out.2.1.below hW).wait (HS3.out.2.2.below hW)
              have HSm : Hid (∀ W u v, ERow W own3 u M3 → ERow W own3 v M3 → Calls Try.prog 42 #[u, v] W fun e w' => e = .returned (.bool true) ∧ Below W.heap.size W w') := fun W u v h1 h2 => rsame_calls h1 h2 (by have := HS3.out.1.len; omega) (fits1000 HS3.out.1.right)
              have HT1 : Hid (∀ W, Below wr.heap.size wr W → Calls Try.prog 45 #[.pointer (some ⟨ba, 0, none⟩)] W fun e w' => e = .returned (.int .i64 T) ∧ W = w') := fun W hW => (HS3.out.1.below hW).time
              have HT2 : Hid (∀ W, Below wr.heap.size wr W → Calls Try.prog 45 #[.pointer (some ⟨bb, 0, none⟩)] W fun e w' => e = .returned (.int .i64 T) ∧ W = w') := fun W hW => (HS3.out.2.1.below hW).time
              go_wp2_with fail
              with_reducible refine HW1.out.mono ?_
              rintro e w4 ⟨v4, rfl, hb4, hr4⟩
              have HB4 := Lib.hid hb4
              have HR4 := Lib.hid hr4
              obtain ⟨a4, c4, rfl⟩ := hr4.slice
              clear hb4 hr4 HW1
              go_wp2_with fail
              with_reducible refine (HW2.out _ HB4.out).mono ?_
              rintro e w5 ⟨v5, rfl, hb5, hr5⟩
              have HB5 := Lib.hid (HB4.out.trans (hb5.mono HB4.out.size))
              have HS5 := Lib.hid (HSm.out w5 _ _ (HR4.out.below hb5) hr5)
              obtain ⟨a5, c5, rfl⟩ := hr5.slice
              clear hb5 hr5 HW2 HSm
              go_wp2_with fail
              with_reducible refine HS5.out.mono ?_
              rintro e w6 ⟨rfl, hb6⟩
              have HB6 := Lib.hid (HB5.out.trans (hb6.mono HB5.out.size))
              clear hb6 HS5
              have hTT : (T == T) = true := by simp
              go_wp2_with (first | (go_at_call 45; (with_reducible refine (HT1.out _ HB6.out).mono ?_); rintro e w7 ⟨rfl, rfl⟩) | (go_at_call 45; (with_reducible refine (HT2.out _ HB6.out).mono ?_); rintro e w7 ⟨rfl, rfl⟩))
              go_ret
              exact ⟨rfl, HS3.out.2.2.hb.trans (HB6.out.mono HS3.out.2.2.hb.size)⟩

end Go.Proofs.Ytfmlgckfcclojaa
namespace Go.Proofs.Ytfmlgckfcclojaa
open Go.ChangeShapes Go.WideShapes Go.ChangeAt Go.RowKit Go.Lib Go.Deep

section
variable {H : Type} {enc : TypeId × Value → H} {w : World} {base : Nat} {spare : Nat → Bool} {held : Bool}

theorem open_i64s {fuel : Nat} {a : Option Addr} {len cap : Nat} {x : DataW H × List MemPlace} (h : DataW.trod enc Try.prog w base spare held fuel 75 [.slice a len cap] = some x) :
    ∃ ns : List Int, len = ns.length ∧ ns.length ≤ maxLen ∧ NumRow w a ns := by
  rcases open_slice Try.underlying75 h with ⟨hcs, _⟩ | ⟨A, l, c, m, n, D, Pl, hcs, _, hl, hm, hmm, _, hx⟩
  · simp at hcs
    obtain ⟨rfl, rfl, rfl⟩ := hcs
    exact ⟨[], rfl, Nat.zero_le _, fun j s hj => by simp at hj⟩
  · simp at hcs
    obtain ⟨rfl, rfl, rfl⟩ := hcs
    have hlm : len ≤ m := by rw [hmm]; split <;> omega
    have c1 : Try.prog.cellsOf 2 = 1 := by kernel_rfl
    have hall : ∀ i, i < len → ∃ q : Int, w.cell? (A.add i) = some (.int .i64 q) := fun i hi => by
      obtain ⟨cs', h1, h2⟩ := hx i (by omega)
      rw [c1, Nat.mul_one] at h1
      obtain ⟨_, hlen, hcell⟩ := World.cells?_some h1
      match cs', hlen with
      | [v0], _ =>
        have e0 : w.cell? (A.add i) = some v0 := by
          have := hcell 0 (by omega)
          rw [Addr.add_zero'] at this
          exact this
        obtain ⟨n0, hv0, _, _⟩ := DataW.trod_int Try.underlying2 h2
        simp at hv0
        subst hv0
        exact ⟨n0, e0⟩
    obtain ⟨q, hq⟩ := choose_lt hall
    refine ⟨(List.range len).map q, by simp, by simp; omega, fun j o hj => ⟨A, rfl, ?_⟩⟩
    obtain ⟨hjl, rfl⟩ := List.getElem?_eq_some_iff.1 hj
    simp at hjl ⊢
    exact hq j hjl
end

end Go.Proofs.Ytfmlgckfcclojaa
namespace Go.Proofs.Ytfmlgckfcclojaa
open Go.ChangeShapes Go.WideShapes Go.ChangeAt Go.RowKit Go.Lib Go.Deep
open Go.ChangeMaps (open_string shut_string)

namespace orderAny
set_option maxRecDepth 100000 in
theorem lifted (os : Os) (started : os.Started) (H : Type) (enc : TypeId × Value → H) :
    ReturnsInHanded {} Try.checked os 11 .any (Rows.orderAnySpec.pre6 enc Try.prog Try.f11 Rows.orderAnyRow.domain false) (Rows.orderAnySpec.post enc Try.prog Try.f11 false true false false) := by
  refine returnsInHanded_of_change (C := Try.checked) eown_ started (by kernel_rfl) Try.func11
    (ChangeSpec.witness6 (enc := enc) (C := Try.checked) false ⟨#[], #[.slice none 0 0, .slice none 0 0], []⟩ 8 (by kernel_rfl) (by kernel_rfl) (by kernel_rfl) (by kernel_rfl)) ?_
  intro W base args ds gs before hval0 hW _ _
  have hval : ∀ (j : Nat) t v, Try.f11.params[j]? = some t → args[j]? = some v → Value.okWide Try.prog W .any base t v := hval0
  have hW' := hW
  obtain ⟨p, q, hA0, hV, rfl, _, _⟩ := hW
  have hA : DataW.TrodAll enc Try.prog W 0 (fun _ => true) true Try.f11.params.toList args.toList ds p := hA0
  rw [Try.params11] at hA hval
  obtain ⟨v0, vs0, d0, ds0, p0, q0, hargs, rfl, rfl, h0, r0⟩ := trodAll_cons hA
  obtain ⟨v1, vs1, d1, ds1, p1, q1, rfl, rfl, rfl, h1, r1⟩ := trodAll_cons r0
  obtain ⟨rfl, rfl, rfl⟩ := trodAll_nil r1
  obtain rfl : args = #[v0, v1] := by cases args; simp_all
  obtain ⟨rfl, rfl⟩ := trodVars_none hV
  have lt0 : ∀ x ∈ p0, x.block < W.heap.size := by obtain ⟨m, hm⟩ := h0; exact DataW.trod_lt m _ _ _ hm
  have lt1 : ∀ x ∈ p1, x.block < W.heap.size := by obtain ⟨m, hm⟩ := h1; exact DataW.trod_lt m _ _ _ hm
  have k0 := h0
  have k1 := h1
  obtain ⟨a0, l0, c0, rfl⟩ := okWide_slice Try.underlying66 (hval 0 66 v0 rfl rfl)
  obtain ⟨a1, l1, c1, rfl⟩ := okWide_slice Try.underlying75 (hval 1 75 v1 rfl rfl)
  obtain ⟨m0, hm0⟩ := h0
  obtain ⟨es0, rfl, hl0, hr0⟩ := open_events hm0
  obtain ⟨m1, hm1⟩ := h1
  obtain ⟨ns1, rfl, hl1, hr1⟩ := open_i64s hm1
  clear hA0 hval0
  refine (any_walk W a0 c0 es0 hr0 hl0 a1 c1 ns1 hr1 hl1).mono fun e W' ⟨he, bel⟩ => ?_
  subst he
  exact ⟨_, rfl, _, _, _, [], _, [], hW', trodAll_mk1 (shut_bool Try.underlying4 _), (trodAll_cons_mk (Below.trod elaidOut (by kernel_rfl) (of_decide_eq_true (by kernel_rfl)) k0 bel lt0) (trodAll_cons_mk (Below.trod elaidOut (by kernel_rfl) (of_decide_eq_true (by kernel_rfl)) k1 bel lt1) trodAll_mk0)), rfl, bel.frame _, fun h => by cases h⟩

theorem holds : Rows.OrderAnySaid :=
  OpenClaim.holds_of_wide 11 Try.f11 rfl rfl rfl rfl rfl rfl rfl ⟨rfl, rfl, rfl, rfl, rfl⟩ rfl rfl rfl rfl rfl (by kernel_rfl) Try.func11 (by kernel_rfl)
    (of_decide_eq_true (by kernel_rfl)) (by unfold Func.isWrapper; first | (rw [if_pos (by decide +kernel)]; kernel_rfl) | (rw [if_neg (by decide +kernel)]; exact ⟨rfl, rfl⟩))
    (fun os started H enc _ => lifted os started H enc)
end orderAny
end Go.Proofs.Ytfmlgckfcclojaa
namespace Go.Proofs.Ytfmlgckfcclojaa
end Go.Proofs.Ytfmlgckfcclojaa

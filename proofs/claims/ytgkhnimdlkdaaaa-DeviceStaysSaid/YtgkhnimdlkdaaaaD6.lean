/- Used of a device: how many bytes all files have, in whatever order the map is gone through. -/
import Derived.Test.YtgkhnimdlkdaaaaD5
namespace Go.Proofs.Ytgkhnimdlkdaaaa
open Go.RowKit Go.Lib Go.Maps

/-- The entries of a map's reading. -/
def entsOf (D : DataW Unit) : List (Lit × DataW Unit) := match D with | .map es => es | _ => []

def sumL (g : Lit → Nat) (es : List (Lit × DataW Unit)) : Nat := (es.map fun p => g p.1).sum
def partL (g : Lit → Nat) (left : Lit → Bool) (es : List (Lit × DataW Unit)) : Nat := sumL g (es.filter fun p => !left p.1)

theorem partL_start (g : Lit → Nat) (es : List (Lit × DataW Unit)) (hk : ∀ p ∈ es, WideAt.IsKeyLit p.1) : partL g (Maps.has (.map es)) es = 0 := by
  have e1 : (es.filter fun p => !Maps.has (.map es) p.1) = [] := by
    rw [List.filter_eq_nil_iff]
    intro p hp
    have : Maps.has (.map es) p.1 = true := List.any_eq_true.2 ⟨p, hp, WideAt.sameKey_self (hk p hp)⟩
    simp [this]
  simp [partL, sumL, e1]

theorem partL_end (g : Lit → Nat) {left : Lit → Bool} (es : List (Lit × DataW Unit)) (hl : ∀ k, left k = false) : partL g left es = sumL g es := by
  have e1 : (es.filter fun p => !left p.1) = es := List.filter_eq_self.2 (fun p _ => by simp [hl])
  rw [partL, e1]

theorem partL_miss (g : Lit → Nat) (left : Lit → Bool) (kl : Lit) : ∀ es : List (Lit × DataW Unit), (∀ p ∈ es, p.1 ≠ kl) → partL g (fun z => left z && !z.sameKey kl) es = partL g left es
  | es, h => by
    have e1 : (es.filter fun p => !(left p.1 && !p.1.sameKey kl)) = es.filter fun p => !left p.1 := List.filter_congr (fun p hp => by rw [Maps.sameKey_ne (h p hp)]; simp)
    simp only [partL, e1]

theorem partL_step (g : Lit → Nat) (left : Lit → Bool) (kl : Lit) (hkl : WideAt.IsKeyLit kl) (hlk : left kl = true) : ∀ es : List (Lit × DataW Unit), es.Pairwise (fun p q => p.1 ≠ q.1) → (∃ p ∈ es, p.1 = kl) →
    partL g (fun z => left z && !z.sameKey kl) es = partL g left es + g kl
  | [], _, h => by obtain ⟨p, hp, _⟩ := h; simp at hp
  | x :: r, hp, h => by
    obtain ⟨h1, h2⟩ := List.pairwise_cons.1 hp
    by_cases hx : x.1 = kl
    · have hr : ∀ p ∈ r, p.1 ≠ kl := fun p hpr e => h1 p hpr (hx.trans e.symm)
      have ih := partL_miss g left kl r hr
      simp only [partL, sumL] at ih ⊢
      rw [List.filter_cons_of_pos (by rw [hx, WideAt.sameKey_self hkl]; simp), List.filter_cons_of_neg (by rw [hx, hlk]; simp)]
      simp only [List.map_cons, List.sum_cons, hx]
      rw [ih]
      omega
    · have hr : ∃ p ∈ r, p.1 = kl := by
        obtain ⟨p, hp1, hp2⟩ := h
        rcases List.mem_cons.1 hp1 with e | e
        · exact absurd (e ▸ hp2) hx
        · exact ⟨p, e, hp2⟩
      have ih := partL_step g left kl hkl hlk r h2 hr
      have hxs := Maps.sameKey_ne hx
      simp only [partL, sumL] at ih ⊢
      by_cases hlx : left x.1 = true
      · rw [List.filter_cons_of_neg (by rw [hlx, hxs]; simp), List.filter_cons_of_neg (by rw [hlx]; simp)]
        exact ih
      · rw [List.filter_cons_of_pos (by simp [hlx]), List.filter_cons_of_pos (by simp [hlx])]
        simp only [List.map_cons, List.sum_cons]
        rw [ih]
        omega

theorem sumL_le (g : Lit → Nat) (B : Nat) (hB : ∀ l, g l ≤ B) : ∀ es : List (Lit × DataW Unit), sumL g es ≤ es.length * B
  | [] => by simp [sumL]
  | x :: r => by
    have := sumL_le g B hB r
    have h2 := hB x.1
    simp only [sumL, List.map_cons, List.sum_cons, List.length_cons, Nat.add_mul, Nat.one_mul] at this ⊢
    omega

theorem partL_le (g : Lit → Nat) (left : Lit → Bool) (B : Nat) (hB : ∀ l, g l ≤ B) (es : List (Lit × DataW Unit)) : partL g left es ≤ es.length * B :=
  Nat.le_trans (sumL_le g B hB _) (Nat.mul_le_mul_right _ (List.length_filter_le _ _))

/-- How many bytes the file of a name has. -/
def flen (files : List UInt8 → Option FileM) : Lit → Nat
  | .string k => (match files k with | some f => min f.data.length 262144 | none => 0)
  | _ => 0

theorem flen_le (files : List UInt8 → Option FileM) (l : Lit) : flen files l ≤ 262144 := by
  unfold flen
  split
  · split
    · exact Nat.min_le_right _ _
    · omega
  · omega

/-- All bytes of all files of a map's reading. -/
def usedD (D : DataW Unit) (files : List UInt8 → Option FileM) : Nat := sumL (flen files) (entsOf D)

theorem keyOf_str_inv {key : Value} {kl : Lit} (h : keyOf Try.prog 9 key = some kl) : ∃ x : ByteArray, key = .string x ∧ kl = .string x.data.toList ∧ x.size ≤ maxLen := by
  have hk := Try.underlying9
  cases key <;> simp [keyOf, hk, mapKey] at h
  exact ⟨_, rfl, h.2.symm, h.1⟩

/-- A range's step over the files' map, each entry of which is a pointer. -/
theorem wpList_next_files {ops : Array Oper} {rest : List Oper} {o : Oper} {a : Act} {Q : Exit → Act → World → Prop} (w : World)
    (hg : o.guard = none) (it : Operand) (hop : o.op = Op.next it false) (b r n : Nat) (D : DataW Unit) (left : Lit → Bool) (cnt : Nat)
    (hit : a.eval it = .pointer (some ⟨r, 0, none⟩)) (h : w.ranges Try.prog 9 ptrR b r n D left cnt)
    (hptr : ∀ k, left (.string k) = true → ∃ p : Nat, ∀ z, D.atKey (.string k) z = .lit (.int .u64 p))
    (hDone : cnt = 0 → (∀ kl, left kl = false) → wpList Try.prog ops Q rest (a.put o.dst (.tuple #[.bool false])) w)
    (hMore : ∀ (x : ByteArray) (p : Nat) (w' : World) (cnt' : Nat), x.size ≤ maxLen → left (.string x.data.toList) = true → (∀ z, D.atKey (.string x.data.toList) z = .lit (.int .u64 p)) → w'.ranges Try.prog 9 ptrR b r n D (fun z => left z && !z.sameKey (.string x.data.toList)) cnt' → cnt' < cnt →
      w.grownBy w' (some r) → w'.heap.size = w.heap.size → (Instr.entry (.pointer (some ⟨r, 0, none⟩))).run Try.prog w' = .ok (.tuple #[.string x, .pointer (some ⟨p, 0, none⟩)]) w' → wpList Try.prog ops Q rest (a.put o.dst (.tuple #[.bool true, .string x, .pointer (some ⟨p, 0, none⟩)])) w') :
    wpList Try.prog ops Q (o :: rest) a w := by
  refine wpList_plain hg fun K' hK' => ?_
  unfold Oper.wp
  rcases h.next lawS o.type with ⟨h0, hl, hrun⟩ | ⟨key, v, kl, y, w', cnt', hkey, hlk, hv, hat, hrun, hrg, hlt, hgr, hsz, hen⟩
  · simp [execOp, hop, hit, hrun, Result.andThen]
    exact hK' _ _ (hDone h0 hl)
  · obtain ⟨x, rfl, rfl, hx⟩ := keyOf_str_inv hkey
    obtain ⟨p, hp⟩ := hptr _ hlk
    rcases ptrR_inv hv with ⟨rfl, rfl⟩ | ⟨p', rfl, rfl⟩
    · have := (hat .nil).symm.trans (hp .nil)
      simp at this
    · have := (hat .nil).symm.trans (hp .nil)
      simp at this
      obtain rfl : p' = p := by omega
      simp [execOp, hop, hit, hrun, Result.andThen]
      exact hK' _ _ (hMore x p' w' cnt' hx hlk hat hrg hlt hgr hsz hen)

section
variable {S : Prop} {w w' : World} {own own' : Owner} {db fb rb : Nat} {D E : DataW Unit} {n : Nat} {m : DevM}

theorem Dev.ptrs (h : Dev S w own db fb rb D E n m) (k : List UInt8) (hk : Maps.has D (.string k) = true) : ∃ p : Nat, ∀ z, D.atKey (.string k) z = .lit (.int .u64 p) := by
  have hd := h.dom k
  rw [hk] at hd
  obtain ⟨f, hf⟩ := Option.isSome_iff_exists.1 hd.symm
  obtain ⟨p, dv, h1, _⟩ := h.fil k f hf
  exact ⟨p, h1⟩

set_option maxHeartbeats 1000000 in
set_option maxRecDepth 100000 in
theorem Dev.used (h : Dev S w own db fb rb D E n m) (hn : n ≤ 1099511627776) :
    Calls Try.prog 31 #[.pointer (some ⟨db, 0, none⟩)] w fun e w' => e = .returned (.int .i64 (usedD D m.files)) ∧ Below w.heap.size w w' := by
  have c1 := h.c1
  obtain ⟨c, hc⟩ := h.fmap
  have hfb : fb < w.heap.size := hc.lt
  obtain ⟨es, rfl, hap, hkeys⟩ := hc.entries lawS
  have hcnt : es.length ≤ n := by have := h.cnt; simp [Maps.size] at this; omega
  have H : Hid (Dev S w own db fb rb (.map es) E n m) := h
  have Hap : Hid (es.Pairwise (fun p q => p.1 ≠ q.1)) := hap
  have Hkeys : Hid (∀ p ∈ es, WideAt.IsKeyLit p.1) := hkeys
  obtain ⟨U, hU⟩ : ∃ U, usedD (.map es) m.files = U := ⟨_, rfl⟩
  have HU : Hid (usedD (.map es) m.files = U) := hU
  rw [hU]
  clear h hap hkeys hU
  have hle : ∀ left, partL (flen m.files) left es ≤ 288230376151711744 := fun left => by
    have h1 := partL_le (flen m.files) left 262144 (flen_le m.files) es
    have h2 : es.length * 262144 ≤ 1099511627776 * 262144 := Nat.mul_le_mul_right _ (Nat.le_trans hcnt hn)
    omega
  have Hle := Lib.hid hle
  clear hle hcnt hn
  go_enter Try.func31, Try.ntmps31
  go_wp2_with (first
    | (at_range; refine wpList_range_own _ rfl _ 62 rfl 9 61 lawS Try.underlying62 _ fb c _ rfl hc ?_; intro w0 hrg0 hg0 hs0)
    | go_in)
  go_frame
  go_loopw [3] (fun t wr => ∃ (left : Lit → Bool) (cnt : Nat), wr.ranges Try.prog 9 ptrR fb w.heap.size c (.map es) left cnt ∧ Below w.heap.size w wr ∧ t = .int .i64 (partL (flen m.files) left es : Nat) ∧ Hid (∀ k, left k = true → Maps.has (.map es) k = true))
    (fun _ wr => wr.rangeLeft fb w.heap.size)
  case atStart => exact ⟨_, _, hrg0, (Below.refl _ _).grown hg0 (Nat.le_refl _) (fun k hk => by cases hk), by rw [partL_start _ _ Hkeys.out]; rfl, fun k hk => hk⟩
  case round =>
    obtain ⟨left, cnt, hrg, hbl, rfl, Hl⟩ := hrel
    have hpl := Hle.out left
    obtain ⟨pt, hpt⟩ : ∃ pt, partL (flen m.files) left es = pt := ⟨_, rfl⟩
    have Hpt : Hid (partL (flen m.files) left es = pt) := hpt
    rw [hpt] at hpl ⊢
    clear hpt
    go_wp2_with (first
      | (at_next; refine wpList_next_files _ rfl _ rfl fb w.heap.size c _ _ _ rfl hrg (fun k hk => H.out.ptrs k (Hl.out _ hk)) ?_ ?_)
      | go_in)
    · intro _ hl0
      have e1 : pt = U := by rw [← Hpt.out, ← HU.out, partL_end _ _ hl0]; rfl
      subst e1
      go_wp2
      go_ret
      exact ⟨rfl, hbl⟩
    · intro x p w1 cnt1 hx hlx hat hrg1 hlt hg1 hs1 hen
      have hbl1 : Below w.heap.size w w1 := hbl.grown hg1 hbl.size (fun k hk => by cases hk; exact Nat.le_refl _)
      have hhas := Hl.out _ hlx
      have hsome := H.out.dom x.data.toList
      rw [hhas] at hsome
      obtain ⟨f, hf⟩ := Option.isSome_iff_exists.1 hsome.symm
      obtain ⟨p', dv, h1, ⟨hfb', hrow, _, hlen⟩, _⟩ := H.out.fil _ _ hf
      obtain rfl : p' = p := by
        have := (h1 .nil).symm.trans (hat .nil)
        simp at this
        omega
      have hp0 : w.cell? ⟨p', 0, none⟩ = some dv := cell_of_blk hfb' rfl
      have p0 : w1.cell? ⟨p', 0, none⟩ = some dv := (hbl1.cell (World.block_lt_of_cell? _ _ hp0)).trans hp0
      have hdv : ∃ a c, dv = .slice a f.data.length c := by
        rcases hrow.2 with ⟨rfl, h0⟩ | ⟨g, cap, cur, rfl, _⟩
        · exact ⟨_, _, by rw [h0]⟩
        · exact ⟨_, _, rfl⟩
      obtain ⟨a, c', rfl⟩ := hdv
      have hstep : partL (flen m.files) (fun z => left z && !z.sameKey (.string x.data.toList)) es = pt + f.data.length := by
        obtain ⟨q, hq, hqk⟩ := List.any_eq_true.1 hhas
        rw [partL_step _ left (.string x.data.toList) trivial hlx es Hap.out ⟨q, hq, WideAt.sameKey_eq hqk⟩, Hpt.out]
        simp [flen, hf, Nat.min_eq_left hlen]
      have Hstep := Lib.hid hstep
      have Hl1 : Hid (∀ k, (left k && !k.sameKey (.string x.data.toList)) = true → Maps.has (.map es) k = true) := fun k hk => Hl.out k (by simp at hk; exact hk.1)
      generalize f.data.length = l at *
      clear hstep hat h1 hfb' hrow hf hsome hhas hlx hp0
      go_wp2
      go_roundw
      case rel => exact ⟨_, cnt1, hrg1, hbl1, by rw [Hstep.out]; go_num, Hl1⟩
      case measure => rw [hrg1.left_eq, hrg.left_eq]; exact hlt

end
end Go.Proofs.Ytgkhnimdlkdaaaa

/- What a crash leaves of a device's files, in plain words; and what the device is in the middle of one. -/
import Derived.Test.YtgkhnimdlkdaaaaDD
namespace Go.Proofs.Ytgkhnimdlkdaaaa
open Go.RowKit Go.Lib Go.Maps Go.ChangeMaps

/-- How many bytes of a file are left. -/
def cutK (ks : List (ByteArray × Int)) (k : List UInt8) (f : FileM) : Nat := f.synced + (min (max (manyK ks k) 0) ((f.data.length : Int) - (f.synced : Int))).toNat
/-- What is left of a file. -/
def crashF (ks : List (ByteArray × Int)) (k : List UInt8) (f : FileM) : Option FileM :=
  if f.fresh = true ∧ manyK ks k < 0 then none else some ⟨f.data.take (cutK ks k f), f.synced, f.fresh⟩
def crashL (ks : List (ByteArray × Int)) (left : Lit → Bool) (files : List UInt8 → Option FileM) : List UInt8 → Option FileM := fun k => (files k).bind fun f => if left (.string k) then some f else crashF ks k f
def crash1 (ks : List (ByteArray × Int)) (files : List UInt8 → Option FileM) : List UInt8 → Option FileM := fun k => (files k).bind (crashF ks k)
/-- What comes back. -/
def backL (left : Lit → Bool) (gone : List UInt8 → Option (List UInt8)) (files : List UInt8 → Option FileM) : List UInt8 → Option FileM := fun k =>
  if left (.string k) then files k else match gone k with | some d => some ⟨d, 0, false⟩ | none => files k
def goneL (left : Lit → Bool) (gone : List UInt8 → Option (List UInt8)) : List UInt8 → Option (List UInt8) := fun k => if left (.string k) then gone k else none

/-- A device behind a crash. -/
def crashFiles (ks : List (ByteArray × Int)) (m : DevM) (k : List UInt8) : Option FileM :=
  match m.gone k with | some d => some ⟨d, 0, false⟩ | none => (m.files k).bind (crashF ks k)
def crashM (ks : List (ByteArray × Int)) (m : DevM) : DevM :=
  { m with files := fun k => (crashFiles ks m k).map settleF, gone := fun _ => none, fuse := -1, down := false }

theorem cutK_le (ks : List (ByteArray × Int)) (k : List UInt8) (f : FileM) (h : f.synced ≤ f.data.length) : f.synced ≤ cutK ks k f ∧ cutK ks k f ≤ f.data.length := by
  unfold cutK
  omega

theorem crashL_step {ks : List (ByteArray × Int)} {left : Lit → Bool} {files : List UInt8 → Option FileM} {k : List UInt8} {f : FileM} (hf : files k = some f) (hl : left (.string k) = true) :
    setF (crashL ks left files) k (crashF ks k f) = crashL ks (fun z => left z && !z.sameKey (.string k)) files := by
  funext k'
  by_cases e : k' = k
  · subst e
    simp [setF_same, crashL, hf, Lit.sameKey]
  · rw [setF_other _ _ e]
    have : (Lit.string k').sameKey (.string k) = false := by simp [Lit.sameKey, e]
    simp [crashL, this]

theorem backL_step {left : Lit → Bool} {gone : List UInt8 → Option (List UInt8)} {files : List UInt8 → Option FileM} {k d : List UInt8} (hg : gone k = some d) (hl : left (.string k) = true) :
    setF (backL left gone files) k (some ⟨d, 0, false⟩) = backL (fun z => left z && !z.sameKey (.string k)) gone files := by
  funext k'
  by_cases e : k' = k
  · subst e
    simp [setF_same, backL, hg, Lit.sameKey]
  · rw [setF_other _ _ e]
    have : (Lit.string k').sameKey (.string k) = false := by simp [Lit.sameKey, e]
    simp [backL, this]

theorem step_back {left : Lit → Bool} {gone : List UInt8 → Option (List UInt8)} {files : List UInt8 → Option FileM} {k d : List UInt8} (hg : gone k = some d) (hl : left (.string k) = true) :
    goneL left gone k = some d ∧ setF (backL left gone files) k (some ⟨d, 0, false⟩) = backL (fun z => left z && !z.sameKey (.string k)) gone files := ⟨by simp [goneL, hl, hg], backL_step hg hl⟩

theorem goneL_step {left : Lit → Bool} {gone : List UInt8 → Option (List UInt8)} {k : List UInt8} :
    setF (goneL left gone) k none = goneL (fun z => left z && !z.sameKey (.string k)) gone := by
  funext k'
  by_cases e : k' = k
  · subst e
    simp [setF_same, goneL, Lit.sameKey]
  · rw [setF_other _ _ e]
    have : (Lit.string k').sameKey (.string k) = false := by simp [Lit.sameKey, e]
    simp [goneL, this]

section
variable {S : Prop} {w w' : World} {own own' : Owner} {db fb rb : Nat} {D D' E E' : DataW Unit} {n n' : Nat} {m : DevM}

/-- A file's slice is cut. -/
theorem Dev.cut (h : Dev S w own db fb rb D E n m) {k : List UInt8} {f : FileM} {p : Nat} {a : Option Addr} {l c' x : Nat} (hat : ∀ z, D.atKey (.string k) z = .lit (.int .u64 p))
    (hfa : FileAt w p (.slice a l c') f) (hp : own p = some (3, k)) (hg : ∀ g, (Value.slice a l c').ownBlock = some g → own g = some (4, k)) (hx : f.synced ≤ x) (hx2 : x ≤ f.data.length) :
    Dev S (w.setCell ⟨p, 0, none⟩ (.slice a x c')) own db fb rb D E n { m with files := setF m.files k (some ⟨f.data.take x, f.synced, f.fresh⟩) } ∧ Step own own w (w.setCell ⟨p, 0, none⟩ (.slice a x c')) := by
  have hpn : (Value.slice a l c').ownBlock ≠ some p := fun e => by have := hg p e; rw [hp] at this; simp at this
  have hother : ∀ b, b ≠ p → (w.setCell ⟨p, 0, none⟩ (.slice a x c')).heap[b]? = w.heap[b]? := fun b hb => Below.heap_setCell _ _ _ _ hb
  have hob : (Value.slice a x c').ownBlock = (Value.slice a l c').ownBlock := by cases a <;> rfl
  obtain ⟨_, _, hrow⟩ := take_row (k := x) hfa.2.1 hx2
  have hlx : (f.data.take x).length = x := by simp; omega
  refine ⟨h.setFile (p := p) (dv := .slice a x c') (by simp [World.setCell]) (fun b _ _ h3 _ => hother b (fun e => h3 (by rw [e]; exact hp))) (fun _ _ => rfl) (fun b hb => h.old b (by simpa [World.setCell] using hb)) ?_ h.cnt hat (fun _ _ => rfl) (fun _ _ _ => rfl) ?_ hp (fun g hg' => hg g (hob ▸ hg')),
    Step.of_fr ((Fr.refl _ _).setCell _ _ (fun _ => by simp [hp]))⟩
  · obtain ⟨c, hc⟩ := h.fmap
    exact ⟨c, ownsMap_of_block hc (hother fb (fun e => by have := h.ofb; rw [e, hp] at this; simp at this))⟩
  · refine ⟨?_, ownsRow_of_block hrow (fun g hg' => hother g (fun e => hpn (by rw [← hob, hg', e]))), by rw [hlx]; exact hx, by rw [hlx]; have := hfa.2.2.2; omega⟩
    rw [setCell_blk hfa.1]
    rfl

/-- What was removed is a file again. -/
theorem Dev.restore (h : Dev False w own db fb rb D E n m) {k d : List UInt8} {dv : Value} {p c : Nat} (hgone : m.gone k = some d) (hp : p = w.heap.size) (hE : ∀ z, E.atKey (.string k) z = slD dv) (hslR : slR dv = some (slD dv, []))
    (hW : ∀ b, b < w.heap.size → b ≠ fb → w'.heap[b]? = w.heap[b]?) (hsz : p < w'.heap.size) (hblk : w'.heap[p]? = some (.cells #[dv, .int .i64 0, .bool false] 68 (0, 0)))
    (hm : w'.ownsMap Try.prog 9 ptrR fb c (D.put (.string k) (.lit (.int .u64 p)))) (hn : n < n') :
    ∃ own', Dev False w' own' db fb rb (D.put (.string k) (.lit (.int .u64 p))) E n' { m with files := setF m.files k (some ⟨d, 0, false⟩), gone := setF m.gone k none } ∧ (∀ b, b < w.heap.size → own b = none → own' b = none) ∧ Maps.size (D.put (.string k) (.lit (.int .u64 p))) ≤ Maps.size D + 1 := by
  obtain ⟨c0, hc0⟩ := h.fmap
  have hmap := hc0.isMap
  obtain ⟨dv', h1, hrow, hdl, hg⟩ := h.rem k d hgone
  obtain rfl : dv' = dv := by
    have e1 := (h1 .nil).symm.trans (hE .nil)
    exact slD_inj (ownsRow_slR hrow) hslR e1
  have hnone : own p = none := h.old p (by omega)
  have hszp : Maps.size (D.put (.string k) (.lit (.int .u64 p))) ≤ Maps.size D + 1 := by
    have h2 := Maps.size_put (k := .string k) (hc0.tidy lawS) (.lit (.int .u64 (p : Nat)))
    split at h2 <;> omega
  let own2 : Owner := fun b => if b = p then some (3, k) else if dv'.ownBlock = some b then some (4, k) else own b
  have own_ : ∀ b t, own b = some t → t ≠ (5, k) → own2 b = some t := fun b t hb ht => by
    show (if b = p then some (3, k) else if dv'.ownBlock = some b then some (4, k) else own b) = some t
    rw [if_neg (fun e => by subst e; rw [hnone] at hb; cases hb), if_neg (fun e => by have h5 := hg b e; rw [hb] at h5; injection h5 with h5; exact ht h5)]
    exact hb
  have keep : ∀ b t, own b = some t → t.1 ≠ 1 → w'.heap[b]? = w.heap[b]? := fun b t hb h1 => hW b (h.lt (by simp [hb])) (fun e => by rw [e, h.ofb] at hb; injection hb with hb; rw [← hb] at h1; exact h1 rfl)
  have hgp : ∀ g, dv'.ownBlock = some g → g ≠ p := fun g hg' e => by have h5 := hg g hg'; rw [e, hnone] at h5; cases h5
  refine ⟨own2, ?_, fun b hb hb' => ?_, hszp⟩
  · exact {
    blk := (keep db _ h.odb (by simp)).trans h.blk
    fmap := ⟨c, hm⟩
    rmap := let ⟨c, hc⟩ := h.rmap; ⟨c, ownsMap_of_block hc (keep rb _ h.orb (by simp))⟩
    cnt := by have := h.cnt; omega
    dom := fun k' => by
      by_cases e : k' = k
      · subst e
        simp only [setF_same, Option.isSome_some]
        exact Maps.has_put_same (k := .string k') hmap trivial _
      · simp only [setF_other _ _ e]
        rw [Maps.has_put_other (fun e1 => e (by injection e1))]
        exact h.dom k'
    rdom := fun k' hk' => by
      by_cases e : k' = k
      · subst e
        simp only [setF_same] at hk'
        cases hk'
      · simp only [setF_other _ _ e] at hk'
        exact h.rdom k' hk'
    rback := fun hS => hS.elim
    fil := fun k' f' hf' => by
      by_cases e : k' = k
      · subst e
        simp only [setF_same, Option.some.injEq] at hf'
        subst hf'
        refine ⟨p, dv', fun z => Maps.atKey_put_same (k := .string k') hmap trivial _ _, ⟨hblk, ownsRow_of_block hrow (fun g hg' => keep g _ (hg g hg') (by simp)), Nat.zero_le _, hdl⟩, by simp [own2], fun g hg' => ?_⟩
        show (if g = p then some (3, k') else if dv'.ownBlock = some g then some (4, k') else own g) = some (4, k')
        rw [if_neg (hgp g hg'), if_pos hg']
      · simp only [setF_other _ _ e] at hf'
        obtain ⟨p', dv'', h1, h2, h3, h4⟩ := h.fil k' f' hf'
        exact ⟨p', dv'', fun z => (Maps.atKey_put_other (fun e1 => e (by injection e1)) _ _).trans (h1 z), h2.kept (keep p' _ h3 (by simp)) (fun g hg' => keep g _ (h4 g hg') (by simp)), own_ _ _ h3 (by simp), fun g hg' => own_ _ _ (h4 g hg') (by simp)⟩
    rem := fun k' d' hd => by
      by_cases e : k' = k
      · subst e
        simp only [setF_same] at hd
        cases hd
      · simp only [setF_other _ _ e] at hd
        obtain ⟨dv'', h1, h2, h3, h4⟩ := h.rem k' d' hd
        exact ⟨dv'', h1, ownsRow_of_block h2 (fun g hg' => keep g _ (h4 g hg') (by simp)), h3, fun g hg' => own_ _ _ (h4 g hg') (by simp [e])⟩
    odb := own_ _ _ h.odb (by simp)
    ofb := own_ _ _ h.ofb (by simp)
    orb := own_ _ _ h.orb (by simp)
    old := fun b hb => by
      show (if b = p then some (3, k) else if dv'.ownBlock = some b then some (4, k) else own b) = none
      rw [if_neg (by omega), if_neg (fun e => by have := (hrow.lt b e).2; omega)]
      exact h.old b (by omega)
    rroom := h.rroom
    rfuse := h.rfuse
    racts := h.racts }
  · show (if b = p then some (3, k) else if dv'.ownBlock = some b then some (4, k) else own b) = none
    rw [if_neg (by omega), if_neg (fun e => by have h5 := hg b e; rw [hb'] at h5; cases h5)]
    exact hb'

end

/-- A range's step over the map of what was removed. -/
theorem wpList_next_rem {ops : Array Oper} {rest : List Oper} {o : Oper} {a : Act} {Q : Exit → Act → World → Prop} (w : World)
    (hg : o.guard = none) (it : Operand) (hop : o.op = Op.next it false) (b r n : Nat) (D : DataW Unit) (left : Lit → Bool) (cnt : Nat)
    (hit : a.eval it = .pointer (some ⟨r, 0, none⟩)) (h : w.ranges Try.prog 9 slR b r n D left cnt)
    (hDone : cnt = 0 → (∀ kl, left kl = false) → wpList Try.prog ops Q rest (a.put o.dst (.tuple #[.bool false])) w)
    (hMore : ∀ (x : ByteArray) (sa : Option Addr) (sl sc : Nat) (w' : World) (cnt' : Nat), x.size ≤ maxLen → left (.string x.data.toList) = true → slR (.slice sa sl sc) = some (slD (.slice sa sl sc), []) → (∀ z, D.atKey (.string x.data.toList) z = slD (.slice sa sl sc)) → w'.ranges Try.prog 9 slR b r n D (fun z => left z && !z.sameKey (.string x.data.toList)) cnt' → cnt' < cnt →
      w.grownBy w' (some r) → w'.heap.size = w.heap.size → (Instr.entry (.pointer (some ⟨r, 0, none⟩))).run Try.prog w' = .ok (.tuple #[.string x, .slice sa sl sc]) w' → wpList Try.prog ops Q rest (a.put o.dst (.tuple #[.bool true, .string x, .slice sa sl sc])) w') :
    wpList Try.prog ops Q (o :: rest) a w := by
  refine wpList_plain hg fun K' hK' => ?_
  unfold Oper.wp
  rcases h.next lawS o.type with ⟨h0, hl, hrun⟩ | ⟨key, v, kl, y, w', cnt', hkey, hlk, hv, hat, hrun, hrg, hlt, hgr, hsz, hen⟩
  · simp [execOp, hop, hit, hrun, Result.andThen]
    exact hK' _ _ (hDone h0 hl)
  · obtain ⟨x, rfl, rfl, hx⟩ := keyOf_str_inv hkey
    obtain ⟨sa, sl, sc, rfl⟩ : ∃ sa sl sc, v = .slice sa sl sc := by
      rcases (slR_inv hv).2 with rfl | ⟨g, n, c, rfl⟩ <;> exact ⟨_, _, _, rfl⟩
    obtain ⟨rfl, _⟩ := slR_inv hv
    simp [execOp, hop, hit, hrun, Result.andThen]
    exact hK' _ _ (hMore x sa sl sc w' cnt' hx hlk hv hat hrg hlt hgr hsz hen)

end Go.Proofs.Ytgkhnimdlkdaaaa

/- A journal, in plain words: a new one; how great numbers, how many bytes there are; what the head of the laws does. | A journal: what the head of the laws does behind its crash, in plain words; the head, and the journal that the laws open. | A journal: the head of the laws answers true; the journal that the laws open. | A journal: what the laws' walks share. | JournalKeeps, its walk. | The library's variables are in memory as the row lists them. | FrameBack holds: for every list of texts the call returns true, and the argument reads behind it as it did. No condition. | JournalKeeps holds: for every list of records and of what is kept in two crashes the call returns true, and each argument reads behind it as it did. Condition: the library's package-level variables that are listed are laid as its text lays them (the tie is given). -/
import Derived.Test.YtdpbnacabinlgaaGreatDoorMF
import Derived.Lib.MinMax
import Derived.ProofKit
import Derived.OpenShut
import Derived.ShutString
import Derived.ChangeOld
import Derived.Deep.Strs
import Derived.Test.YtdpbnacabinlgaaGreatDoorTie
import Derived.Test.YtdpbnacabinlgaaGreatDoorCards
import Derived.LaidMore
import Derived.LaidLaws
import Derived.Stop.Joined
import Derived.Lib.SmallJoins
import Derived.SizedLaws
import Derived.SevenTiedAt
namespace Go.Proofs.YtdpbnacabinlgaaGreatDoor
open Go.RowKit Go.Lib Go.Maps Go.ChangeMaps Go.Sort Go.Shelf

theorem sum_sub {α : Type} [DecidableEq α] (f : α → Nat) : ∀ {ns ms : List α}, ns.Nodup → (∀ k ∈ ns, k ∈ ms) → (ns.map f).sum ≤ (ms.map f).sum
  | [], ms, _, _ => Nat.zero_le _
  | k :: ns, ms, hd, h => by
    rw [List.nodup_cons] at hd
    have hp := List.perm_cons_erase (h k (by simp))
    have h1 := (hp.map f).sum_nat
    rw [List.map_cons, List.sum_cons] at h1
    have h2 := sum_sub f (ms := ms.erase k) hd.2 (fun x hx => (List.mem_erase_of_ne (fun e : x = k => hd.1 (by rw [← e]; exact hx))).2 (h x (List.mem_cons_of_mem _ hx)))
    rw [List.map_cons, List.sum_cons]
    omega

theorem usedL_names {r : RDm} (hr : Rising r.L) : usedL r.L = ((r.L.map RF.nm).map fun k => ((look r k).map (·.data.length)).getD 0).sum := by
  unfold usedL
  rw [List.map_map]
  congr 1
  refine List.map_congr_left fun f hf => ?_
  show f.data.length = ((look r f.nm).map (·.data.length)).getD 0
  unfold look
  rw [hr.find hf]
  rfl

theorem used_le {r r' : RDm} (hr : Rising r.L) (hr' : Rising r'.L) (h : ∀ k x', look r' k = some x' → ∃ x, look r k = some x ∧ x'.data.length ≤ x.data.length) : usedL r'.L ≤ usedL r.L ∧ r'.L.length ≤ r.L.length := by
  have hsub : ∀ k ∈ r'.L.map RF.nm, k ∈ r.L.map RF.nm := fun k hk => by
    rw [← look_mem] at hk ⊢
    cases hl : look r' k with
    | none => rw [hl] at hk; cases hk
    | some x' =>
      obtain ⟨x, hx, _⟩ := h k x' hl
      rw [hx]
      rfl
  refine ⟨?_, ?_⟩
  · rw [usedL_names hr, usedL_names hr']
    refine Nat.le_trans ?_ (sum_sub _ hr'.nodup hsub)
    have : ∀ ns : List (List UInt8), (∀ k ∈ ns, k ∈ r'.L.map RF.nm) → (ns.map fun k => ((look r' k).map (·.data.length)).getD 0).sum ≤ (ns.map fun k => ((look r k).map (·.data.length)).getD 0).sum := by
      intro ns
      induction ns with
      | nil => intro _; exact Nat.le_refl _
      | cons k ns ih =>
        intro hns
        have h1 := ih (fun x hx => hns x (List.mem_cons_of_mem _ hx))
        have h2 := hns k (by simp)
        rw [← look_mem] at h2
        rw [List.map_cons, List.sum_cons, List.map_cons, List.sum_cons]
        cases hl : look r' k with
        | none => rw [hl] at h2; cases h2
        | some x' =>
          obtain ⟨x, hx, hle⟩ := h k x' hl
          rw [hx]
          show x'.data.length + _ ≤ x.data.length + _
          omega
    exact this _ (fun k hk => hk)
  · have h1 := sum_sub (fun _ => 1) hr'.nodup hsub
    have e : ∀ l : List (List UInt8), (l.map fun _ => 1).sum = l.length := by
      intro l
      induction l with
      | nil => rfl
      | cons a l ih => rw [List.map_cons, List.sum_cons, ih, List.length_cons]; omega
    rw [e, e, List.length_map, List.length_map] at h1
    exact h1

theorem crash_used {r : RDm} (hk : ROk r) (hg : r.Gone = []) {ks : List (ByteArray × Int)} {L' : List RF} (hc : Crashed ks r L') : usedL L' ≤ usedL r.L ∧ L'.length ≤ r.L.length :=
  used_le (r := r) (r' := crashR r L') hk.rising hc.rising fun k x' hx => by
    rw [look_crash0 hg hc] at hx
    cases hl : look r k with
    | none => rw [hl] at hx; cases hx
    | some x =>
      refine ⟨x, rfl, ?_⟩
      rw [hl] at hx
      have hx : (crashF ks k x).map settleF = some x' := hx
      unfold crashF at hx
      split at hx
      · cases hx
      · injection hx with hx
        rw [← hx]
        show (x.data.take _).length ≤ _
        rw [List.length_take]
        exact Nat.min_le_right _ _

theorem open_count {r : RDm} (h : On r) (hk : ROk r) : (openS r).1.L.length ≤ r.L.length := by
  obtain ⟨_, h2, h3, h4, _⟩ := openS_on h hk
  refine (used_le hk.rising h3.rising fun k x' hx => ?_).2
  rw [h4] at hx
  split at hx
  · cases hl : look r k with
    | none => rw [hl] at hx; cases hx
    | some x =>
      rw [hl] at hx
      injection hx with hx
      exact ⟨x, rfl, by rw [← hx]; exact Nat.le_refl _⟩
  · cases hx

theorem topR_bound {r : RDm} (hk : ROk r) {m : Nat} (hp : (lastP r).1 ≤ m) (h : ∀ n, m < n → look r (numName logM n) = none) : topR r ≤ m := by
  unfold topR
  cases hg : (behindL r (lastP r).1).getLast? with
  | none => exact hp
  | some n =>
    have h1 := (behindL_look hk.names).1 (List.mem_of_getLast? hg)
    show n ≤ m
    rcases Nat.lt_or_ge m n with h2 | h2
    · rw [h n h2] at h1
      cases h1.2
    · exact h2

theorem digits_le : ∀ (k : Nat) (n : Nat), n < 10 ^ (k + 1) → (decDigits n).length ≤ k + 1 := by
  intro k
  induction k with
  | zero =>
    intro n hn
    have hn : n < 10 := by simpa using hn
    rw [decDigits, dif_pos hn]
    exact Nat.le_refl _
  | succ k ih =>
    intro n hn
    rw [decDigits]
    split
    · show 1 ≤ _
      omega
    · have := ih (n / 10) (by rw [Nat.pow_succ] at hn; omega)
      rw [List.length_append]
      show _ + 1 ≤ _
      omega
theorem name_ok {mark : List UInt8} {n : Nat} (hm : mark = logM ∨ mark = snapM) (hn : n < 1000000000000000) : nameOk (numName mark n) = true := by
  have h1 := digits_le 14 n hn
  have hml : mark.length ≤ 5 ∧ 1 ≤ mark.length := by rcases hm with rfl | rfl <;> decide
  have hma : mark.all chOk = true := by rcases hm with rfl | rfl <;> decide
  unfold nameOk numName
  rw [List.length_append, List.all_append, hma]
  have h2 : (decDigits n).all chOk = true := by
    rw [List.all_eq_true]
    intro c hc
    rw [chOk_iff]
    have := dec_digits n c hc
    omega
  rw [h2]
  simp
  omega

theorem new_lastP (room : Int) : lastP (newR room) = (0, []) := rfl
theorem new_behind (room : Int) : behindL (newR room) 0 = [] := by
  show ([] : List Nat).mergeSort _ = []
  exact List.mergeSort_nil
theorem new_topR (room : Int) : topR (newR room) = 0 := by
  unfold topR
  rw [new_lastP]
  show ((behindL (newR room) 0).getLast?).getD 0 = 0
  rw [new_behind]
  rfl
theorem new_view (room : Int) : viewR (newR room) = ((0, []), []) := by
  unfold viewR
  rw [new_lastP]
  show ((0, []), recsR (newR room) (behindL (newR room) 0)) = _
  rw [new_behind]
  rfl

/-- A journal on a new device, as Open makes it. -/
def newJ (room : Int) : JM := ⟨(openS (newR room)).1, 0, false⟩
theorem newJ_base (room : Int) : Base (newJ room).r 0 := by
  have := Base.opened (On.new room) (ROk.new room)
  rw [new_topR] at this
  exact this
theorem newJ_facts (room : Int) : (newJ room).r.Gone = [] ∧ (newJ room).r.L.length = 0 ∧ usedL (newJ room).r.L = 0 ∧ (newJ room).r.room = room ∧ lastP (newJ room).r = (0, []) ∧ recsR (newJ room).r (behindL (newJ room).r (lastP (newJ room).r).1) = [] := by
  obtain ⟨_, _, _, _, _, h5, h6⟩ := openS_on (On.new room) (ROk.new room)
  have h7 := view_open (On.new room) (ROk.new room)
  rw [new_view] at h7
  have h8 := congrArg Prod.fst h7
  have h9 := congrArg Prod.snd h7
  refine ⟨h5, ?_, ?_, h6, h8, h9⟩
  · have := open_count (On.new room) (ROk.new room)
    exact Nat.le_zero.1 this
  · have := open_used (On.new room) (ROk.new room)
    exact Nat.le_zero.1 this
theorem newJ_grows (room : Int) : Grows (newJ room).r 0 (newJ room) [] 0 := Grows.start (newJ_base room) (newJ_facts room).1

section
variable {r0 : RDm} {l0 : Nat} {j : JM} {ls : List (List (List UInt8))} {sy : Nat}

theorem Grows.add0 (h : Grows r0 l0 j ls sy) (hb : Base r0 l0) (ho : On j.r) {rec : List UInt8} (hr : rec.length ≤ 4096) (hl : j.last < 100000000000000) (hc : j.r.L.length < 64) (hu : (usedL j.r.L : Int) + (rec.length + 5 : Nat) ≤ j.r.room) : (addJ j rec).2 = 0 :=
  add_ok ho h.rok hr (name_ok (.inl rfl) (by omega)) (name_ok (.inl rfl) (by omega)) (h.no_log hb (Nat.lt_succ_self _)) hc hu

theorem Grows.crash_top (h : Grows r0 l0 j ls sy) (hb : Base r0 l0) {ks : List (ByteArray × Int)} {L' : List RF} (hc : Crashed ks j.r L') : topR (crashR j.r L') ≤ j.last := by
  obtain ⟨q, hv, _⟩ := h.crash hb hc
  have h1 : lastP (crashR j.r L') = lastP r0 := congrArg Prod.fst hv
  refine topR_bound (h.rok.crash hc).1 ?_ (fun n hn => ?_)
  · rw [h1]
    have := hb.pic
    have := h.last
    omega
  · rw [look_crash0 h.gone hc, h.no_log hb hn]
    rfl
theorem Grows.top (h : Grows r0 l0 j ls sy) (hb : Base r0 l0) (ho : j.r.off = false) : topR j.r ≤ j.last := by
  have h1 : lastP j.r = lastP r0 := congrArg Prod.fst (h.view hb ho)
  refine topR_bound h.rok ?_ (fun n hn => h.no_log hb hn)
  rw [h1]
  have := hb.pic
  have := h.last
  omega
end

/-- What the head of the laws does: its states, one behind the other. -/
def hj1 : JM := (addJ (newJ 1048576) [97]).1
def hj2 : JM := (syncJ hj1).1
def hj3 : JM := (addJ hj2 [98]).1
theorem head_one : (addJ (newJ 1048576) [97]).2 = 0 ∧ (syncJ hj1).2 = 0 ∧ (addJ hj2 [98]).2 = 0 ∧ (newJ 1048576).r.L.length ≤ 64 ∧ hj1.r.Gone = [] ∧ hj2.r.L.length ≤ 64 ∧ hj2.r.Gone = [] ∧ hj2.last ≤ 1 ∧ hj3.last ≤ 2 ∧ hj3.r.L.length ≤ 2 ∧ hj3.r.room = 1048576 ∧ usedL hj3.r.L ≤ 12 ∧ hj3.r.Gone = [] ∧
    ∃ ls sy, Grows (newJ 1048576).r 0 hj3 ls sy ∧ ls.flatten = [[97], [98]] ∧ cntS ls sy = 1 := by
  obtain ⟨f1, f2, f3, f4, f5, f6⟩ := newJ_facts 1048576
  have hb := newJ_base 1048576
  have g0 := newJ_grows 1048576
  have c1 : (addJ (newJ 1048576) [97]).2 = 0 := g0.add0 hb hb.on (by decide) (by show 0 < _; decide) (by omega) (by rw [f3, f4]; decide)
  obtain ⟨o1, m1, u1, _⟩ := add_on hb.on [97]
  obtain ⟨k1, k2, k3, k4⟩ := add_few (j := newJ 1048576) (by omega) f1 [97]
  rcases g0.add hb [97] with ⟨_, _, ls1, sy1, g1, e1, _⟩ | ⟨hne, _⟩
  rotate_left
  · exact absurd c1 hne
  have g1 : Grows (newJ 1048576).r 0 hj1 ls1 sy1 := g1
  have o1 : On hj1.r := o1
  obtain ⟨c2, o2, m2, u2⟩ := sync_on o1
  have g2 : Grows (newJ 1048576).r 0 hj2 ls1 (lastLen ls1) := g1.synced hb o1.isOff
  have o2 : On hj2.r := o2
  have hl1 : hj1.last ≤ 1 := k4
  have hl2 : hj2.last ≤ 1 := hl1
  have n1 : ls1.length ≤ 1 := by have := g1.last; omega
  have cnt : ∀ {j : JM} {ls : List (List (List UInt8))} {sy : Nat}, Grows (newJ 1048576).r 0 j ls sy → j.r.L.length = ls.length := fun {j ls sy} g => by
    have h := count_names g.rok (ns := (List.range ls.length).map fun i => numName logM (0 + 1 + i)) ?_ (fun k => ?_)
    · rw [h, List.length_map, List.length_range]
    · refine List.Pairwise.map _ (fun a b hab e => hab ?_) List.nodup_range
      have := numName_inj e
      omega
    · have hnone : ∀ k, look (newJ 1048576).r k = none := fun k => by
        cases hl : look (newJ 1048576).r k with
        | none => rfl
        | some x =>
          have := look_mem.1 (show (look (newJ 1048576).r k).isSome = true by rw [hl]; rfl)
          rw [List.eq_nil_of_length_eq_zero f2] at this
          cases this
      constructor
      · intro hk
        by_cases he : ∃ i, i < ls.length ∧ k = numName logM (0 + 1 + i)
        · obtain ⟨i, hi, rfl⟩ := he
          exact List.mem_map.2 ⟨i, List.mem_range.2 hi, rfl⟩
        · rw [g.old k (fun i hi e => he ⟨i, hi, e⟩), hnone] at hk
          cases hk
      · intro hk
        obtain ⟨i, hi, rfl⟩ := List.mem_map.1 hk
        obtain ⟨x, hx, _⟩ := g.new i _ (List.getElem?_eq_getElem (List.mem_range.1 hi))
        rw [hx]
        rfl
  have few2 : hj2.r.L.length ≤ 1 := by rw [cnt g2]; exact n1
  have uu1 : usedL hj1.r.L ≤ 0 + (1 + 5) := by rw [← f3]; exact u1
  have uu2 : usedL hj2.r.L ≤ 6 := by rw [show usedL hj2.r.L = usedL hj1.r.L from u2]; omega
  have mm2 : hj2.r.room = 1048576 := by rw [show hj2.r.room = hj1.r.room from m2, show hj1.r.room = (newJ 1048576).r.room from m1, f4]
  have c3 : (addJ hj2 [98]).2 = 0 := g2.add0 hb o2 (by decide) (by omega) (by omega) (by rw [mm2]; show (usedL hj2.r.L : Int) + 6 ≤ _; omega)
  obtain ⟨o3, m3, u3, _⟩ := add_on o2 [98]
  obtain ⟨q1, q2, q3, q4⟩ := add_few (j := hj2) (by omega) g2.gone [98]
  rcases g2.add hb [98] with ⟨_, _, ls3, sy3, g3, e3, l3, b3⟩ | ⟨hne, _⟩
  rotate_left
  · exact absurd c3 hne
  have g3 : Grows (newJ 1048576).r 0 hj3 ls3 sy3 := g3
  have hl3 : hj3.last ≤ 2 := by have : hj3.last ≤ hj2.last + 1 := q4; omega
  rw [e1] at e3
  rw [cnt_all, e1] at l3
  rw [e1] at b3
  refine ⟨c1, c2, c3, by omega, g1.gone, by omega, g2.gone, hl2, hl3, ?_, ?_, ?_, g3.gone, ls3, sy3, g3, e3, ?_⟩
  · rw [cnt g3]
    have := g3.last
    omega
  · rw [show hj3.r.room = hj2.r.room from m3, mm2]
  · have : usedL hj3.r.L ≤ usedL hj2.r.L + (1 + 5) := u3
    omega
  · have h1 : 1 ≤ cntS ls3 sy3 := l3
    have h2 : cntS ls3 sy3 ≤ 1 := b3
    omega

end Go.Proofs.YtdpbnacabinlgaaGreatDoor
namespace Go.Proofs.YtdpbnacabinlgaaGreatDoor
open Go.RowKit Go.Lib Go.Maps Go.ChangeMaps Go.Sort Go.Shelf

def hj4 (L' : List RF) : JM := ⟨(openS (crashR hj3.r L')).1, topR (crashR hj3.r L'), false⟩
def hj5 (L' : List RF) : JM := (compactJ (hj4 L') [112]).1
def hj6 (L' : List RF) : JM := (addJ (hj5 L') [99]).1

theorem manyK_nil (k : List UInt8) : manyK [] k = -1 := rfl

theorem flat_len : ∀ {ls : List (List (List UInt8))}, (∀ l ∈ ls, l ≠ []) → ls.length ≤ ls.flatten.length
  | [], _ => Nat.le_refl _
  | l :: ls, h => by
    have h1 := flat_len (ls := ls) (fun x hx => h x (List.mem_cons_of_mem _ hx))
    have h2 : 0 < l.length := List.length_pos_iff.2 (h l (by simp))
    rw [List.flatten_cons, List.length_append, List.length_cons]
    omega

theorem head_two {L' : List RF} (hc : Crashed [] hj3.r L') : On (crashR hj3.r L') ∧ lastP (crashR hj3.r L') = (0, []) ∧ (viewR (crashR hj3.r L')).2 = [[97]] ∧ (crashR hj3.r L').L.length ≤ 2 ∧ topR (crashR hj3.r L') ≤ 2 ∧
    (compactJ (hj4 L') [112]).2 = 0 ∧ (hj5 L').r.L.length ≤ 64 ∧ (hj5 L').r.Gone = [] ∧ (hj5 L').last ≤ 3 ∧ (addJ (hj5 L') [99]).2 = 0 ∧ On (hj6 L').r ∧ (lastP (hj6 L').r).2 = [112] ∧ 0 < (lastP (hj6 L').r).1 ∧ (viewR (hj6 L').r).2 = [[99]] ∧ (openS (hj6 L').r).1.L.length = 2 := by
  obtain ⟨_, _, _, _, _, _, _, _, t3, f3, m3, u3, z3, ls, sy, g3, e3, c3⟩ := head_one
  have hb := newJ_base 1048576
  obtain ⟨_, _, _, _, p0, q0⟩ := newJ_facts 1048576
  obtain ⟨q, hv, _, _, hq⟩ := g3.crash hb hc
  have hq1 : q = 1 := by rw [hq (fun k => by rw [manyK_nil]; decide), c3]
  rw [hq1, e3, p0] at hv
  rw [p0] at q0
  rw [q0] at hv
  have hv1 : viewR (crashR hj3.r L') = ((0, []), [[97]]) := hv
  have hlast : lastP (crashR hj3.r L') = (0, []) := congrArg Prod.fst hv1
  have ho : On (crashR hj3.r L') := On.crash _ _
  have hk := (g3.rok.crash hc).1
  have htop : topR (crashR hj3.r L') ≤ 2 := Nat.le_trans (g3.crash_top hb hc) t3
  obtain ⟨u4, f4⟩ := crash_used g3.rok z3 hc
  have hb4 := Base.opened ho hk
  obtain ⟨_, o4, k4, _, _, z4, m4⟩ := openS_on ho hk
  have f5 := open_count ho hk
  have u5 := open_used ho hk
  have f4' : (crashR hj3.r L').L.length ≤ 2 := Nat.le_trans f4 f3
  have u4' : usedL (crashR hj3.r L').L ≤ 12 := Nat.le_trans u4 u3
  have m4' : (openS (crashR hj3.r L')).1.room = 1048576 := by rw [m4]; exact m3
  have g4 : Grows (openS (crashR hj3.r L')).1 (topR (crashR hj3.r L')) (hj4 L') [] 0 := Grows.start hb4 z4
  have hl4 : (hj4 L').last = topR (crashR hj3.r L') := rfl
  have fr4 : (hj4 L').r = (openS (crashR hj3.r L')).1 := rfl
  obtain ⟨c5, b5, z5, l5, w5, v5, m5, u6, n5⟩ := g4.compact_on hb4 (by rw [fr4]; exact o4) (p := [112]) (by decide) (name_ok (.inr rfl) (by rw [hl4]; omega)) (by rw [fr4]; omega) (by rw [fr4, m4']; show (usedL _ : Int) + 6 ≤ _; omega)
  have fr5 : (hj5 L').r = (compactJ (hj4 L') [112]).1.r := rfl
  have f6 : (hj5 L').r.L.length = 1 := count_names b5.rok (ns := [numName snapM ((hj4 L').last + 1)]) (by simp) n5
  have e5 : hj5 L' = ⟨(hj5 L').r, (hj4 L').last + 1, false⟩ := by
    have : hj5 L' = ⟨(hj5 L').r, (hj5 L').last, (hj5 L').wr⟩ := rfl
    rw [show (hj5 L').last = (hj4 L').last + 1 from l5, show (hj5 L').wr = false from w5] at this
    exact this
  have g5 : Grows (hj5 L').r ((hj4 L').last + 1) (hj5 L') [] 0 := by
    have := Grows.start (r0 := (hj5 L').r) (l0 := (hj4 L').last + 1) b5 z5
    rw [← e5] at this
    exact this
  have l5' : (hj5 L').last = (hj4 L').last + 1 := l5
  have m5' : (hj5 L').r.room = 1048576 := by rw [fr5, m5, fr4, m4']
  have u6' : usedL (hj5 L').r.L ≤ 18 := by
    have h1 : usedL (hj5 L').r.L ≤ usedL (hj4 L').r.L + (1 + 5) := u6
    have h2 : usedL (hj4 L').r.L ≤ usedL (crashR hj3.r L').L := u5
    omega
  have o5 : On (hj5 L').r := b5.on
  have c6 : (addJ (hj5 L') [99]).2 = 0 := g5.add0 b5 o5 (by decide) (by rw [l5', hl4]; omega) (by omega) (by rw [m5']; show (usedL _ : Int) + 6 ≤ _; omega)
  have o6 : On (hj6 L').r := (add_on o5 [99]).1
  rcases g5.add b5 [99] with ⟨_, _, ls6, sy6, g6, e6, _⟩ | ⟨hne, _⟩
  rotate_left
  · exact absurd c6 hne
  have g6 : Grows (hj5 L').r ((hj4 L').last + 1) (hj6 L') ls6 sy6 := g6
  have v6 := g6.view b5 o6.1
  have v5' : viewR (hj5 L').r = (((hj4 L').last + 1, [112]), []) := v5
  have lp5 : lastP (hj5 L').r = ((hj4 L').last + 1, [112]) := congrArg Prod.fst v5'
  have rc5 : recsR (hj5 L').r (behindL (hj5 L').r (lastP (hj5 L').r).1) = [] := congrArg Prod.snd v5'
  rw [rc5, e6, lp5] at v6
  have v6' : viewR (hj6 L').r = (((hj4 L').last + 1, [112]), [[99]]) := v6
  have lp6 : lastP (hj6 L').r = ((hj4 L').last + 1, [112]) := congrArg Prod.fst v6'
  have n6 : ls6.length = 1 := by
    have h1 := flat_len (fun l hl => (g6.ok l hl).1)
    rw [e6] at h1
    have h1 : ls6.length ≤ 1 := h1
    have h2 : ls6 ≠ [] := fun e => by rw [e] at e6; cases e6
    have := List.length_pos_iff.2 h2
    omega
  refine ⟨ho, hlast, congrArg Prod.snd hv1, f4', htop, c5, by omega, z5, by rw [l5', hl4]; omega, c6, o6, by rw [lp6], by rw [lp6]; exact Nat.succ_pos _, congrArg Prod.snd v6', ?_⟩
  obtain ⟨_, _, k7, l7, _⟩ := openS_on o6 g6.rok
  refine count_names k7 (ns := [numName snapM ((hj4 L').last + 1), numName logM ((hj4 L').last + 1 + 1 + 0)]) ?_ (fun k => ?_)
  · simp [marks_ne]
  · rw [l7]
    constructor
    · intro h
      by_cases hm : k ∈ stR (hj6 L').r
      · rcases mem_stR.1 hm with ⟨_, e⟩ | ⟨n, hn, e⟩
        · rw [lp6] at e
          rw [e]
          simp
        · have h1 := (behindL_look g6.rok.names).1 hn
          by_cases h2 : n = (hj4 L').last + 1 + 1 + 0
          · rw [e, h2]
            simp
          · have h3 : look (hj6 L').r (numName logM n) = look (hj5 L').r (numName logM n) := g6.old _ (fun i hi e2 => h2 (by have := numName_inj e2; omega))
            rw [h3] at h1
            have h4 := (n5 _).1 h1.2
            have h4 : numName logM n = numName snapM ((hj4 L').last + 1) := by simpa using h4
            exact absurd h4.symm (marks_ne _ _)
      · rw [if_neg hm] at h
        cases h
    · intro h
      have h : k = numName snapM ((hj4 L').last + 1) ∨ k = numName logM ((hj4 L').last + 1 + 1 + 0) := by simpa using h
      rcases h with rfl | rfl
      · have h1 : look (hj6 L').r (numName snapM ((hj4 L').last + 1)) = look (hj5 L').r (numName snapM ((hj4 L').last + 1)) := g6.old _ (fun i _ => marks_ne _ _)
        rw [if_pos (snap_stR.2 (by rw [lp6]; exact ⟨Nat.succ_pos _, rfl⟩)), h1, Option.isSome_map]
        exact (n5 _).2 (by simp)
      · obtain ⟨x, hx, _⟩ := g6.new 0 _ (List.getElem?_eq_getElem (by omega))
        rw [if_pos (log_stR.2 ((behindL_look g6.rok.names).2 ⟨by rw [lp6]; show (hj4 L').last + 1 < _; omega, by rw [hx]; rfl⟩)), hx]
        rfl

section
variable {w0 w : World} {own : Owner} {jb db fb gb A : Nat} {j : JM} {B : Nat}
theorem OwnT.unjo {v : Value} {rs : List (List UInt8)} (h : OwnT B w (jo own jb) v rs) : OwnT B w own v rs := ⟨h.1, fun g hg => (jo_none.1 (h.2 g hg)).2⟩
theorem addr_zero (A : Addr) : A.add 0 = A := by
  unfold Addr.add
  cases A
  simp
  try split <;> simp_all
/-- The texts of a row can be read. -/
theorem OwnT.cell {a : Option Addr} {n c : Nat} {rs : List (List UInt8)} (h : OwnT B w own (.slice a n c) rs) {i : Nat} {r : List UInt8} (hi : rs[i]? = some r) : ∃ A, a = some A ∧ w.cell? (A.add i) = some (.string (strB r)) := by
  have hc := fun g hg => h.1.cells (g := g) hg
  have hil := (List.getElem?_eq_some_iff.1 hi).1
  rcases h.1.2 with ⟨_, h0⟩ | ⟨g, cap, cur, h1, _⟩
  · omega
  · injection h1 with h1
    refine ⟨⟨g, 0, none⟩, h1, ?_⟩
    exact hc g (by rw [h1]; rfl) i _ (by simp [recCells, hi])
end

end Go.Proofs.YtdpbnacabinlgaaGreatDoor
namespace Go.Proofs.YtdpbnacabinlgaaGreatDoor
open Go.RowKit Go.Lib Go.Maps Go.ChangeMaps Go.Sort Go.Shelf

theorem step_low {w w' : World} {own : Owner} (h : Step (fun _ => none) own w w') : Below w.heap.size w w' := h.fr.to_below (Nat.le_refl _) (fun _ _ e => e rfl)

set_option maxHeartbeats 8000000 in
set_option maxRecDepth 100000 in
theorem jhead_calls {w : World} (hv : Vars w (fun _ => none)) : Calls Tryz.prog 10 #[] w fun e w' => e = .returned (.bool true) ∧ Below w.heap.size w w' := by
  have hbig := hv.lt
  have HNEW := Lib.hid (LW.new hv (room := 1048576) (by decide))
  clear hv
  go_enter Tryz.func10, Tryz.ntmps10
  go_wp2_with fail
  refine HNEW.out.mono ?_
  rintro e w1 ⟨db, fb, gb, own1, rfl, h1⟩
  have HO := Lib.hid (h1.opens (by omega) hbig (On.new 1048576))
  clear h1 HNEW
  go_wp2_with fail
  refine HO.out.mono ?_
  rintro e w2 ⟨jb, own2, ra2, rc2, rfl, h2, _, _, _, _⟩
  rw [new_lastP, new_view]
  rw [new_topR] at h2
  have h2 : JW w w2 own2 jb db fb gb (0 + 201) (newJ 1048576) := h2
  obtain ⟨c1, c2, c3, k1, k2, k3, k4, k5, k6, k7, _⟩ := head_one
  have HA := Lib.hid (h2.add (s := ⟨#[97]⟩) (by omega) k1 (newJ_facts 1048576).1 (Nat.zero_le _) (by decide))
  clear h2 HO
  go_wp2_with fail
  refine HA.out.mono ?_
  rintro e w3 ⟨rfl, own3, h3, _⟩
  rw [show (addJ (newJ 1048576) (⟨#[97]⟩ : ByteArray).data.toList).2 = 0 from c1]
  have h3 : JW w w3 own3 jb db fb gb (0 + 201 + 2) hj1 := h3
  have HA := Lib.hid (h3.sync (by omega))
  clear h3
  go_wp2_with fail
  refine HA.out.mono ?_
  rintro e w4 ⟨rfl, own4, h4, _⟩
  rw [c2]
  have h4 : JW w w4 own4 jb db fb gb (0 + 201 + 2 + 1) hj2 := h4
  have HA := Lib.hid (h4.add (s := ⟨#[98]⟩) (by omega) k3 k4 (by omega) (by decide))
  clear h4
  go_wp2_with fail
  refine HA.out.mono ?_
  rintro e w5 ⟨rfl, own5, h5, _⟩
  rw [show (addJ hj2 (⟨#[98]⟩ : ByteArray).data.toList).2 = 0 from c3]
  have h5 : JW w w5 own5 jb db fb gb (0 + 201 + 2 + 1 + 2) hj3 := h5
  have HA := Lib.hid (h5.lw.crash (kv := .slice none 0 0) (ks := []) (.inl ⟨rfl, rfl⟩) (by decide))
  clear h5
  go_wp2_with fail
  refine HA.out.mono ?_
  rintro e w6 ⟨rfl, own6, L', hc, h6, _⟩
  obtain ⟨d1, d2, d3, d4, d5, d6, d7, d8, d9, d10, d11, d12, d13, d14, d15⟩ := head_two hc
  have HA := Lib.hid (h6.opens (by omega) hbig d1)
  clear h6
  go_wp2_with fail
  refine HA.out.mono ?_
  rintro e w7 ⟨jb7, own7, ra7, rc7, rfl, h7, _, _, _, t7⟩
  rw [d2, d3]
  rw [d3] at t7
  have h7 : JW w w7 own7 jb7 db fb gb (0 + 201 + 2 + 1 + 2 + 201) (hj4 L') := h7
  have T7 := Lib.hid t7
  have HA := Lib.hid (h7.compact (s := ⟨#[112]⟩) (by omega) (by show topR _ ≤ _; omega) (by decide))
  clear h7 t7
  go_wp2_with fail
  refine HA.out.mono ?_
  rintro e w8 ⟨rfl, own8, h8, _, _, _, s8⟩
  rw [show (compactJ (hj4 L') (⟨#[112]⟩ : ByteArray).data.toList).2 = 0 from d6]
  have h8 := h8 d8 d7
  have h8 : JW w w8 own8 jb7 db fb gb (0 + 201 + 2 + 1 + 2 + 201 + 300) (hj5 L') := h8
  have T8 := Lib.hid (T7.out.step s8)
  have HA := Lib.hid (h8.add (s := ⟨#[99]⟩) (by omega) d7 d8 (by omega) (by decide))
  clear h8 s8 T7
  go_wp2_with fail
  refine HA.out.mono ?_
  rintro e w9 ⟨rfl, own9, h9, s9⟩
  rw [show (addJ (hj5 L') (⟨#[99]⟩ : ByteArray).data.toList).2 = 0 from d10]
  have h9 : JW w w9 own9 jb7 db fb gb (0 + 201 + 2 + 1 + 2 + 201 + 300 + 2) (hj6 L') := h9
  have T9 := Lib.hid (T8.out.step s9).unjo
  have HA := Lib.hid (h9.lw.opens (by omega) hbig d11)
  clear h9 s9 T8
  go_wp2_with fail
  refine HA.out.mono ?_
  rintro e w10 ⟨jb10, own10, ra10, rc10, rfl, h10, _, _, s10, t10⟩
  rw [d12, d14]
  rw [d14] at t10
  have hd : decide (0 < (lastP (hj6 L').r).1) = true := by simpa using d13
  rw [hd]
  obtain ⟨a7, rfl, y7⟩ := (T9.out.step s10).cell (i := 0) (r := [97]) rfl
  obtain ⟨a10, rfl, y10⟩ := t10.cell (i := 0) (r := [99]) rfl
  have HN := Lib.hid (h10.dev.dev.names (by omega))
  have hfin : Hid ((openS (hj6 L').r).1.L.length = 2) := d15
  have HB := Lib.hid h10.st
  clear h10 s10 t10 T9 d1 d2 d3 d4 d5 d6 d7 d8 d9 d10 d11 d12 d13 d14 d15 hc hd HA
  rw [addr_zero] at y7 y10
  rw [show strB [97] = ⟨#[97]⟩ from rfl] at y7
  rw [show strB [99] = ⟨#[99]⟩ from rfl] at y10
  rw [show strB [112] = ⟨#[112]⟩ from rfl, show ([[99]] : List (List UInt8)).length = 1 from rfl]
  obtain ⟨nl, hnl⟩ : ∃ nl, (openS (hj6 L').r).1.L.length = nl := ⟨_, rfl⟩
  have hfin2 : nl = 2 := by rw [← hnl]; exact hfin.out
  subst hfin2
  rw [hnl] at HN
  clear hnl hfin
  go_wp2_with (go_at_call 30; refine HN.out.mono ?_; rintro e w11 ⟨na, nc, rfl, _, _, hb11⟩)
  go_ret
  exact ⟨rfl, (step_low HB.out).trans (hb11.mono HB.out.fr.size)⟩

set_option maxHeartbeats 4000000 in
set_option maxRecDepth 100000 in
theorem jopened_calls {w : World} (hv : Vars w (fun _ => none)) : Calls Tryz.prog 29 #[] w fun e w' => ∃ jb db fb gb own, e = .returned (.tuple #[.pointer (some ⟨db, 0, none⟩), .pointer (some ⟨jb, 0, none⟩), .bool true]) ∧ JW w w' own jb db fb gb 201 (newJ 4194304) := by
  have hbig := hv.lt
  have HNEW := Lib.hid (LW.new hv (room := 4194304) (by decide))
  clear hv
  go_enter Tryz.func29, Tryz.ntmps29
  go_wp2_with fail
  refine HNEW.out.mono ?_
  rintro e w1 ⟨db, fb, gb, own1, rfl, h1⟩
  have HO := Lib.hid (h1.opens (by omega) hbig (On.new 4194304))
  clear h1 HNEW
  go_wp2_with fail
  refine HO.out.mono ?_
  rintro e w2 ⟨jb, own2, ra2, rc2, rfl, h2, _, _, _, _⟩
  rw [new_lastP, new_view]
  rw [new_topR] at h2
  have H2 : Hid (JW w w2 own2 jb db fb gb (0 + 201) (newJ 4194304)) := h2
  clear h2 HO
  go_wp2_with fail
  refine bodyPost_ret (v := .tuple #[.pointer (some ⟨db, 0, none⟩), .pointer (some ⟨jb, 0, none⟩), .bool true]) (by simp [results, go_sem]) rfl ?_
  exact ⟨jb, db, fb, gb, own2, rfl, H2.out⟩

end Go.Proofs.YtdpbnacabinlgaaGreatDoor
namespace Go.Proofs.YtdpbnacabinlgaaGreatDoor
open Go.RowKit Go.Lib Go.Maps Go.ChangeMaps Go.Sort Go.Shelf

/-- A crash changes nothing where all is synced. -/
theorem crash_settled {r : RDm} (hk : ROk r) (hs : Settled r) (hg : r.Gone = []) (ho : r.off = false) {ks : List (ByteArray × Int)} {L' : List RF} (hc : Crashed ks r L') : viewR (crashR r L') = viewR r := by
  refine viewR_congr (hk.crash hc).1 hk rfl ho fun k => ?_
  rw [look_crash0 hg hc]
  cases hl : look r k with
  | none => rfl
  | some x =>
    obtain ⟨h1, h2⟩ := hs k x hl
    show ((crashF ks k x).map settleF).map _ = _
    rw [settle_crash h1 h2]

section
variable {w0 w w' : World} {own own' : Owner} {jb db fb gb A B : Nat} {j : JM} {r : RDm}

theorem OwnT.trow {a : Option Addr} {c : Nat} {rs : List (List UInt8)} (h : OwnT B w own (.slice a rs.length c) rs) (hs : ∀ x ∈ rs, x.length ≤ maxLen) : TRow w a rs := by
  obtain ⟨a', c', e, ht, _⟩ := TRow.of_owns h.1 hs
  injection e with e
  rw [e]
  exact ht

theorem LW.recs_le (h : LW w0 w own db fb gb A r) : ∀ x ∈ (viewR r).2, x.length ≤ 262144 := fun x hx => by
  have hx : x ∈ recsR r (behindL r (lastP r).1) := hx
  unfold recsR at hx
  obtain ⟨l, hl, hx⟩ := List.mem_flatten.1 hx
  obtain ⟨n, _, rfl⟩ := List.mem_map.1 hl
  exact Nat.le_trans (cutB_each hx) (bytesR_le h.dev _)

theorem LW.recs_len (h : LW w0 w own db fb gb A r) : (viewR r).2.length ≤ 53000000 := by
  have h1 := recsR_len h.dev (behindL r (lastP r).1)
  have h2 := behindL_len r (lastP r).1
  have h3 := h.dev.len_le
  have h4 : (behindL r (lastP r).1).length * 262144 ≤ 200 * 262144 := Nat.mul_le_mul_right _ (by omega)
  show (recsR r _).length ≤ _
  omega

/-- A journal with the power on, to which some records were added. -/
def AddI (w0 wr : World) (jb db fb gb A k : Nat) : Prop := ∃ own j, JW w0 wr own jb db fb gb (A + 2 * k) j ∧ On j.r ∧ j.r.L.length ≤ 64 ∧ j.r.Gone = [] ∧ j.last ≤ k

theorem AddI.start {room : Int} (h : JW w0 w own jb db fb gb A (newJ room)) : AddI w0 w jb db fb gb A 0 := by
  obtain ⟨h1, h2, _⟩ := newJ_facts room
  exact ⟨own, newJ room, h, (newJ_base room).on, by omega, h1, Nat.le_refl _⟩
theorem AddI.below {k : Nat} (h : AddI w0 w jb db fb gb A k) (hb : Below w.heap.size w w') : AddI w0 w' jb db fb gb A k := by
  obtain ⟨own, j, h1, h2⟩ := h
  exact ⟨own, j, h1.below hb, h2⟩
theorem AddI.add {k : Nat} (h : AddI w0 w jb db fb gb A k) (hA : A + 2 * k ≤ 800000000000) (hk : k ≤ 100000000000000000) {s : ByteArray} (hs : s.size ≤ maxLen) :
    Calls Tryz.prog 23 #[.pointer (some ⟨jb, 0, none⟩), .string s] w fun e w' => ∃ c, e = .returned (.int .i64 c) ∧ AddI w0 w' jb db fb gb A (k + 1) := by
  obtain ⟨own, j, h1, h2, h3, h4, h5⟩ := h
  refine (h1.add hA h3 h4 (by omega) hs).mono ?_
  rintro e w' ⟨rfl, own', h6, _⟩
  obtain ⟨k1, k2, k3, k4⟩ := add_few h3 h4 s.data.toList
  exact ⟨_, rfl, own', _, h6, (add_on h2 _).1, k1, k2, by omega⟩
end

end Go.Proofs.YtdpbnacabinlgaaGreatDoor
namespace Go.Proofs.YtdpbnacabinlgaaGreatDoor
open Go.RowKit Go.Lib Go.Maps Go.ChangeMaps Go.Sort Go.Shelf

set_option maxHeartbeats 16000000 in
set_option maxRecDepth 100000 in
theorem keeps_walk {w : World} (hv : Vars w (fun _ => none)) (a : Option Addr) (c : Nat) (rs : List (List UInt8)) (hx : TRow w a rs) (hl : rs.length ≤ maxLen)
    (ka : Option Addr) (kc : Nat) (ks : List (ByteArray × Int)) (hks : KArg w (fun _ => none) (.slice ka ks.length kc) ks) (hkl : ks.length ≤ 1000000000000000)
    (ma : Option Addr) (mc : Nat) (ms : List (ByteArray × Int)) (hms : KArg w (fun _ => none) (.slice ma ms.length mc) ms) (hml : ms.length ≤ 1000000000000000) :
    Calls Tryz.prog 9 #[.slice a rs.length c, .slice ka ks.length kc, .slice ma ms.length mc] w fun e w' => e = .returned (.bool true) ∧ Below w.heap.size w w' := by
  unfold maxLen at hl
  have HV := Lib.hid hv
  have HX := Lib.hid hx
  have HKS := Lib.hid hks
  have HMS := Lib.hid hms
  obtain ⟨l, hrl⟩ : ∃ l, rs.length = l := ⟨_, rfl⟩
  have Hl := Lib.hid hrl
  rw [hrl] at hl ⊢
  obtain ⟨kl, hk2⟩ : ∃ kl, ks.length = kl := ⟨_, rfl⟩
  have Hkl := Lib.hid hk2
  rw [hk2] at hkl ⊢
  obtain ⟨ml, hm2⟩ : ∃ ml, ms.length = ml := ⟨_, rfl⟩
  have Hml := Lib.hid hm2
  rw [hm2] at hml ⊢
  have hwr : IntKind.i64.wrap ((kl : Int) + (ml : Int)) = ((kl + ml : Nat) : Int) := by rw [IntWalk.i64_in _ ⟨by omega, by omega⟩]; omega
  clear hv hx hks hms hrl hk2 hm2
  go_enter Tryz.func9, Tryz.ntmps9
  go_wp2_with fail
  refine (jhead_calls HV.out).mono ?_
  rintro e w1 ⟨rfl, hb1⟩
  have HB1 := Lib.hid hb1
  have HV1 := Lib.hid (HV.out.below hb1)
  clear hb1
  go_wp2_with fail
  refine (jopened_calls HV1.out).mono ?_
  rintro e w2 ⟨jb, db, fb, gb, own2, rfl, hj2⟩
  have HI := Lib.hid (AddI.start hj2)
  have HB2 := Lib.hid (HB1.out.trans ((step_low hj2.st).mono HB1.out.size))
  have H12 := Lib.hid (step_low hj2.st)
  have hbig : 2 < w1.heap.size := hj2.big
  clear hj2
  go_wp2_with fail
  go_loop [11, 12] (fun n i => ∃ k nn : Nat, k ≤ l ∧ i = .int .i64 k ∧ n = .int .i64 nn ∧ nn ≤ kl + ml + 40001 ∧ kl + ml ≤ nn) (fun _ i => l - (intOf i).toNat)
  case atStart => exact ⟨0, kl + ml, Nat.zero_le _, rfl, rfl, by omega, by omega⟩
  case round =>
    obtain ⟨k, nn, hk, rfl, rfl, hnb, hnk⟩ := hrel
    by_cases hgo : k < l ∧ nn < 20000
    · obtain ⟨hlt, hn2⟩ := hgo
      obtain ⟨s, hs⟩ : ∃ s, rs[k]? = some s := ⟨_, List.getElem?_eq_getElem (by rw [Hl.out]; exact hlt)⟩
      obtain ⟨ad, rfl, hcell, hss⟩ := (HX.out.below HB2.out) k s hs
      unfold maxLen at hss
      have hsz : (strB s).size = s.length := strB_size s
      have hss1 : (strB s).size ≤ 9223372036854775807 := by omega
      have hd : decide ((nn : Int) < 20000) = true := by simp; omega
      have hT0 : (0 : Int) ≤ min ((strB s).size : Int) 20000 := by omega
      have hT1 : min ((strB s).size : Int) 20000 ≤ 20000 := by omega
      have hcast : ((nn : Int) + 1 + min ((strB s).size : Int) 20000) = ((nn + 1 + min (strB s).size 20000 : Nat) : Int) := by omega
      have Hcast := Lib.hid hcast
      clear hs hsz hcast
      go_wp2
      go_round
      case rel => exact ⟨k + 1, nn + 1 + min (strB s).size 20000, by omega, by go_num, by rw [Hcast.out], by omega, by omega⟩
      case measure => simp [intOf]; omega
    · by_cases hbg : 20000 ≤ nn
      · have hd2 : decide ((nn : Int) < 20000) = false := by simp; omega
        have hd3 : decide ((20000 : Int) ≤ (nn : Int)) = true := by simp; omega
        by_cases hlt : k < l
        all_goals
          go_wp2
          go_ret
          exact ⟨rfl, HB2.out⟩
      · have hlt : ¬ k < l := by omega
        have hd3 : decide ((20000 : Int) ≤ (nn : Int)) = false := by simp; omega
        by_cases h60 : 60 < l
        · have hd4 : decide ((60 : Int) < (l : Int)) = true := by simp; omega
          go_wp2
          go_ret
          exact ⟨rfl, HB2.out⟩
        · have hd4 : decide ((60 : Int) < (l : Int)) = false := by simp; omega
          have HKL : Hid (kl ≤ 1000000000000 ∧ ml ≤ 1000000000000) := ⟨by omega, by omega⟩
          clear hnb hgo hbg hnk
          go_wp2_with fail
          go_loopw [13] (fun i wr => ∃ k : Nat, k ≤ l ∧ i = .int .i64 k ∧ Hid (AddI w1 wr jb db fb gb 201 k)) (fun i _ => l - (intOf i).toNat)
          case atStart => exact ⟨0, Nat.zero_le _, rfl, HI.out⟩
          case round =>
            obtain ⟨k2, hk2, rfl, HA⟩ := hrel
            by_cases hlt2 : k2 < l
            · obtain ⟨s, hs⟩ : ∃ s, rs[k2]? = some s := ⟨_, List.getElem?_eq_getElem (by rw [Hl.out]; exact hlt2)⟩
              have hbw : Below w1.heap.size w1 wr := by obtain ⟨_, _, h1, _⟩ := HA.out; exact step_low h1.st
              obtain ⟨ad, rfl, hcell, hss⟩ := (HX.out.below (HB1.out.trans (hbw.mono HB1.out.size))) k2 s hs
              have hsz : (strB s).size = s.length := strB_size s
              have HADD := Lib.hid (HA.out.add (s := strB s) (by omega) (by omega) (by rw [hsz]; exact hss))
              clear hs hsz hss hbw
              go_wp2_with fail
              refine HADD.out.mono ?_
              rintro e w3 ⟨ec, rfl, h3⟩
              have H3 := Lib.hid h3
              clear h3 HADD
              go_wp2_with fail
              go_roundw
              case rel => exact ⟨k2 + 1, by omega, by go_num, H3⟩
              case measure => simp [intOf]; omega
            · obtain ⟨own, j, h1, h2, h3, h4, h5⟩ := HA.out
              have hst : Step (fun _ => none) own w wr := (below_step _ HB1.out).trans h1.lw.st
              have HC := Lib.hid (h1.lw.crash (HKS.out.step hst) (by rw [Hkl.out]; exact HKL.out.1))
              rw [Hkl.out] at HC
              have HST : Hid (Step (fun _ => none) own w wr) := hst
              clear h1 h2 h3 h4 h5 hst
              go_wp2_with fail
              refine HC.out.mono ?_
              rintro e w4 ⟨rfl, own4, L4, hc4, h4, s4⟩
              obtain ⟨r4, hr4⟩ : ∃ r4, crashR j.r L4 = r4 := ⟨_, rfl⟩
              have ho4 : On r4 := by rw [← hr4]; exact On.crash _ _
              rw [hr4] at h4
              have HK4 : Hid (ROk r4) := h4.dev.rok
              have HO := Lib.hid (h4.opens (by omega) hbig ho4)
              have HE4 : Hid (∀ x ∈ (viewR r4).2, x.length ≤ 262144) := h4.recs_le
              have HE5 : Hid ((viewR r4).2.length ≤ 53000000) := h4.recs_len
              have HST4 := Lib.hid (HST.out.trans s4)
              clear h4 hc4 s4 hr4 HC HST
              go_wp2_with fail
              refine HO.out.mono ?_
              rintro e w5 ⟨jb5, own5, ra5, rc5, rfl, h5, _, _, s5, t5⟩
              obtain ⟨_, o5, k5, _, se5, g5, _⟩ := openS_on ho4 HK4.out
              have hv5 := view_open ho4 HK4.out
              have HT5 := Lib.hid t5.unjo
              have HST5 := Lib.hid (HST4.out.trans s5)
              obtain ⟨r5, hr5⟩ : ∃ r5, (openS r4).1 = r5 := ⟨_, rfl⟩
              rw [hr5] at h5 o5 k5 se5 g5 hv5
              have hst5 : Step (fun _ => none) own5 w w5 := ⟨HST5.out.fr, fun b hb e => (jo_none.1 (HST5.out.own b hb e)).2⟩
              have HC := Lib.hid (h5.lw.crash (HMS.out.step hst5) (by rw [Hml.out]; exact HKL.out.2))
              rw [Hml.out] at HC
              clear h5 s5 t5 hst5 hr5 HO
              obtain ⟨xs, hxs⟩ : ∃ xs, (viewR r4).2 = xs := ⟨_, rfl⟩
              rw [hxs] at HT5 HE4 HE5 ⊢
              have HV5 : Hid ((viewR r5).2 = xs) := by rw [hv5]; exact hxs
              have HS5 : Hid (∀ L', Crashed ms r5 L' → viewR (crashR r5 L') = viewR r5) := fun L' hc => crash_settled k5 se5 g5 o5.1 hc
              have HK5 := Lib.hid k5
              clear hv5 hxs o5 k5 se5 g5
              go_wp2_with fail
              refine HC.out.mono ?_
              rintro e w6 ⟨rfl, own6, L6, hc6, h6, s6⟩
              have HT6 := Lib.hid (HT5.out.step s6)
              have HV6 : Hid ((viewR (crashR r5 L6)).2 = xs) := by rw [HS5.out L6 hc6]; exact HV5.out
              obtain ⟨r6, hr6⟩ : ∃ r6, crashR r5 L6 = r6 := ⟨_, rfl⟩
              have ho6 : On r6 := by rw [← hr6]; exact On.crash _ _
              rw [hr6] at h6 HV6
              have HO := Lib.hid (h6.opens (by omega) hbig ho6)
              clear h6 hc6 s6 hr6 HC HT5 HS5
              go_wp2_with fail
              refine HO.out.mono ?_
              rintro e w7 ⟨jb7, own7, ra7, rc7, rfl, h7, _, s7a, s7, t7⟩
              rw [HV6.out] at t7 ⊢
              have hm : ∀ x ∈ xs, x.length ≤ maxLen := fun x hx => by have := HE4.out x hx; unfold maxLen; omega
              have y5 := (HT6.out.step s7a).trow hm
              have y7 := t7.trow hm
              have HS : Hid (Calls Tryz.prog 17 #[.slice ra5 xs.length rc5, .slice ra7 xs.length rc7] w7 fun e w' => e = .returned (.bool true) ∧ ∃ n, w' = w7.drewN n) :=
                (same_calls w7 ra5 ra7 rc5 rc7 xs xs y5 y7 (by have := HE5.out; unfold maxLen; omega) (by have := HE5.out; unfold maxLen; omega)).mono fun e w' h => ⟨by rw [h.1]; simp, h.2⟩
              have HB7 := Lib.hid (HB1.out.trans ((step_low h7.st).mono HB1.out.size))
              clear h7 s7a s7 t7 y5 y7 hm HO HV6
              go_wp2_with (go_at_call 17; refine HS.out.mono ?_; rintro e w8 ⟨rfl, nq, rfl⟩)
              go_ret
              exact ⟨rfl, below_drewN HB7.out _⟩

end Go.Proofs.YtdpbnacabinlgaaGreatDoor
namespace Go.Proofs.YtdpbnacabinlgaaGreatDoor
open Go.ChangeShapes Go.WideShapes Go.ChangeAt Go.RowKit Go.Lib Go.Joins Go.Deep

theorem sized_mem {H : Type} {P : Program} {ts : List TypeId} {ds : List (DataW H)} (h : (DataW.weightsEach P ts ds).all (· ≤ reachBytes) = true) {j : Nat} {t : TypeId} {d : DataW H} (ht : ts[j]? = some t) (hd : ds[j]? = some d) : ∀ n ∈ d.weights P t, n ≤ reachBytes := fun n hn => by
  have := List.all_eq_true.1 h n (DataW.weights_mem_each ht hd n hn)
  simpa using this

section
variable {H : Type} {enc : TypeId × Value → H} {w : World} {base : Nat} {spare : Nat → Bool} {held : Bool}
/-- What is kept is no more than memory can hold. -/
theorem kepts_reach {fuel : Nat} {a : Option Addr} {len cap : Nat} {x : DataW H × List MemPlace} (h : DataW.trod enc Tryz.prog w base spare held fuel 41 [.slice a len cap] = some x) (hw : ∀ q ∈ x.1.weights Tryz.prog 41, q ≤ reachBytes) : len ≤ 1000000000000000 := by
  rcases open_slice Tryz.underlying41 h with ⟨hcs, _⟩ | ⟨A, l, c, m, n, D, Pl, hcs, _, _, _, hmm, hx, _⟩
  · simp at hcs
    rw [hcs.2.1]; decide
  · simp at hcs
    obtain ⟨rfl, rfl, rfl⟩ := hcs
    have hby : Tryz.prog.bytesOf 67 = 24 := by kernel_rfl
    have h1 := hw ((len + (m - len)) * 24) (by
      rw [hx]
      simp only [DataW.weights, Tryz.underlying41, hby, List.length_map, List.length_range, List.mem_cons, true_or])
    have h2 := reachBytes_lt
    have h3 : len * 24 ≤ (len + (m - len)) * 24 := Nat.mul_le_mul_right _ (by omega)
    have h4 : (2 : Nat) ^ 47 = 140737488355328 := by decide
    omega
end

theorem xown_ : ownKnob Tryz.prog.godebug = none := by kernel_rfl
theorem xlaidOut : laidOutB Tryz.prog = true := by kernel_rfl
theorem xtTab : (Tryz.prog.globals[0]?).map (·.type) = some 196 := by kernel_rfl
theorem xtSyn : (Tryz.prog.globals[1]?).map (·.type) = some 149 := by kernel_rfl
theorem xtRan : (Tryz.prog.globals[2]?).map (·.type) = some 149 := by kernel_rfl

def laidX {H : Type} : List (String × DataW H) := [("math/bits.deBruijn32tab", Rows.laid_math_bits_deBruijn32tab), ("math/bits.deBruijn64tab", Rows.laid_math_bits_deBruijn64tab), ("internal/strconv.uint64pow10", Rows.laid_internal_strconv_uint64pow10), ("strconv.ErrRange", Rows.laid_strconv_ErrRange), ("strconv.ErrSyntax", Rows.laid_strconv_ErrSyntax)]

set_option maxRecDepth 100000 in
/-- The door's own heap meets the condition. -/
theorem xdoor_met (os : Os) (args : Array Value) : laidMetH Tryz.prog laidX ((World.doorLaid Tryz.prog 62 os).forCall (fun _ _ => 0) ⟨#[], args, []⟩).memory :=
  laidMetH_of_parts3 (fuel := 8) (laidMet_of_run' 8 (by kernel_rfl) (by kernel_rfl)) (by kernel_rfl) (by kernel_rfl)

set_option maxRecDepth 100000 in
theorem vars_of_laid {W : World} (h : laidMetH Tryz.prog laidX W) : Vars W (fun _ => none) := by
  rw [MakeChecks.laidMetH_plain _ _ _ (by kernel_rfl)] at h
  obtain ⟨ps, ⟨g0, t0, cs0, f0, p0, q0, hg0, ht0, hv0, hd0, ⟨g1, t1, cs1, f1, p1, q1, hg1, ht1, hv1, hd1, ⟨g2, t2, cs2, f2, p2, q2, hg2, ht2, hv2, hd2, ⟨g3, t3, cs3, f3, p3, q3, hg3, ht3, hv3, hd3, ⟨g4, t4, cs4, f4, p4, q4, hg4, ht4, hv4, hd4, _, _⟩, _⟩, _⟩, _⟩, _⟩, _⟩ := h
  obtain rfl := Option.some.inj (gTab.symm.trans hg2)
  obtain rfl := Option.some.inj (gRan.symm.trans hg3)
  obtain rfl := Option.some.inj (gSyn.symm.trans hg4)
  obtain rfl := Option.some.inj (xtTab.symm.trans ht2)
  obtain rfl := Option.some.inj (xtRan.symm.trans ht3)
  obtain rfl := Option.some.inj (xtSyn.symm.trans ht4)
  have e2 := cells_of_tab (zs := pow10Tab) Tryz.underlying196 Tryz.underlying164 (by kernel_rfl) (by kernel_rfl) hd2
  obtain ⟨l3⟩ := cs3
  obtain ⟨l4⟩ := cs4
  obtain ⟨_, u3, v3, e3, _, _⟩ := iface_of_trod Tryz.underlying149 hd3
  obtain ⟨_, u4, v4, e4, _, _⟩ := iface_of_trod Tryz.underlying149 hd4
  have e3' : l3 = [.iface u3 v3] := e3
  have e4' : l4 = [.iface u4 v4] := e4
  subst e3' e4'
  refine ⟨?_, ⟨u4, v4, hv4⟩, ⟨u3, v3, hv3⟩, ⟨rfl, rfl, rfl⟩, ?_⟩
  · unfold TabIs
    rw [hv2]
    congr 1
    apply Array.ext'
    rw [e2]
  · simp only [World.var?, gRan, Option.bind_some] at hv3
    cases h2 : W.heap[2]? with
    | none => rw [h2] at hv3; cases hv3
    | some o => exact (Array.getElem?_eq_some_iff.1 h2).1

end Go.Proofs.YtdpbnacabinlgaaGreatDoor
namespace Go.Proofs.YtdpbnacabinlgaaGreatDoor
open Go.ChangeShapes Go.WideShapes Go.ChangeAt Go.RowKit Go.Lib Go.Deep
open Go.ChangeMaps (open_string shut_string)

theorem fown_ : ownKnob Tryz.prog.godebug = none := by kernel_rfl
theorem flaidOut : laidOutB Tryz.prog = true := by kernel_rfl
theorem fcellsStr : Tryz.prog.cellsOf 9 = 1 := by kernel_rfl

section
variable {H : Type} {enc : TypeId × Value → H} {w : World} {base : Nat} {spare : Nat → Bool} {held : Bool}

/-- A list of texts that came in. -/
theorem open_texts {fuel : Nat} {a : Option Addr} {len cap : Nat} {x : DataW H × List MemPlace} (h : DataW.trod enc Tryz.prog w base spare held fuel 32 [.slice a len cap] = some x) :
    ∃ rs : List (List UInt8), len = rs.length ∧ TRow w a rs ∧ rs.length ≤ maxLen := by
  rcases open_strs Tryz.underlying32 Tryz.underlying9 fcellsStr h with ⟨hcs, _⟩ | ⟨A, l, c, m, Sx, hcs, _, hl, hm, hmm, _, hx⟩
  · simp at hcs
    obtain ⟨rfl, rfl, rfl⟩ := hcs
    exact ⟨[], rfl, fun j s hj => by simp at hj, Nat.zero_le _⟩
  · simp at hcs
    obtain ⟨rfl, rfl, rfl⟩ := hcs
    have hlm : len ≤ m := by rw [hmm]; split <;> omega
    refine ⟨(List.range len).map fun i => (Sx i).data.toList, by simp, fun j s hj => ?_, by simp; omega⟩
    obtain ⟨hjl, rfl⟩ := List.getElem?_eq_some_iff.1 hj
    simp at hjl
    obtain ⟨h1, h2⟩ := hx j (by omega)
    refine ⟨A, rfl, ?_, ?_⟩
    · simp only [List.getElem_map, List.getElem_range, strB_of]
      exact h1
    · simp only [List.getElem_map, List.getElem_range]
      have : (Sx j).data.toList.length = (Sx j).size := by simp
      omega

/-- Bytes that came in. -/
theorem open_frow {fuel : Nat} {a : Option Addr} {len cap : Nat} {x : DataW H × List MemPlace} (h : DataW.trod enc Tryz.prog w base spare held fuel 49 [.slice a len cap] = some x) :
    ∃ bs : List UInt8, len = bs.length ∧ BRow w (.slice a bs.length cap) bs := by
  rcases open_slice1 Tryz.underlying49 (by kernel_rfl) h with ⟨hcs, _⟩ | ⟨A, l, c, m, n, V, D, Pl, hcs, _, hl, hm, hmm, _, hx⟩
  · simp at hcs
    obtain ⟨rfl, rfl, rfl⟩ := hcs
    exact ⟨[], rfl, none, 0, rfl, Nat.le_refl _, Nat.zero_le _, fun _ => rfl, fun j x hj => by simp at hj⟩
  · simp at hcs
    obtain ⟨rfl, rfl, rfl⟩ := hcs
    have hlm : len ≤ m := by rw [hmm]; split <;> omega
    have hall : ∀ i, i < len → ∃ q : UInt8, w.cell? (A.add i) = some (.int .u8 q.toNat) := fun i hi => by
      obtain ⟨e0, t0⟩ := hx i (by omega)
      obtain ⟨v, h4, _, h6⟩ := DataW.trod_int Tryz.underlying5 t0
      simp at h4
      have h7 : (0 : Int) ≤ v ∧ v ≤ 255 := by
        have h8 : (decide ((0 : Int) ≤ v) && decide (v ≤ 255)) = true := h6
        simpa using h8
      refine ⟨UInt8.ofNat v.toNat, ?_⟩
      rw [e0, h4]
      congr 2
      simp
      omega
    obtain ⟨q, hq⟩ := choose_lt hall
    refine ⟨(List.range len).map q, by simp, some A, cap, rfl, by simpa using hl, hm, (fun e => by cases e), fun j y hj => ⟨A, rfl, ?_⟩⟩
    obtain ⟨hjl, rfl⟩ := List.getElem?_eq_some_iff.1 hj
    simp at hjl ⊢
    exact hq j hjl
end

namespace frameBack
end frameBack
end Go.Proofs.YtdpbnacabinlgaaGreatDoor
namespace Go.Proofs.YtdpbnacabinlgaaGreatDoor
open Go.ChangeShapes Go.WideShapes Go.ChangeAt Go.RowKit Go.Lib Go.Deep Go.Joins
open Go.ChangeMaps (open_string shut_string)

namespace journalKeeps
set_option maxRecDepth 100000 in
theorem lifted (os : Os) (started : os.Started) (H : Type) (enc : TypeId × Value → H) :
    ReturnsInHanded {} Tryz.checked os 9 .any (fun w args => (Rows.journalKeepsSpec.pre enc Tryz.prog Tryz.f9 [] false w args ∧ laidMetH Tryz.prog laidX w) ∧ sizedMet enc Tryz.prog Tryz.f9 (OpenSpec.ofChange Rows.journalKeepsSpec) false w args)
      (Rows.journalKeepsSpec.post enc Tryz.prog Tryz.f9 false true false false) := by
  refine returnsInHanded_of_change_and (C := Tryz.checked) (X := fun w _ => laidMetH Tryz.prog laidX w) (fun _ _ _ hh h => h.of_heap hh) xown_ started (by kernel_rfl) Tryz.func9
    (ChangeSpec.witness_shaped (enc := enc) (C := Tryz.checked) (os := os) (X := fun w _ => laidMetH Tryz.prog laidX w) false (World.doorLaid Tryz.prog 62 os) #[.slice none 0 0, .slice none 0 0, .slice none 0 0] 8 rfl (World.shaped_of_RefB (by kernel_rfl) (by kernel_rfl)) (by kernel_rfl) (by kernel_rfl) (by kernel_rfl) (xdoor_met os _)) ?_
  intro W base args ds gs before hval0 hW _ hsz hL _
  have hT := vars_of_laid hL
  have hval : ∀ (j : Nat) t v, Tryz.f9.params[j]? = some t → args[j]? = some v → Value.okWide Tryz.prog W .any base t v := hval0
  have hW' := hW
  obtain ⟨p, q, hA0, hV, rfl, _, _⟩ := hW
  have hA : DataW.TrodAll enc Tryz.prog W 0 (fun _ => true) true Tryz.f9.params.toList args.toList ds p := hA0
  rw [Tryz.params9] at hA hval
  obtain ⟨v0, vs0, d0, ds0, p0, q0, hargs, rfl, rfl, h0, r0⟩ := trodAll_cons hA
  obtain ⟨v1, vs1, d1, ds1, p1, q1, rfl, rfl, rfl, h1, r1⟩ := trodAll_cons r0
  obtain ⟨v2, vs2, d2, ds2, p2, q2, rfl, rfl, rfl, h2, r2⟩ := trodAll_cons r1
  obtain ⟨rfl, rfl, rfl⟩ := trodAll_nil r2
  obtain rfl : args = #[v0, v1, v2] := by cases args; simp_all
  obtain ⟨rfl, rfl⟩ := trodVars_none hV
  have lt0 : ∀ x ∈ p0, x.block < W.heap.size := by obtain ⟨m, hm⟩ := h0; exact DataW.trod_lt m _ _ _ hm
  have lt1 : ∀ x ∈ p1, x.block < W.heap.size := by obtain ⟨m, hm⟩ := h1; exact DataW.trod_lt m _ _ _ hm
  have lt2 : ∀ x ∈ p2, x.block < W.heap.size := by obtain ⟨m, hm⟩ := h2; exact DataW.trod_lt m _ _ _ hm
  have k_0 := h0
  have k_1 := h1
  have k_2 := h2
  obtain ⟨a0, l0, c0, rfl⟩ := okWide_slice Tryz.underlying32 (hval 0 32 v0 rfl rfl)
  obtain ⟨m0, hm0⟩ := h0
  obtain ⟨rs0, rfl, hrs0, hl0⟩ := open_texts hm0
  obtain ⟨a1, l1, c1, rfl⟩ := okWide_slice Tryz.underlying41 (hval 1 41 v1 rfl rfl)
  obtain ⟨m1, hm1⟩ := h1
  have hz1 := kepts_reach hm1 (sized_mem hsz (j := 1) (t := 41) (by kernel_rfl) rfl)
  obtain ⟨ks1, rfl, hkl1, hks1⟩ := open_kepts hm1
  obtain ⟨a2, l2, c2, rfl⟩ := okWide_slice Tryz.underlying41 (hval 2 41 v2 rfl rfl)
  obtain ⟨m2, hm2⟩ := h2
  have hz2 := kepts_reach hm2 (sized_mem hsz (j := 2) (t := 41) (by kernel_rfl) rfl)
  obtain ⟨ks2, rfl, hkl2, hks2⟩ := open_kepts hm2
  clear hA0 hval0
  refine (keeps_walk hT a0 c0 rs0 hrs0 hl0 a1 c1 ks1 (hks1 W (Below.refl _ _) _ (fun _ _ => rfl)) hz1 a2 c2 ks2 (hks2 W (Below.refl _ _) _ (fun _ _ => rfl)) hz2).mono fun e W' ⟨he, bel⟩ => ?_
  subst he
  exact ⟨_, rfl, _, _, _, [], _, [], hW', trodAll_mk1 (shut_bool Tryz.underlying4 _), (trodAll_cons_mk (Below.trod xlaidOut (by kernel_rfl) (of_decide_eq_true (by kernel_rfl)) k_0 bel lt0) (trodAll_cons_mk (Below.trod xlaidOut (by kernel_rfl) (of_decide_eq_true (by kernel_rfl)) k_1 bel lt1) (trodAll_cons_mk (Below.trod xlaidOut (by kernel_rfl) (of_decide_eq_true (by kernel_rfl)) k_2 bel lt2) trodAll_mk0))), rfl, bel.frame _, fun h => by cases h⟩

theorem row_holds : Rows.JournalKeepsSaid :=
  OpenClaim.holds_of_wide 9 Tryz.f9 rfl rfl rfl rfl rfl rfl rfl ⟨rfl, rfl, rfl, rfl, rfl⟩ rfl rfl rfl rfl rfl (by kernel_rfl) Tryz.func9 (by kernel_rfl)
    (of_decide_eq_true (by kernel_rfl)) (by unfold Func.isWrapper; first | (rw [if_pos (by decide +kernel)]; kernel_rfl) | (rw [if_neg (by decide +kernel)]; exact ⟨rfl, rfl⟩))
    (fun os started H enc _ => lifted os started H enc)

theorem holds : Rows.JournalKeepsCardSaid :=
  Claim7.holds_tied_plain_at .later [] [.data, .data, .data, .sentinel, .sentinel] true _ true row_holds (fun _ h => by cases h) (by kernel_rfl) (fun _ h => by cases h) journalKeeps_row_tie rfl ⟨rfl, rfl⟩ (by kernel_rfl) rfl
    (fun f fn hf hfn => by
      obtain rfl : f = 9 := Option.some.inj ((show Tryz.prog.funcNamed "augury/augurylaw03.JournalKeeps" = some 9 by kernel_rfl).symm.trans hf) |>.symm
      obtain rfl : fn = Tryz.f9 := (Option.some.inj (Tryz.func9.symm.trans hfn)).symm
      exact ⟨by kernel_rfl, fun j t ht => by
        rw [Tryz.params9] at ht
        have hm : t ∈ [32, 41, 41] := by simpa using Array.mem_of_getElem? ht
        have hall : ([32, 41, 41].all fun u => !Tryz.prog.wantsStandIn u) = true := by kernel_rfl
        exact (show Tryz.prog.wantsStandIn t = false by simpa using List.all_eq_true.1 hall t hm)⟩)
    (by kernel_rfl)
end journalKeeps
end Go.Proofs.YtdpbnacabinlgaaGreatDoor

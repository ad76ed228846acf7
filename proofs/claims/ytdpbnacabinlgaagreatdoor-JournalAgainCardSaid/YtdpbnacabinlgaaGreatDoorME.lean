/- A journal's Compact, in plain words, wherever the power goes; what Add answers with the power on. | A journal with the power on, in plain words: what Add and Compact answer; how many files and bytes there are. | The document's own device: what each round of a crash adds, in plain words; a slice's beginning. | The document's own device: what the second loop of a crash adds, in plain words. | A journal's device: a crash, a fuse, a new one, a file's bytes. | Rows of texts: compared (Same), counted (great), framed (all). | The live question of the layer's statements is answered true. | The statement FrameBack, its walk. -/
import Derived.Test.YtdpbnacabinlgaaGreatDoorMD
import Derived.Laws.AppendOwnNone
import Derived.Lib.MinMax
import Derived.Lib.SlBytesConst
namespace Go.Proofs.YtdpbnacabinlgaaGreatDoor
open Go.RowKit Go.Lib Go.Maps Go.ChangeMaps Go.Sort Go.Shelf

def leaveJ (st : List (List UInt8)) (j : JM) : JM × Int := (⟨(leaveR j.r st).1, j.last, j.wr⟩, (leaveR j.r st).2)
/-- Compact, in plain words. -/
def compactJ (j : JM) (p : List UInt8) : JM × Int :=
  if 4096 < p.length then (j, 1)
  else seqS [putJ snapM (j.last + 1) (frameB p), syncJ, turnJ (j.last + 1) false, leaveJ (staysL (j.last + 1) []), syncJ] j

theorem view_congr2 {r r' : RDm} (h : ROk r) (h' : ROk r') (ho : r.off = false) (ho' : r'.off = false) (hp : ∀ n, 1 ≤ n → picN r n = picN r' n) (hd : ∀ n, (look r (numName logM n)).map (·.data) = (look r' (numName logM n)).map (·.data)) : viewR r = viewR r' := by
  have hb : ∀ n, bytesR r (numName logM n) = bytesR r' (numName logM n) := fun n => by rw [bytes_look h.names ho, bytes_look h'.names ho', hd]
  have hs : ∀ n, (look r (numName logM n)).isSome = (look r' (numName logM n)).isSome := fun n => by
    have := congrArg Option.isSome (hd n)
    simpa using this
  have e1 : lastP r = lastP r' := lastP_congr h.names h'.names ho ho' hp
  have e2 : behindL r (lastP r).1 = behindL r' (lastP r').1 := by
    rw [e1]
    exact behindL_is h (behindL_lt h'.rising _) fun n => by rw [behindL_look h'.names, hs]
  unfold viewR recsR
  rw [e2, e1]
  congr 2
  exact List.map_congr_left fun n _ => by rw [hb]

theorem cutB_one {p : List UInt8} (h : p.length ≤ 4096) : cutB (frameB p) = [p] := by
  have := cutB_frame p [] h
  rwa [List.append_nil, cutB_nil] at this
theorem picOf_frame {p : List UInt8} (h : p.length ≤ 4096) : picOf (frameB p) = some p := by
  unfold picOf cutN
  rw [cutB_one h, lensN_one, frameB_length]
  simp
theorem picOf_torn {p : List UInt8} {m : Nat} (h : p.length ≤ 4096) (hm : m < p.length + 5) : picOf ((frameB p).take m) = none := by
  unfold picOf
  rw [cutB_none (firstB_torn p m hm h)]
  rfl

/-- What a crash brings back, where all is synced. -/
def backR (r : RDm) (k : List UInt8) : Option FileM := match r.Gone.find? (fun f => f.nm == k) with | some g => some (backF g) | none => look r k

/-- While files are removed, but for one. -/
structure Mid (S : List UInt8 → Option FileM) (sn : List UInt8) (r : RDm) : Prop where
  rok : ROk r
  settled : Settled r
  here : look r sn = S sn
  nogone : r.Gone.find? (fun f => f.nm == sn) = none
  once : ∀ k, (r.Gone.find? (fun f => f.nm == k)).isSome = true → look r k = none
  back : ∀ k, k ≠ sn → backR r k = none ∨ backR r k = S k

section
variable {S : List UInt8 → Option FileM} {sn : List UInt8} {r : RDm}
theorem Mid.power (h : Mid S sn r) : Mid S sn (powerR r) := ⟨h.rok.power, h.settled, h.here, h.nogone, h.once, h.back⟩

theorem remove_same {k : List UInt8} (h : isOff r = true ∨ look r k = none) : (removeR r k).1 = powerR r := by
  unfold removeR
  rcases h with h | h
  · rw [h]
    rfl
  · cases isOff r with
    | true => rfl
    | false =>
      cases nameOk k with
      | false => rfl
      | true =>
        have : r.L.find? (fun f => f.nm == k) = none := by
          cases hl : r.L.find? (fun f => f.nm == k) with
          | none => rfl
          | some f => unfold look at h; rw [hl] at h; cases h
        rw [this]
        rfl

theorem Mid.remove (h : Mid S sn r) {k : List UInt8} (hk : k ≠ sn) : Mid S sn (removeR r k).1 := by
  by_cases hs : isOff r = true ∨ look r k = none
  · rw [remove_same hs]
    exact h.power
  have ho : isOff r = false := by cases hh : isOff r with
    | false => rfl
    | true => exact absurd (.inl hh) hs
  have hl : (look r k).isSome = true := by cases hh : look r k with
    | none => exact absurd (.inr hh) hs
    | some x => rfl
  obtain ⟨_, h2, _, h4⟩ := remove_ok ho h.rok.names hl
  refine ⟨h.rok.remove k, fun q x hx => ?_, ?_, ?_, fun q hq => ?_, fun q hq => ?_⟩
  · rw [h2] at hx
    split at hx
    · cases hx
    · exact h.settled q x hx
  · rw [h2, if_neg (fun e => hk e.symm)]
    exact h.here
  · rw [h4, h.nogone, if_neg (fun e => hk e.symm)]
    rfl
  · rw [h2]
    split
    · rfl
    · rename_i hqk
      rw [h4, if_neg hqk] at hq
      exact h.once q (by simpa using hq)
  · have hb := h.back q hq
    unfold backR at hb ⊢
    rw [h4, h2]
    cases hg : r.Gone.find? (fun f => f.nm == q) with
    | some g =>
      rw [hg] at hb
      exact hb
    | none =>
      rw [hg] at hb
      have hb : look r q = none ∨ look r q = S q := hb
      by_cases e : q = k
      · subst e
        rw [if_pos rfl, if_pos rfl]
        cases hf : r.L.find? (fun f => f.nm == q) with
        | none => exact .inl rfl
        | some f =>
          have hlook : look r q = some (toF f) := by unfold look; rw [hf]; rfl
          obtain ⟨s1, s2⟩ := h.settled q _ hlook
          have ht : f.there = true := by
            have : (!f.there) = false := s2
            simpa using this
          have hd : f.done = f.data.length := s1
          rcases hb with hb | hb
          · rw [hlook] at hb
            cases hb
          · right
            rw [← hb, hlook, Option.none_or, Option.bind_some, if_pos ht]
            show some (backF f) = some (toF f)
            unfold backF toF
            rw [hd, List.take_length, ht]
            rfl
      · rw [if_neg e, if_neg e]
        exact hb

theorem Mid.removes : ∀ (ns : List (List UInt8)) (r : RDm), sn ∉ ns → Mid S sn r → Mid S sn (seqS (ns.map fun nm r => removeR r nm) r).1
  | [], r, _, h => h
  | n :: ns, r, hn, h => by
    have h1 := h.remove (k := n) (fun e => hn (by rw [e]; simp))
    rw [List.map_cons, seqS]
    split
    · exact Mid.removes ns _ (fun e => hn (List.mem_cons_of_mem _ e)) h1
    · exact h1
theorem Mid.leave (h : Mid S sn r) {st : List (List UInt8)} (hst : sn ∈ st) : Mid S sn (leaveR r st).1 :=
  h.removes _ _ (fun e => by
    have := (List.mem_filter.1 e).2
    simp [hst] at this)
theorem Mid.sync (h : Mid S sn r) : Mid S sn (syncR r).1 := by
  cases ho : isOff r with
  | true => unfold syncR; rw [ho]; exact h.power
  | false =>
    have hg := (sync_flags r ho).2.2.2.1
    have hlook : ∀ k, look (syncR r).1 k = look r k := fun k => by
      rw [look_sync ho]
      cases hl : look r k with
      | none => rfl
      | some x =>
        obtain ⟨h1, h2⟩ := h.settled k x hl
        show some (settleF x) = some x
        unfold settleF
        cases x
        simp_all
    refine ⟨h.rok.synced, settled_sync ho, by rw [hlook]; exact h.here, by rw [hg]; rfl, (fun k hk => by rw [hg] at hk; cases hk), fun k hk => ?_⟩
    unfold backR
    rw [hg, hlook]
    show look r k = none ∨ look r k = S k
    have hb := h.back k hk
    unfold backR at hb
    cases hgk : r.Gone.find? (fun f => f.nm == k) with
    | some g => exact .inl (h.once k (by rw [hgk]; rfl))
    | none =>
      rw [hgk] at hb
      exact hb
/-- Behind a crash. -/
theorem Mid.crash (h : Mid S sn r) {ks : List (ByteArray × Int)} {L' : List RF} (hc : Crashed ks r L') : look (crashR r L') sn = S sn ∧ ∀ k, k ≠ sn → look (crashR r L') k = none ∨ look (crashR r L') k = S k := by
  have e : ∀ k, look (crashR r L') k = backR r k := fun k => by
    rw [look_crash hc]
    unfold backR
    cases hg : r.Gone.find? (fun f => f.nm == k) with
    | some g => rfl
    | none =>
      show (look r k).bind (fun x => (crashF ks k x).map settleF) = look r k
      cases hl : look r k with
      | none => rfl
      | some x =>
        obtain ⟨h1, h2⟩ := h.settled k x hl
        exact settle_crash h1 h2
  refine ⟨?_, fun k hk => by rw [e]; exact h.back k hk⟩
  rw [e]
  unfold backR
  rw [h.nogone]
  exact h.here
end

section
variable {r0 : RDm} {l0 : Nat} {j : JM} {ls : List (List (List UInt8))} {sy : Nat}

theorem Grows.no_snap (h : Grows r0 l0 j ls sy) (hb : Base r0 l0) {n : Nat} (hn : l0 < n) : look j.r (numName snapM n) = none := by
  rw [h.old _ (fun i _ => marks_ne _ _)]
  cases hl : look r0 (numName snapM n) with
  | none => rfl
  | some x =>
    have h1 := hb.snaps n (by rw [hl]; rfl)
    have := hb.pic
    omega
theorem Grows.no_log (h : Grows r0 l0 j ls sy) (hb : Base r0 l0) {n : Nat} (hn : j.last < n) : look j.r (numName logM n) = none := by
  have := h.last
  rw [h.old _ (fun i hi e => by have := numName_inj e; omega)]
  exact hb.top n (by omega)

/-- With a new picture that is whole, and none of other files but some that were there, Open finds that picture alone. -/
theorem Grows.newpic (h : Grows r0 l0 j ls sy) (hb : Base r0 l0) {p : List UInt8} (hp : p.length ≤ 4096) {r' : RDm} (hk : ROk r') (ho : r'.off = false) {x : FileM} (hx : look r' (numName snapM (j.last + 1)) = some x) (hd : x.data = frameB p)
    (hall : ∀ k, k ≠ numName snapM (j.last + 1) → look r' k = none ∨ look r' k = look j.r k) : lastP r' = (j.last + 1, p) ∧ viewR r' = ((j.last + 1, p), []) := by
  have hl := h.last
  have e1 : lastP r' = (j.last + 1, p) := by
    refine lastP_some hk.names ho (by omega) ?_ (fun m hm => ?_)
    · unfold picN
      rw [bytes_look hk.names ho, hx]
      show picOf x.data = _
      rw [hd]
      exact picOf_frame hp
    · unfold picN
      rw [bytes_look hk.names ho]
      have : look r' (numName snapM m) = none := by
        rcases hall (numName snapM m) (fun e => by have := numName_inj e; omega) with h1 | h1
        · exact h1
        · rw [h1]
          exact h.no_snap hb (by omega)
      rw [this]
      exact picOf_nil
  have e2 : behindL r' (j.last + 1) = [] := behindL_is hk List.Pairwise.nil fun n => by
    constructor
    · intro hn
      cases hn
    · rintro ⟨h1, h2⟩
      rcases hall (numName logM n) (fun e => marks_ne _ _ e.symm) with h3 | h3
      · rw [h3] at h2
        cases h2
      · rw [h3, h.no_log hb (by omega)] at h2
        cases h2
  refine ⟨e1, ?_⟩
  unfold viewR
  rw [e1, e2]
  rfl

theorem staysL_one (n : Nat) : staysL (n + 1) [] = [numName snapM (n + 1)] := by unfold staysL; rw [if_pos (by omega)]; rfl

/-- Wherever the power goes in a Compact, and whatever is kept then. -/
theorem Grows.compact_crash (h : Grows r0 l0 j ls sy) (hb : Base r0 l0) (hs : Settled j.r) (ho : j.r.off = false) (p : List UInt8) {ks : List (ByteArray × Int)} {L' : List RF} (hc : Crashed ks (compactJ j p).1.r L') :
    (p.length ≤ 4096 ∧ viewR (crashR (compactJ j p).1.r L') = ((j.last + 1, p), [])) ∨ ((compactJ j p).2 ≠ 0 ∧ viewR (crashR (compactJ j p).1.r L') = viewR j.r) := by
  have hsame : ∀ {r : RDm} {L' : List RF}, ROk r → r.Gone = [] → (∀ k, look r k = look j.r k) → Crashed ks r L' → viewR (crashR r L') = viewR j.r := fun {r L'} hk hg hl hc => by
    refine viewR_congr (hk.crash hc).1 h.rok rfl ho fun k => ?_
    rw [look_crash0 hg hc, hl]
    cases hx : look j.r k with
    | none => rfl
    | some x =>
      obtain ⟨h1, h2⟩ := hs k x hx
      show ((crashF ks k x).map settleF).map _ = _
      rw [settle_crash h1 h2]
  obtain ⟨z, hz⟩ : ∃ z, compactJ j p = z := ⟨_, rfl⟩
  rw [hz] at hc ⊢
  unfold compactJ at hz
  by_cases hbig : 4096 < p.length
  · rw [if_pos hbig] at hz
    subst hz
    exact .inr ⟨(show (1 : Int) ≠ 0 by decide), hsame h.rok h.gone (fun _ => rfl) hc⟩
  rw [if_neg hbig] at hz
  have hp : p.length ≤ 4096 := by omega
  have hsn : look j.r (numName snapM (j.last + 1)) = none := h.no_snap hb (by have := h.last; omega)
  rw [seqS] at hz
  by_cases h0 : (putJ snapM (j.last + 1) (frameB p) j).2 = 0
  rotate_left
  · rw [if_neg h0] at hz
    subst hz
    have h1 : (putJ snapM (j.last + 1) (frameB p) j).1.r = powerR j.r := by
      unfold putJ
      rw [look_app_no h0]
    rw [h1] at hc ⊢
    exact .inr ⟨h0, hsame h.rok.power h.gone (fun _ => rfl) hc⟩
  rw [if_pos h0] at hz
  have h0' : (appP j.r (nameB snapM (j.last + 1)) (frameB p)).2 = 0 := h0
  have hlook : ∀ k, look (putJ snapM (j.last + 1) (frameB p) j).1.r k = if k = numName snapM (j.last + 1) then some ⟨frameB p, 0, true⟩ else look j.r k := fun k => by
    show look (appP j.r (nameB snapM (j.last + 1)) (frameB p)).1 k = _
    rw [look_app h0', nameB_nm]
    by_cases e : k = numName snapM (j.last + 1)
    · subst e
      rw [if_pos rfl, if_pos rfl, hsn]
      rfl
    · rw [if_neg e, if_neg e]
  have hgone : (putJ snapM (j.last + 1) (frameB p) j).1.r.Gone = [] := by
    show (appP j.r (nameB snapM (j.last + 1)) (frameB p)).1.Gone = []
    unfold appP appendR
    repeat' split
    all_goals exact h.gone
  have hrok : ROk (putJ snapM (j.last + 1) (frameB p) j).1.r := h.rok.append _ _
  obtain ⟨r1, hr1⟩ : ∃ r1, (putJ snapM (j.last + 1) (frameB p) j).1.r = r1 := ⟨_, rfl⟩
  have hj1 : (putJ snapM (j.last + 1) (frameB p) j).1 = ⟨r1, j.last, j.wr⟩ := by rw [← hr1]; rfl
  rw [hr1] at hlook hgone hrok
  rw [hj1] at hz
  rw [seqS] at hz
  cases hof : isOff r1 with
  | true =>
    have hsy : syncR r1 = (powerR r1, 13) := by unfold syncR; rw [hof]; rfl
    have h2 : syncJ ⟨r1, j.last, j.wr⟩ = (⟨powerR r1, j.last, j.wr⟩, 13) := by unfold syncJ; rw [hsy]
    rw [h2, if_neg (show ¬ (13 : Int) = 0 by decide)] at hz
    subst hz
    have hcr : ∀ k, look (crashR (powerR r1) L') k = (look r1 k).bind fun x => (crashF ks k x).map settleF := fun k => look_crash0 (r := powerR r1) hgone hc
    have hk := (hrok.power.crash hc).1
    have hother : ∀ k, k ≠ numName snapM (j.last + 1) → look (crashR (powerR r1) L') k = look j.r k := fun k hkn => by
      rw [hcr, hlook, if_neg hkn]
      cases hx : look j.r k with
      | none => rfl
      | some x =>
        obtain ⟨h1, h2⟩ := hs k x hx
        exact settle_crash h1 h2
    have hown : look (crashR (powerR r1) L') (numName snapM (j.last + 1)) = none ∨ ∃ m, look (crashR (powerR r1) L') (numName snapM (j.last + 1)) = some ⟨(frameB p).take m, ((frameB p).take m).length, false⟩ := by
      rw [hcr, hlook, if_pos rfl]
      show (crashF ks _ (⟨frameB p, 0, true⟩ : FileM)).map settleF = none ∨ ∃ m, (crashF ks _ (⟨frameB p, 0, true⟩ : FileM)).map settleF = _
      unfold crashF
      split
      · exact .inl rfl
      · exact .inr ⟨_, rfl⟩
    have hold : (picN (crashR (powerR r1) L') (j.last + 1) = none) → viewR (crashR (powerR r1) L') = viewR j.r := fun hno => by
      refine view_congr2 hk h.rok rfl ho (fun n hn => ?_) (fun n => by rw [hother _ (fun e => marks_ne _ _ e.symm)])
      by_cases e : n = j.last + 1
      · subst e
        rw [hno]
        unfold picN
        rw [bytes_look h.rok.names ho, hsn]
        exact picOf_nil.symm
      · unfold picN
        rw [bytes_look hk.names rfl, bytes_look h.rok.names ho, hother _ (fun e2 => e (numName_inj e2))]
    rcases hown with h3 | ⟨m, h3⟩
    · refine .inr ⟨(show (13 : Int) ≠ 0 by decide), hold ?_⟩
      unfold picN
      rw [bytes_look hk.names rfl, h3]
      exact picOf_nil
    · by_cases hm : m < p.length + 5
      · refine .inr ⟨(show (13 : Int) ≠ 0 by decide), hold ?_⟩
        unfold picN
        rw [bytes_look hk.names rfl, h3]
        exact picOf_torn hp hm
      · have ht : (frameB p).take m = frameB p := List.take_of_length_le (by rw [frameB_length]; omega)
        rw [ht] at h3
        exact .inl ⟨hp, (h.newpic hb hp hk rfl h3 rfl (fun k hkn => .inr (hother k hkn))).2⟩
  | false =>
    have hsf := sync_flags r1 hof
    have h2 : syncJ ⟨r1, j.last, j.wr⟩ = (⟨(syncR r1).1, j.last, j.wr⟩, (syncR r1).2) := rfl
    rw [h2, if_pos hsf.1] at hz
    rw [seqS, if_pos (show (turnJ (j.last + 1) false ⟨(syncR r1).1, j.last, j.wr⟩).2 = 0 from rfl), seq_two, staysL_one] at hz
    have hS : ∀ k, look (syncR r1).1 k = if k = numName snapM (j.last + 1) then some ⟨frameB p, (frameB p).length, false⟩ else look j.r k := fun k => by
      rw [look_sync hof, hlook]
      by_cases e : k = numName snapM (j.last + 1)
      · rw [if_pos e, if_pos e]
        rfl
      · rw [if_neg e, if_neg e]
        cases hx : look j.r k with
        | none => rfl
        | some x =>
          obtain ⟨h1, h2⟩ := hs k x hx
          show some (settleF x) = some x
          unfold settleF
          cases x
          simp_all
    have hmid0 : Mid (fun k => look (syncR r1).1 k) (numName snapM (j.last + 1)) (syncR r1).1 :=
      ⟨hrok.synced, settled_sync hof, rfl, by rw [hsf.2.2.2.1]; rfl, (fun k hk => by rw [hsf.2.2.2.1] at hk; cases hk), fun k _ => .inr (by unfold backR; rw [hsf.2.2.2.1]; rfl)⟩
    have hmid1 := hmid0.leave (st := [numName snapM (j.last + 1)]) (by simp)
    have hmid : Mid (fun k => look (syncR r1).1 k) (numName snapM (j.last + 1)) z.1.r := by
      rw [← hz]
      split
      · exact hmid1.sync
      · exact hmid1
    obtain ⟨h3, h4⟩ := hmid.crash hc
    have h3 : look (crashR z.1.r L') (numName snapM (j.last + 1)) = look (syncR r1).1 (numName snapM (j.last + 1)) := h3
    rw [hS, if_pos rfl] at h3
    refine .inl ⟨hp, (h.newpic hb hp (hmid.rok.crash hc).1 rfl h3 rfl (fun k hkn => ?_)).2⟩
    rcases h4 k hkn with h5 | h5
    · exact .inl h5
    · right
      have h5 : look (crashR z.1.r L') k = look (syncR r1).1 k := h5
      rw [h5, hS, if_neg hkn]
end

end Go.Proofs.YtdpbnacabinlgaaGreatDoor
namespace Go.Proofs.YtdpbnacabinlgaaGreatDoor
open Go.RowKit Go.Lib Go.Maps Go.ChangeMaps Go.Sort Go.Shelf

theorem usedL_cons (f : RF) (fs : List RF) : usedL (f :: fs) = f.data.length + usedL fs := by simp [usedL]
theorem usedL_app (a b : List RF) : usedL (a ++ b) = usedL a + usedL b := by simp [usedL]
theorem usedL_without (k : List UInt8) : ∀ fs : List RF, usedL (withoutL fs k) + (((fs.find? (fun f => f.nm == k)).map (·.data.length)).getD 0) ≤ usedL fs
  | [] => Nat.le_refl _
  | f :: fs => by
    have ih := usedL_without k fs
    by_cases e : f.nm = k
    · have h1 : withoutL (f :: fs) k = withoutL fs k := by unfold withoutL; rw [List.filter_cons_of_neg (by simp [e])]
      rw [h1, List.find?_cons_of_pos (by simp [e]), usedL_cons]
      show _ + f.data.length ≤ _
      have : usedL (withoutL fs k) ≤ usedL fs := Nat.le_trans (Nat.le_add_right _ _) ih
      omega
    · have h1 : withoutL (f :: fs) k = f :: withoutL fs k := by unfold withoutL; rw [List.filter_cons_of_pos (by simp [e])]
      rw [h1, List.find?_cons_of_neg (by simp [e]), usedL_cons, usedL_cons]
      omega
theorem takeWhile_all {α : Type} (p q : α → Bool) (h : ∀ a, p a = true → q a = true) : ∀ l : List α, (l.takeWhile p).filter q = l.takeWhile p
  | [] => rfl
  | a :: l => by
    rw [List.takeWhile_cons]
    split
    · rename_i hp
      rw [List.filter_cons_of_pos (h a hp), takeWhile_all p q h l]
    · rfl
theorem usedL_put (fs : List RF) (x : RF) : usedL (putL fs x) = usedL (withoutL fs x.nm) + x.data.length := by
  rw [putL_eq, usedL_app, usedL_cons]
  have h1 : withoutL fs x.nm = fs.takeWhile (fun f => decide (f.nm < x.nm)) ++ (fs.dropWhile (fun f => decide (f.nm < x.nm))).filter (fun f => !(f.nm == x.nm)) := by
    have h2 : (fs.takeWhile (fun f => decide (f.nm < x.nm))).filter (fun f => !(f.nm == x.nm)) = fs.takeWhile (fun f => decide (f.nm < x.nm)) := takeWhile_all _ _ (fun a ha => by
      have ha : a.nm < x.nm := by simpa using ha
      have : a.nm ≠ x.nm := fun e => by rw [e] at ha; exact List.lt_irrefl _ ha
      simpa using this) fs
    rw [← h2, ← List.filter_append, List.takeWhile_append_dropWhile]
    rfl
  rw [h1, usedL_app]
  omega
theorem usedL_less (k : List UInt8) (fs : List RF) : usedL (withoutL fs k) ≤ usedL fs := Nat.le_trans (Nat.le_add_right _ _) (usedL_without k fs)

section
variable {r : RDm}

/-- What Append answers with the power on. -/
theorem app_on (h : On r) (s : ByteArray) (bs : List UInt8) : On (appP r s bs).1 ∧ (appP r s bs).1.room = r.room ∧ ((appP r s bs).2 = 0 ∨ (appP r s bs).2 = 1 ∨ (appP r s bs).2 = 2 ∨ ((appP r s bs).2 = 11 ∧ r.room < (usedL r.L : Int) + bs.length)) ∧ usedL (appP r s bs).1.L ≤ usedL r.L + bs.length := by
  unfold appP appendR
  rw [h.isOff]
  rw [if_neg (by simp)]
  by_cases h2 : nameOk s.data.toList = false
  · rw [if_pos h2]
    exact ⟨⟨h.isOff, h.2⟩, rfl, .inr (.inl rfl), Nat.le_add_right _ _⟩
  rw [if_neg h2]
  by_cases h3 : tooR r s.data.toList bs.length
  · rw [if_pos h3]
    exact ⟨⟨h.isOff, h.2⟩, rfl, .inr (.inr (.inl rfl)), Nat.le_add_right _ _⟩
  rw [if_neg h3]
  by_cases h4 : r.room < (usedL r.L : Int) + (bs.length : Int)
  · rw [if_pos h4]
    exact ⟨⟨h.isOff, h.2⟩, rfl, .inr (.inr (.inr ⟨rfl, h4⟩)), Nat.le_add_right _ _⟩
  rw [if_neg h4]
  refine ⟨⟨h.isOff, h.2⟩, rfl, .inl rfl, ?_⟩
  show usedL (putL r.L _) ≤ _
  rw [usedL_put]
  have hnm : ({ fileR r s with data := (fileR r s).data ++ bs } : RF).nm = s.data.toList := by
    show (fileR r s).nm = _
    unfold fileR
    cases hq : r.L.find? (fun f => f.nm == s.data.toList) with
    | none => rfl
    | some g => exact (find_name hq).1
  rw [hnm]
  have h5 := usedL_without s.data.toList r.L
  show _ + ((fileR r s).data ++ bs).length ≤ _
  rw [List.length_append]
  unfold fileR
  cases hq : r.L.find? (fun f => f.nm == s.data.toList) with
  | none =>
    rw [hq] at h5
    show _ + (0 + _) ≤ _
    have h6 : usedL (withoutL r.L s.data.toList) + 0 ≤ usedL r.L := h5
    omega
  | some g =>
    rw [hq] at h5
    have h6 : usedL (withoutL r.L s.data.toList) + g.data.length ≤ usedL r.L := h5
    show _ + (g.data.length + _) ≤ _
    omega

theorem app_ok (h : On r) {s : ByteArray} {bs : List UInt8} (hn : nameOk s.data.toList = true) (hl : r.L.length < 64) (hd : ∀ x, look r s.data.toList = some x → x.data.length + bs.length ≤ 262144) (hb : bs.length ≤ 262144) (hr : (usedL r.L : Int) + bs.length ≤ r.room) : (appP r s bs).2 = 0 := by
  unfold appP appendR
  rw [h.isOff, if_neg (by simp), if_neg (by rw [hn]; simp), if_neg, if_neg (by omega)]
  unfold tooR
  rintro (⟨_, h1⟩ | h1)
  · omega
  · cases hq : r.L.find? (fun f => f.nm == s.data.toList) with
    | none =>
      rw [hq] at h1
      have h1 : 262144 < 0 + bs.length := h1
      omega
    | some g =>
      rw [hq] at h1
      have h1 : 262144 < g.data.length + bs.length := h1
      have := hd (toF g) (by unfold look; rw [hq]; rfl)
      have h2 : g.data.length + bs.length ≤ 262144 := this
      omega

theorem sync_on (h : On r) : (syncR r).2 = 0 ∧ On (syncR r).1 ∧ (syncR r).1.room = r.room ∧ usedL (syncR r).1.L = usedL r.L := by
  obtain ⟨h1, h2, h3, _, h5⟩ := sync_flags r h.isOff
  refine ⟨h1, h.sync, h5, ?_⟩
  unfold syncR
  rw [h.isOff]
  show usedL (r.L.map syncF) = _
  unfold usedL
  rw [List.map_map]
  rfl

theorem remove_used (k : List UInt8) : usedL (removeR r k).1.L ≤ usedL r.L := by
  unfold removeR
  repeat' split
  all_goals first
    | exact Nat.le_refl _
    | exact usedL_less _ _
theorem removes_used : ∀ (ns : List (List UInt8)) (r : RDm), usedL (seqS (ns.map fun nm r => removeR r nm) r).1.L ≤ usedL r.L
  | [], r => Nat.le_refl _
  | n :: ns, r => by
    rw [List.map_cons, seqS]
    split
    · exact Nat.le_trans (removes_used ns _) (remove_used n)
    · exact remove_used n
theorem leave_used (st : List (List UInt8)) : usedL (leaveR r st).1.L ≤ usedL r.L := removes_used _ _
theorem open_used (h : On r) (hk : ROk r) : usedL (openS r).1.L ≤ usedL r.L := by
  obtain ⟨h1, h2, _⟩ := leaveR_on h hk (stR r)
  unfold openS
  rw [seq_two, if_pos h1, (sync_on h2).2.2.2]
  exact leave_used _

/-- How many files there are. -/
theorem count_names (hk : ROk r) {ns : List (List UInt8)} (hd : ns.Nodup) (h : ∀ k, (look r k).isSome = true ↔ k ∈ ns) : r.L.length = ns.length := by
  have hp : (r.L.map RF.nm).Perm ns := (List.perm_ext_iff_of_nodup hk.rising.nodup hd).2 fun k => by rw [← look_mem, h]
  have := hp.length_eq
  rwa [List.length_map] at this
end

section
variable {r0 : RDm} {l0 : Nat} {j : JM} {ls : List (List (List UInt8))} {sy : Nat}

/-- What Add answers with the power on. -/
theorem add_on (h : On j.r) (rec : List UInt8) : On (addJ j rec).1.r ∧ (addJ j rec).1.r.room = j.r.room ∧ usedL (addJ j rec).1.r.L ≤ usedL j.r.L + (rec.length + 5) ∧ ((addJ j rec).2 = 0 ∨ (addJ j rec).2 = 1 ∨ (addJ j rec).2 = 2 ∨ (rec.length ≤ 4096 ∧ j.r.room < (usedL j.r.L : Int) + (rec.length + 5 : Nat))) := by
  unfold addJ
  by_cases hbig : 4096 < rec.length
  · rw [if_pos hbig]
    exact ⟨h, rfl, Nat.le_add_right _ _, .inr (.inl rfl)⟩
  rw [if_neg hbig]
  have hr : rec.length ≤ 4096 := by omega
  split
  · rw [seq_one]
    obtain ⟨h1, h2, h3, h4⟩ := app_on h (nameB logM j.last) (frameB rec)
    rw [frameB_length] at h3 h4
    refine ⟨h1, h2, h4, ?_⟩
    rcases h3 with h3 | h3 | h3 | ⟨_, h3⟩
    · exact .inl h3
    · exact .inr (.inl h3)
    · exact .inr (.inr (.inl h3))
    · exact .inr (.inr (.inr ⟨hr, h3⟩))
  · rw [seq_three, seq_two]
    have hf : (finJ j).2 = 0 ∧ On (finJ j).1.r ∧ (finJ j).1.r.room = j.r.room ∧ usedL (finJ j).1.r.L = usedL j.r.L := by
      unfold finJ finR
      cases j.wr with
      | false => exact ⟨rfl, h, rfl, rfl⟩
      | true => exact sync_on h
    rw [if_pos hf.1]
    obtain ⟨h1, h2, h3, h4⟩ := app_on hf.2.1 (nameB logM (j.last + 1)) (frameB rec)
    rw [frameB_length, hf.2.2.2] at h3 h4
    rw [hf.2.2.1] at h2 h3
    split
    · exact ⟨h1, h2, h4, .inl rfl⟩
    · refine ⟨h1, h2, h4, ?_⟩
      rcases h3 with h3 | h3 | h3 | ⟨_, h3⟩
      · exact .inl h3
      · exact .inr (.inl h3)
      · exact .inr (.inr (.inl h3))
      · exact .inr (.inr (.inr ⟨hr, h3⟩))

/-- Add is OK. -/
theorem add_ok (h : On j.r) (hk : ROk j.r) {rec : List UInt8} (hr : rec.length ≤ 4096) (hn : nameOk (numName logM j.last) = true) (hn1 : nameOk (numName logM (j.last + 1)) = true) (hnew : look j.r (numName logM (j.last + 1)) = none) (hl : j.r.L.length < 64) (hu : (usedL j.r.L : Int) + (rec.length + 5 : Nat) ≤ j.r.room) : (addJ j rec).2 = 0 := by
  unfold addJ
  rw [if_neg (by omega)]
  split
  · rename_i hfit
    rw [Bool.and_eq_true, decide_eq_true_eq] at hfit
    rw [seq_one]
    refine app_ok h (by rw [nameB_nm]; exact hn) hl (fun x hx => ?_) (by rw [frameB_length]; omega) (by rw [frameB_length]; exact hu)
    rw [nameB_nm] at hx
    have h2 := hfit.2
    rw [bytes_look hk.names h.1, hx] at h2
    have h3 : x.data.length + (frameB rec).length ≤ 1024 := h2
    omega
  · rw [seq_three, seq_two]
    have hf : (finJ j).2 = 0 ∧ On (finJ j).1.r ∧ (finJ j).1.r.room = j.r.room ∧ usedL (finJ j).1.r.L = usedL j.r.L ∧ (finJ j).1.r.L.length = j.r.L.length ∧ look (finJ j).1.r (numName logM (j.last + 1)) = none := by
      unfold finJ finR
      cases j.wr with
      | false => exact ⟨rfl, h, rfl, rfl, rfl, hnew⟩
      | true =>
        obtain ⟨a, b, c, d⟩ := sync_on h
        refine ⟨a, b, c, d, ?_, ?_⟩
        · show (syncR j.r).1.L.length = _
          unfold syncR
          rw [h.isOff]
          exact List.length_map _
        · show look (syncR j.r).1 _ = _
          rw [look_sync h.isOff, hnew]
          rfl
    rw [if_pos hf.1]
    have h0 : (putJ logM (j.last + 1) (frameB rec) (finJ j).1).2 = 0 := by
      refine app_ok hf.2.1 (by rw [nameB_nm]; exact hn1) (by omega) (fun x hx => ?_) (by rw [frameB_length]; omega) (by rw [frameB_length, hf.2.2.2.1, hf.2.2.1]; exact hu)
      rw [nameB_nm, hf.2.2.2.2.2] at hx
      cases hx
    rw [if_pos h0]
    rfl

/-- Compact with the power on. -/
theorem Grows.compact_on (h : Grows r0 l0 j ls sy) (hb : Base r0 l0) (ho : On j.r) {p : List UInt8} (hp : p.length ≤ 4096) (hn : nameOk (numName snapM (j.last + 1)) = true) (hl : j.r.L.length < 64) (hu : (usedL j.r.L : Int) + (p.length + 5 : Nat) ≤ j.r.room) :
    (compactJ j p).2 = 0 ∧ Base (compactJ j p).1.r (j.last + 1) ∧ (compactJ j p).1.r.Gone = [] ∧ (compactJ j p).1.last = j.last + 1 ∧ (compactJ j p).1.wr = false ∧ viewR (compactJ j p).1.r = ((j.last + 1, p), []) ∧ (compactJ j p).1.r.room = j.r.room ∧
      usedL (compactJ j p).1.r.L ≤ usedL j.r.L + (p.length + 5) ∧ (∀ k, (look (compactJ j p).1.r k).isSome = true ↔ k ∈ [numName snapM (j.last + 1)]) := by
  obtain ⟨z, hz⟩ : ∃ z, compactJ j p = z := ⟨_, rfl⟩
  rw [hz]
  unfold compactJ at hz
  rw [if_neg (by omega)] at hz
  have hsn : look j.r (numName snapM (j.last + 1)) = none := h.no_snap hb (by have := h.last; omega)
  have h0 : (appP j.r (nameB snapM (j.last + 1)) (frameB p)).2 = 0 := app_ok ho (by rw [nameB_nm]; exact hn) hl (fun x hx => by rw [nameB_nm, hsn] at hx; cases hx) (by rw [frameB_length]; omega) (by rw [frameB_length]; exact hu)
  obtain ⟨o1, m1, _, u1⟩ := app_on ho (nameB snapM (j.last + 1)) (frameB p)
  rw [frameB_length] at u1
  have hlook : ∀ k, look (appP j.r (nameB snapM (j.last + 1)) (frameB p)).1 k = if k = numName snapM (j.last + 1) then some ⟨frameB p, 0, true⟩ else look j.r k := fun k => by
    rw [look_app h0, nameB_nm]
    by_cases e : k = numName snapM (j.last + 1)
    · subst e
      rw [if_pos rfl, if_pos rfl, hsn]
      rfl
    · rw [if_neg e, if_neg e]
  have k1 : ROk (appP j.r (nameB snapM (j.last + 1)) (frameB p)).1 := h.rok.append _ _
  rw [seqS, if_pos (show (putJ snapM (j.last + 1) (frameB p) j).2 = 0 from h0)] at hz
  obtain ⟨r1, hr1⟩ : ∃ r1, (appP j.r (nameB snapM (j.last + 1)) (frameB p)).1 = r1 := ⟨_, rfl⟩
  have hj1 : (putJ snapM (j.last + 1) (frameB p) j).1 = ⟨r1, j.last, j.wr⟩ := by rw [← hr1]; rfl
  rw [hj1] at hz
  rw [hr1] at o1 m1 u1 hlook k1
  obtain ⟨a2, o2, m2, u2⟩ := sync_on o1
  rw [seqS, if_pos (show (syncJ ⟨r1, j.last, j.wr⟩).2 = 0 from a2), show (syncJ ⟨r1, j.last, j.wr⟩).1 = ⟨(syncR r1).1, j.last, j.wr⟩ from rfl,
    seqS, if_pos (show (turnJ (j.last + 1) false ⟨(syncR r1).1, j.last, j.wr⟩).2 = 0 from rfl), seq_two, staysL_one] at hz
  obtain ⟨a3, o3, k3, l3, m3⟩ := leaveR_on o2 k1.synced [numName snapM (j.last + 1)]
  have hz2 : z = syncJ ⟨(leaveR (syncR r1).1 [numName snapM (j.last + 1)]).1, j.last + 1, false⟩ := by
    have a3' : (leaveJ [numName snapM (j.last + 1)] (turnJ (j.last + 1) false ⟨(syncR r1).1, j.last, j.wr⟩).1).2 = 0 := a3
    rw [← hz, if_pos a3']
    rfl
  obtain ⟨a4, o4, m4, u4⟩ := sync_on o3
  have hz1 : z.1 = ⟨(syncR (leaveR (syncR r1).1 [numName snapM (j.last + 1)]).1).1, j.last + 1, false⟩ := by rw [hz2]; rfl
  have hz3 : z.2 = 0 := by rw [hz2]; exact a4
  have hlk : ∀ k, look z.1.r k = if k = numName snapM (j.last + 1) then some ⟨frameB p, (frameB p).length, false⟩ else none := fun k => by
    rw [hz1]
    show look (syncR _).1 k = _
    rw [look_sync o3.isOff, l3]
    by_cases e : k = numName snapM (j.last + 1)
    · subst e
      rw [if_pos (by simp), look_sync o1.isOff, hlook, if_pos rfl, if_pos rfl]
      rfl
    · rw [if_neg (by simpa using e), if_neg e]
      rfl
  have hrok : ROk z.1.r := by rw [hz1]; exact k3.synced
  have hon : On z.1.r := by rw [hz1]; exact o4
  obtain ⟨v1, v2⟩ := h.newpic hb hp hrok hon.1 (by rw [hlk, if_pos rfl]) rfl (fun k hk => .inl (by rw [hlk, if_neg hk]))
  refine ⟨hz3, ⟨hon, hrok, by rw [hz1]; exact settled_sync o3.isOff, by rw [v1]; exact Nat.le_refl _, fun n _ => by rw [hlk, if_neg (fun e => marks_ne _ _ e.symm)], fun n hn => ?_⟩, ?_, by rw [hz1], by rw [hz1], v2, ?_, ?_, fun k => ?_⟩
  · rw [hlk] at hn
    split at hn
    · rename_i e
      rw [v1]
      exact numName_inj e
    · cases hn
  · rw [hz1]
    exact (sync_flags _ o3.isOff).2.2.2.1
  · rw [hz1]
    show (syncR _).1.room = _
    rw [m4, m3, m2, m1]
  · rw [hz1]
    show usedL (syncR _).1.L ≤ _
    rw [u4]
    refine Nat.le_trans (leave_used _) ?_
    rw [u2]
    exact u1
  · rw [hlk]
    by_cases e : k = numName snapM (j.last + 1)
    · simp [e]
    · simp [e]

theorem compact_big {p : List UInt8} (hp : 4096 < p.length) : compactJ j p = (j, 1) := by unfold compactJ; rw [if_pos hp]
end

end Go.Proofs.YtdpbnacabinlgaaGreatDoor
namespace Go.Proofs.YtdpbnacabinlgaaGreatDoor
open Go.RowKit Go.Lib Go.Maps Go.ChangeMaps Go.Sort

theorem BArg.upto {w : World} {own : Owner} {a : Option Addr} {c : Nat} {bs : List UInt8} (h : BArg w own (.slice a bs.length c) bs) (hc : bs.length ≤ c) {m : Nat} (hm : m ≤ bs.length) (hl : bs.length ≤ 262144) :
    (∀ W : World, (Instr.slice 49 (.slice a bs.length c) none (some (.int .i64 m)) none).run Tryz.prog W = .ok (.slice a m c) W) ∧ BArg w own (.slice a m c) (bs.take m) := by
  have hlen : (bs.take m).length = m := by rw [List.length_take]; omega
  refine ⟨fun W => ?_, ?_⟩
  · have hz : (sizeOf 5).run Tryz.prog W = .ok 1 W := by kernel_rfl
    rw [run_slice_h (P := Tryz.prog) W 49 a bs.length c (by kernel_rfl) .i64 (m : Int) (by omega) (by omega)]
    have he : Tryz.prog.elem 49 = 5 := by kernel_rfl
    rw [he, hz]
    cases a <;> simp [Result.andThen, sliced, Addr.add]
  · rcases h with ⟨h1, rfl⟩ | ⟨A, c', h1, h2, h3⟩
    · injection h1 with e1 e2 e3
      subst e1
      subst e3
      obtain rfl : m = 0 := by simpa using hm
      exact Or.inl ⟨rfl, rfl⟩
    · injection h1 with e1 e2 e3
      subst e1
      subst e3
      refine Or.inr ⟨A, c, by rw [hlen], fun hne => h2 (fun e => hne (by rw [e]; simp)), fun j x hx => ?_⟩
      rw [List.getElem?_take] at hx
      split at hx
      · exact h3 j x hx
      · cases hx

/-- What the first of the two loops has made. -/
structure Kept1 (ks : List (ByteArray × Int)) (L l' : List RF) : Prop where
  rising : Rising l'
  files : ∀ k, (l'.find? (fun f => f.nm == k)).map toF = (L.find? (fun f => f.nm == k)).bind (keepF ks)
  len : l'.length ≤ L.length

theorem find_take_next {fs : List RF} (hr : Rising fs) {i : Nat} {f : RF} (hf : fs[i]? = some f) (k : List UInt8) :
    (fs.take (i + 1)).find? (fun f => f.nm == k) = if k = f.nm then some f else (fs.take i).find? (fun f => f.nm == k) := by
  rw [List.take_add_one, hf, List.find?_append]
  by_cases e : k = f.nm
  · subst e
    have hno : (fs.take i).find? (fun g => g.nm == f.nm) = none := by
      rw [List.find?_eq_none]
      intro g hg e2
      have e3 : g.nm = f.nm := by simpa using e2
      obtain ⟨j, hj, rfl⟩ := List.mem_iff_getElem.1 hg
      obtain ⟨hi, rfl⟩ := List.getElem?_eq_some_iff.1 hf
      have hj2 : j < i := by rw [List.length_take] at hj; omega
      have h1 := List.pairwise_iff_getElem.1 hr j i (by omega) hi hj2
      rw [List.getElem_take] at e3
      rw [e3] at h1
      exact List.lt_irrefl _ h1
    rw [hno, if_pos rfl]
    simp
  · have hne : (f.nm == k) = false := beq_eq_false_iff_ne.2 (fun e2 => e e2.symm)
    rw [if_neg e]
    simp [hne]

theorem Kept1.nil (ks : List (ByteArray × Int)) : Kept1 ks [] [] := ⟨List.Pairwise.nil, fun _ => rfl, Nat.le_refl _⟩

theorem Kept1.skip {ks : List (ByteArray × Int)} {fs l' : List RF} {i : Nat} {f : RF} (h : Kept1 ks (fs.take i) l') (hr : Rising fs) (hf : fs[i]? = some f) (hk : keepF ks f = none) : Kept1 ks (fs.take (i + 1)) l' where
  rising := h.rising
  files k := by
    rw [find_take_next hr hf, h.files k]
    by_cases e : k = f.nm
    · subst e
      rw [if_pos rfl]
      have hno : (fs.take i).find? (fun g => g.nm == f.nm) = none := by
        rw [List.find?_eq_none]
        intro g hg e2
        have e3 : g.nm = f.nm := by simpa using e2
        obtain ⟨j, hj, rfl⟩ := List.mem_iff_getElem.1 hg
        obtain ⟨hi, rfl⟩ := List.getElem?_eq_some_iff.1 hf
        have hj2 : j < i := by rw [List.length_take] at hj; omega
        have h1 := List.pairwise_iff_getElem.1 hr j i (by omega) hi hj2
        rw [List.getElem_take] at e3
        rw [e3] at h1
        exact List.lt_irrefl _ h1
      rw [hno]
      exact hk.symm
    · rw [if_neg e]
  len := by
    have := h.len
    rw [List.length_take] at this ⊢
    omega

theorem Kept1.keep {ks : List (ByteArray × Int)} {fs l' : List RF} {i : Nat} {f x : RF} (h : Kept1 ks (fs.take i) l') (hr : Rising fs) (hf : fs[i]? = some f) (hn : x.nm = f.nm) (hx : keepF ks f = some (toF x)) : Kept1 ks (fs.take (i + 1)) (putL l' x) where
  rising := h.rising.put x
  files k := by
    rw [find_take_next hr hf]
    by_cases e : k = f.nm
    · rw [if_pos e]
      have e2 : k = x.nm := e.trans hn.symm
      subst e2
      rw [find_putL_same]
      exact hx.symm
    · rw [if_neg e, find_putL_other (by rw [hn]; exact e)]
      exact h.files k
  len := by
    have h1 := h.len
    have h2 := putL_len l' x
    have h3 := (List.getElem?_eq_some_iff.1 hf).1
    rw [List.length_take] at h1 ⊢
    omega

end Go.Proofs.YtdpbnacabinlgaaGreatDoor
namespace Go.Proofs.YtdpbnacabinlgaaGreatDoor
open Go.RowKit Go.Lib Go.Maps Go.ChangeMaps Go.Sort

/-- What the second of the two loops has made. -/
structure Kept2 (l1 gs l' : List RF) : Prop where
  rising : Rising l'
  files : ∀ k, (l'.find? (fun f => f.nm == k)).map toF = match gs.find? (fun f => f.nm == k) with | some g => some (backF g) | none => (l1.find? (fun f => f.nm == k)).map toF
  len : l'.length ≤ l1.length + gs.length

theorem Kept2.nil {l1 : List RF} (h : Rising l1) : Kept2 l1 [] l1 := ⟨h, fun _ => rfl, Nat.le_refl _⟩

theorem find_take_once {fs : List RF} (hr : fs.Pairwise (fun a b => a.nm ≠ b.nm)) {i : Nat} {f : RF} (hf : fs[i]? = some f) (k : List UInt8) :
    (fs.take (i + 1)).find? (fun f => f.nm == k) = if k = f.nm then some f else (fs.take i).find? (fun f => f.nm == k) := by
  rw [List.take_add_one, hf, List.find?_append]
  by_cases e : k = f.nm
  · subst e
    have hno : (fs.take i).find? (fun g => g.nm == f.nm) = none := by
      rw [List.find?_eq_none]
      intro g hg e2
      have e3 : g.nm = f.nm := by simpa using e2
      obtain ⟨j, hj, rfl⟩ := List.mem_iff_getElem.1 hg
      obtain ⟨hi, rfl⟩ := List.getElem?_eq_some_iff.1 hf
      have hj2 : j < i := by rw [List.length_take] at hj; omega
      have h1 := List.pairwise_iff_getElem.1 hr j i (by omega) hi hj2
      rw [List.getElem_take] at e3
      exact h1 e3
    rw [hno, if_pos rfl]
    simp
  · have hne : (f.nm == k) = false := beq_eq_false_iff_ne.2 (fun e2 => e e2.symm)
    rw [if_neg e]
    simp [hne]

theorem Kept2.next {l1 fs l' : List RF} {i : Nat} {g x : RF} (h : Kept2 l1 (fs.take i) l') (hr : fs.Pairwise (fun a b => a.nm ≠ b.nm)) (hg : fs[i]? = some g) (hn : x.nm = g.nm) (hx : toF x = backF g) : Kept2 l1 (fs.take (i + 1)) (putL l' x) where
  rising := h.rising.put x
  files k := by
    rw [find_take_once hr hg]
    by_cases e : k = g.nm
    · rw [if_pos e]
      have e2 : k = x.nm := e.trans hn.symm
      subst e2
      rw [find_putL_same]
      show some (toF x) = some (backF g)
      rw [hx]
    · rw [if_neg e, find_putL_other (by rw [hn]; exact e)]
      exact h.files k
  len := by
    have h1 := h.len
    have h2 := putL_len l' x
    have h3 := (List.getElem?_eq_some_iff.1 hg).1
    rw [List.length_take] at h1 ⊢
    omega

/-- Both loops. -/
theorem Kept2.crashed {ks : List (ByteArray × Int)} {r : RDm} {l1 l' : List RF} (h1 : Kept1 ks r.L l1) (h2 : Kept2 l1 r.Gone l') : Crashed ks r l' ∧ l'.length ≤ r.L.length + r.Gone.length := by
  refine ⟨⟨h2.rising, fun k => ?_⟩, Nat.le_trans h2.len (Nat.add_le_add_right h1.len _)⟩
  rw [h2.files k]
  cases r.Gone.find? (fun f => f.nm == k) with
  | some g => rfl
  | none => exact h1.files k

/-- What a file of the document's is when it is cut, against what the program's is. -/
theorem keepF_none {ks : List (ByteArray × Int)} {f : RF} (ht : f.there = false) (hm : manyK ks f.nm < 0) : keepF ks f = none := by
  unfold keepF crashF
  rw [if_pos ⟨by simp [toF, ht], hm⟩]
  rfl
theorem keepF_some {ks : List (ByteArray × Int)} {f : RF} (h : ¬ (f.there = false ∧ manyK ks f.nm < 0)) : keepF ks f = some ⟨f.data.take (cutK ks f.nm (toF f)), (f.data.take (cutK ks f.nm (toF f))).length, false⟩ := by
  unfold keepF crashF
  rw [if_neg (fun e => h ⟨by simpa [toF] using e.1, e.2⟩)]
  rfl

end Go.Proofs.YtdpbnacabinlgaaGreatDoor
namespace Go.Proofs.YtdpbnacabinlgaaGreatDoor
open Go.RowKit Go.Lib Go.Maps Go.ChangeMaps Go.Sort Go.Shelf

theorem kept1_all {ks : List (ByteArray × Int)} {fs : List RF} (hr : Rising fs) : ∀ i, i ≤ fs.length → ∃ l', Kept1 ks (fs.take i) l'
  | 0, _ => ⟨[], Kept1.nil ks⟩
  | i + 1, h => by
    obtain ⟨l', h1⟩ := kept1_all hr i (by omega)
    have hf : fs[i]? = some fs[i] := List.getElem?_eq_getElem (by omega)
    cases hk : keepF ks fs[i] with
    | none => exact ⟨l', h1.skip hr hf hk⟩
    | some x =>
      have hx : x.fresh = false := by
        unfold keepF at hk
        cases hc : crashF ks fs[i].nm (toF fs[i]) with
        | none => rw [hc] at hk; cases hk
        | some y =>
          rw [hc] at hk
          injection hk with hk
          rw [← hk]
          rfl
      refine ⟨_, h1.keep (x := ⟨fs[i].name, none, 0, x.data, x.synced, true⟩) hr hf rfl ?_⟩
      rw [hk]
      unfold toF
      cases x
      simp_all

theorem back_all {L1 : List RF} (h1 : Rising L1) : ∀ gs : List RF, ∃ L', Rising L' ∧ ∀ k, (L'.find? (fun f => f.nm == k)).map toF = match gs.find? (fun f => f.nm == k) with | some g => some (backF g) | none => (L1.find? (fun f => f.nm == k)).map toF
  | [] => ⟨L1, h1, fun _ => rfl⟩
  | g :: gs => by
    obtain ⟨L', h2, h3⟩ := back_all h1 gs
    refine ⟨putL L' ⟨g.name, none, 0, g.data.take g.done, (g.data.take g.done).length, true⟩, h2.put _, fun k => ?_⟩
    by_cases e : k = g.nm
    · subst e
      rw [List.find?_cons_of_pos (by simp)]
      rw [show g.nm = (⟨g.name, none, 0, g.data.take g.done, (g.data.take g.done).length, true⟩ : RF).nm from rfl, find_putL_same]
      rfl
    · rw [List.find?_cons_of_neg (by simpa using fun x => e x.symm), find_putL_other (by exact e)]
      exact h3 k

theorem crashed_any {r : RDm} (ks : List (ByteArray × Int)) (hr : Rising r.L) : ∃ L', Crashed ks r L' := by
  obtain ⟨l1, h1⟩ := kept1_all (ks := ks) hr r.L.length (Nat.le_refl _)
  rw [List.take_length] at h1
  obtain ⟨L', h2, h3⟩ := back_all h1.rising r.Gone
  refine ⟨L', h2, fun k => ?_⟩
  rw [h3]
  cases r.Gone.find? (fun f => f.nm == k) with
  | some g => rfl
  | none => exact h1.files k

section
variable {w w' : World} {own own' : Owner} {db fb gb n : Nat} {r : RDm}

theorem LDev.rok (h : LDev w own db fb gb n r) : ROk r := by
  obtain ⟨D, E, m, h1, h2, h3, h4⟩ := h
  refine ⟨h2.rising, h4, fun k x hx => ?_⟩
  have h5 : m.files k = some x := (h2.files k).trans hx
  obtain ⟨p, dv, _, hfa, _⟩ := h1.fil k x h5
  exact hfa.2.2.1

theorem LDev.crash (h : LDev w own db fb gb n r) (hn : n ≤ 1000000) {kv : Value} {ks : List (ByteArray × Int)} (hk : KArg w own kv ks) (hkl : ks.length ≤ 1000000000000) :
    Calls Tryz.prog 21 #[.pointer (some ⟨db, 0, none⟩), kv] w fun e w' => e = .returned (.tuple #[]) ∧ ∃ own' L', Crashed ks r L' ∧ LDev w' own' db fb gb n (crashR r L') ∧ Step own own' w w' := by
  obtain ⟨D, E, m, h1, h2, h3, h4⟩ := h
  refine (h1.crash trivial (by omega) hk hkl).mono ?_
  rintro e w' ⟨rfl, own', D', h5, st⟩
  obtain ⟨L', hc⟩ := crashed_any ks h2.rising
  exact ⟨rfl, own', L', hc, LDev.of h5 (h2.crash hc) (h4.crash hc), st⟩

theorem LDev.fuse (h : LDev w own db fb gb n r) {y : Int} (hy : -9223372036854775808 ≤ y ∧ y ≤ 9223372036854775807) :
    Calls Tryz.prog 19 #[.pointer (some ⟨db, 0, none⟩), .int .i64 y] w fun e w' => e = .returned (.tuple #[]) ∧ LDev w' own db fb gb n (fuseR r y) ∧ Step own own w w' := by
  obtain ⟨D, E, m, h1, h2, h3, h4⟩ := h
  obtain ⟨h5, st⟩ := h1.fused hy
  refine (fuse_calls db y m.fuse w (cell_of_blk h1.blk rfl) (frozen_of_blk h1.blk)).mono ?_
  rintro e w' ⟨rfl, rfl⟩
  exact ⟨rfl, LDev.of h5 (h2.fuse y) h4, st⟩

theorem LDev.new (w : World) {room : Int} (hr : -9223372036854775808 ≤ room ∧ room ≤ 9223372036854775807) :
    Calls Tryz.prog 34 #[.int .i64 room] w fun e w' => ∃ db fb gb own, e = .returned (.pointer (some ⟨db, 0, none⟩)) ∧ LDev w' own db fb gb 0 (newR room) ∧ Step (fun _ => none) own w w' := by
  refine (Dev.new True w room hr).mono ?_
  rintro e w' ⟨rfl, own, h, st⟩
  exact ⟨_, _, _, own, rfl, LDev.of h (Agree.new room) ⟨(fun f hf => by cases hf), (fun f hf => by cases hf)⟩, st⟩

theorem LDev.read (h : LDev w own db fb gb n r) {s : ByteArray} (hs : s.size ≤ maxLen) :
    Calls Tryz.prog 31 #[.pointer (some ⟨db, 0, none⟩), .string s] w fun e w' => ∃ v, e = .returned (.tuple #[v, .int .i64 (readR r s.data.toList).2]) ∧ w'.ownsRow w.heap.size 5 1 v (readR r s.data.toList).1.length (byteCells (readR r s.data.toList).1) ∧ Below w.heap.size w w' := by
  obtain ⟨D, E, m, h1, h2, h3, h4⟩ := h
  rw [← h2.read]
  exact h1.read hs
end

end Go.Proofs.YtdpbnacabinlgaaGreatDoor
namespace Go.Proofs.YtdpbnacabinlgaaGreatDoor
open Go.RowKit Go.Lib

/-- Texts that can be read. -/
def TRow (w : World) (a : Option Addr) (rs : List (List UInt8)) : Prop := ∀ j r, rs[j]? = some r → ∃ A, a = some A ∧ w.cell? (A.add j) = some (.string (strB r)) ∧ r.length ≤ maxLen

theorem TRow.below {w w' : World} {a : Option Addr} {rs : List (List UInt8)} (h : TRow w a rs) (hb : Below w.heap.size w w') : TRow w' a rs := fun j r hj => by
  obtain ⟨A, h1, h2, h3⟩ := h j r hj
  exact ⟨A, h1, (hb.cell (World.block_lt_of_cell? _ _ h2)).trans h2, h3⟩

theorem TRow.of_owns {w : World} {base : Nat} {v : Value} {n : Nat} {rs : List (List UInt8)} (h : w.ownsRow base 9 1 v n (recCells rs)) (hs : ∀ r ∈ rs, r.length ≤ maxLen) : ∃ a c, v = .slice a rs.length c ∧ TRow w a rs ∧ n = rs.length := by
  have hn : n = rs.length := by have := h.1; rw [recCells_length] at this; omega
  subst hn
  have hc := fun g hg => h.cells (g := g) hg
  rcases h.2 with ⟨rfl, h0⟩ | ⟨g, cap, cur, rfl, _⟩
  · obtain rfl : rs = [] := List.eq_nil_of_length_eq_zero h0
    exact ⟨none, 0, rfl, fun j r hj => by simp at hj, rfl⟩
  · refine ⟨_, cap, rfl, fun j r hj => ⟨_, rfl, hc g rfl j _ (by simp [recCells, hj]), hs r (List.mem_of_getElem? hj)⟩, rfl⟩

theorem strB_toL (l : List UInt8) : (strB l).toList = l := by rw [ByteArray.toList_eq, strB_list]

theorem eq_of_all {xs ys : List (List UInt8)} (hl : xs.length = ys.length) (h : ∀ j, j < xs.length → xs[j]? = ys[j]?) : xs = ys := by
  apply List.ext_getElem? 
  intro j
  by_cases hj : j < xs.length
  · exact h j hj
  · rw [List.getElem?_eq_none (by omega), List.getElem?_eq_none (by omega)]

/-- What Same answers. -/
def SamePost (w : World) (xs ys : List (List UInt8)) (e : Ending) (w' : World) : Prop := e = .returned (.bool (decide (xs = ys))) ∧ ∃ n, w' = w.drewN n

set_option maxHeartbeats 1000000 in
set_option maxRecDepth 100000 in
theorem same_calls (w : World) (a b : Option Addr) (ca cb : Nat) (xs ys : List (List UInt8)) (hx : TRow w a xs) (hy : TRow w b ys) (hxl : xs.length ≤ maxLen) (hyl : ys.length ≤ maxLen) :
    Calls Tryz.prog 17 #[.slice a xs.length ca, .slice b ys.length cb] w (SamePost w xs ys) := by
  unfold maxLen at hxl hyl
  have Hx := Lib.hid hx
  have Hy := Lib.hid hy
  clear hx hy
  obtain ⟨n, hn⟩ : ∃ n, xs.length = n := ⟨_, rfl⟩
  obtain ⟨m, hm⟩ : ∃ m, ys.length = m := ⟨_, rfl⟩
  rw [hn, hm]
  rw [hn] at hxl
  rw [hm] at hyl
  have Hn := Lib.hid hn
  have Hm := Lib.hid hm
  by_cases hnm : n = m
  · clear hm
    subst hnm
    clear hn
    have hd : ((n : Int) != (n : Int)) = false := by simp
    go_enter Tryz.func17, Tryz.ntmps17
    go_wp2
    go_loopw [5] (fun i wr => ∃ k q : Nat, k ≤ n ∧ i = .int .i64 k ∧ wr = w.drewN q ∧ Hid (∀ j, j < k → xs[j]? = ys[j]?)) (fun i _ => n - (intOf i).toNat)
    case atStart => exact ⟨0, 0, Nat.zero_le _, rfl, rfl, fun j hj => absurd hj (Nat.not_lt_zero j)⟩
    case round =>
      obtain ⟨k, q, hk, rfl, rfl, Hall⟩ := hrel
      by_cases hlt : k < n
      · obtain ⟨x, hxk⟩ : ∃ x, xs[k]? = some x := ⟨_, List.getElem?_eq_getElem (by rw [Hn.out]; exact hlt)⟩
        obtain ⟨y, hyk⟩ : ∃ y, ys[k]? = some y := ⟨_, List.getElem?_eq_getElem (by rw [Hm.out]; exact hlt)⟩
        obtain ⟨A, rfl, hA, _⟩ := Hx.out k x hxk
        obtain ⟨B, rfl, hB, _⟩ := Hy.out k y hyk
        have hltn : (k : Int) < n := by omega
        have HXK := Lib.hid hxk
        have HYK := Lib.hid hyk
        clear hxk hyk
        by_cases hxy : x = y
        · have Hall' : Hid (∀ j, j < k + 1 → xs[j]? = ys[j]?) := fun j hj => by
            rcases Nat.lt_succ_iff_lt_or_eq.1 hj with h | h
            · exact Hall.out j h
            · subst h; rw [HXK.out, HYK.out, hxy]
          have ht : ((strB x).toList == (strB y).toList) = true := by rw [hxy, strB_toL]; exact beq_self_eq_true y
          clear hxy
          go_wp2
          go_quiet (fail)
          go_wp2
          go_roundw
          case rel => exact ⟨k + 1, _, by omega, by go_num, rfl, Hall'⟩
          case measure => simp [intOf]; omega
        · have ht : ((strB x).toList == (strB y).toList) = false := by rw [strB_toL, strB_toL, beq_eq_false_iff_ne]; exact hxy
          have hne : xs ≠ ys := fun e => hxy (by have h1 := HXK.out; rw [e, HYK.out] at h1; injection h1 with h1; exact h1.symm)
          have Hne := Lib.hid hne
          clear hxy hne
          go_wp2
          go_quiet (fail)
          go_wp2
          go_ret
          exact ⟨congrArg (fun x => Ending.returned (.bool x)) (decide_eq_false Hne.out).symm, _, World.drewN_drewN _ _ _⟩
      · go_wp2
        go_ret
        have hk' : k = n := by omega
        have he : xs = ys := eq_of_all (by rw [Hn.out, Hm.out]) (fun j hj => Hall.out j (by rw [Hn.out] at hj; omega))
        exact ⟨congrArg (fun x => Ending.returned (.bool x)) (decide_eq_true he).symm, _, rfl⟩
  · have hd : ((n : Int) != (m : Int)) = true := by rw [bne_iff_ne]; omega
    have hne : xs ≠ ys := fun e => hnm (by rw [← hn, ← hm, e])
    have Hne := Lib.hid hne
    clear hn hm hne
    go_enter Tryz.func17, Tryz.ntmps17
    go_wp2
    go_ret
    exact ⟨congrArg (fun x => Ending.returned (.bool x)) (decide_eq_false Hne.out).symm, 0, rfl⟩

/-- How much there is of texts, as great counts it. -/
def gN (rs : List (List UInt8)) : Nat → Nat
  | 0 => rs.length
  | k + 1 => if gN rs k < 30000 then gN rs k + min ((rs[k]?.map fun r => r.length).getD 0) 30000 else gN rs k
def greatB (rs : List (List UInt8)) : Bool := decide (30000 ≤ gN rs rs.length)

theorem gN_succ {rs : List (List UInt8)} {k : Nat} {r : List UInt8} (h : rs[k]? = some r) (hg : gN rs k < 30000) : gN rs (k + 1) = gN rs k + min r.length 30000 := by simp [gN, h, hg]
theorem gN_stay {rs : List (List UInt8)} {k : Nat} (h : 30000 ≤ gN rs k) : ∀ d, gN rs (k + d) = gN rs k
  | 0 => rfl
  | d + 1 => by
    have ih := gN_stay h d
    show (if gN rs (k + d) < 30000 then _ else gN rs (k + d)) = _
    rw [ih, if_neg (by omega)]
theorem gN_mono (rs : List (List UInt8)) (k : Nat) : ∀ d, gN rs k ≤ gN rs (k + d)
  | 0 => Nat.le_refl _
  | d + 1 => by
    have ih := gN_mono rs k d
    show _ ≤ (if gN rs (k + d) < 30000 then gN rs (k + d) + _ else gN rs (k + d))
    split <;> omega
theorem gN_bound (rs : List (List UInt8)) : ∀ k, gN rs k ≤ max rs.length 59999
  | 0 => by show rs.length ≤ _; omega
  | k + 1 => by
    have ih := gN_bound rs k
    show (if gN rs k < 30000 then _ else gN rs k) ≤ _
    split <;> omega

def lenS (rs : List (List UInt8)) : Nat := (rs.map fun r => r.length).sum
theorem lenS_take {rs : List (List UInt8)} {k : Nat} {r : List UInt8} (h : rs[k]? = some r) : lenS (rs.take (k + 1)) = lenS (rs.take k) + r.length := by
  simp [lenS, List.take_add_one, h]

theorem gN_sum {rs : List (List UInt8)} (h : gN rs rs.length < 30000) : ∀ k, k ≤ rs.length → gN rs k = rs.length + lenS (rs.take k)
  | 0, _ => by simp [gN, lenS]
  | k + 1, hk => by
    have ih := gN_sum h k (by omega)
    have hr : rs[k]? = some rs[k] := List.getElem?_eq_getElem (by omega)
    have h1 := gN_mono rs k (rs.length - k)
    rw [show k + (rs.length - k) = rs.length by omega] at h1
    have h2 := gN_mono rs (k + 1) (rs.length - (k + 1))
    rw [show k + 1 + (rs.length - (k + 1)) = rs.length by omega] at h2
    rw [gN_succ hr (by omega)] at h2 ⊢
    rw [lenS_take hr]
    omega

/-- What is not great: few texts, few bytes. -/
theorem small_of {rs : List (List UInt8)} (h : greatB rs = false) : rs.length + lenS rs < 30000 := by
  have h1 : gN rs rs.length < 30000 := by simpa [greatB] using h
  have h2 := gN_sum h1 rs.length (Nat.le_refl _)
  rw [List.take_length] at h2
  omega

set_option maxRecDepth 100000 in
/-- The builtin append of such bytes onto a row that is owned. -/
theorem run_append_brow {w : World} {B : Nat} {bv : Value} {bs : List UInt8} (hb : BRow w bv bs) {v : Value} {l : Nat} {xs : List UInt8} (hown : w.ownsRow B 5 1 v l (byteCells xs)) (h63 : l + bs.length ≤ 140737488355328) (hB : B ≤ w.heap.size) (ty : TypeId) :
    ∃ v' w', (Builtin.append_ #[49, 49] ty #[v, bv]).run Tryz.prog w = .ok v' w' ∧ w'.ownsRow B 5 1 v' (l + bs.length) (byteCells (xs ++ bs)) ∧ w.grownBy w' v.ownBlock := by
  obtain ⟨i0, hi, hz0, hz1, hz2⟩ := info_parts infoB8
  obtain ⟨a, c, rfl, h1, h2, h3, hx⟩ := hb
  have hap : byteCells (xs ++ bs) = byteCells xs ++ byteCells bs := by simp [byteCells]
  rw [hap]
  cases a with
  | none =>
    obtain rfl : bs = [] := by
      cases bs with
      | nil => rfl
      | cons x l =>
        obtain ⟨A, e, _⟩ := hx 0 x rfl
        cases e
    have hc := h3 rfl
    subst hc
    refine ⟨v, w, run_append_owned_none w B 49 ty 5 i0 1 Tryz.underlying49 hi v l _ hown, ?_, ⟨rfl, rfl, rfl, Nat.le_refl _, fun _ _ _ => rfl⟩⟩
    simpa [byteCells] using hown
  | some A =>
    obtain ⟨v', w', h4, h5, h6, _⟩ := run_append_own (P := Tryz.prog) w B 49 ty 5 i0 (.int .u8 0) 1 1 Tryz.underlying49 hi hz0 hz1 hz2 rfl (by decide) v l _ hown A bs.length c (byteCells bs) (by simp [byteCells_length])
      (fun j u hu => by
        simp only [byteCells, List.getElem?_map, Option.map_eq_some_iff] at hu
        obtain ⟨x, hx1, rfl⟩ := hu
        obtain ⟨A', e, h⟩ := hx j x hx1
        injection e with e
        rw [e]
        exact h) (byteCells_one bs) (by unfold maxLen; omega) (by omega) hB
    exact ⟨v', w', h4, h5, h6⟩

theorem wpList_append_brow {w : World} {ops : Array Oper} {rest : List Oper} {o : Oper} {a : Act} {Q : Exit → Act → World → Prop} (hgd : o.guard = none) (s x : Operand)
    (ho : o.op = .call { callee := .builtin .append, args := #[s, x], argTypes := #[49, 49] })
    {B : Nat} {bv : Value} {bs : List UInt8} (hb : BRow w bv bs) {v : Value} {l : Nat} {xs : List UInt8} (hown : w.ownsRow B 5 1 v l (byteCells xs)) (h63 : l + bs.length ≤ 140737488355328) (hB : B ≤ w.heap.size)
    (hs : a.eval s = v) (hx : a.eval x = bv)
    (h : ∀ v' w', w'.ownsRow B 5 1 v' (l + bs.length) (byteCells (xs ++ bs)) → w.grownBy w' v.ownBlock → wpList Tryz.prog ops Q rest (a.put o.dst v') w') :
    wpList Tryz.prog ops Q (o :: rest) a w := by
  refine wpList_plain hgd fun K hK => ?_
  obtain ⟨v', w', hr, h2, h3⟩ := run_append_brow hb hown h63 hB o.type
  unfold Oper.wp execOp
  simp only [ho, resolve, invoke, builtin, Sem.run_bind, Sem.run_pure, Result.andThen_ok, List.map_toArray, List.map_cons, List.map_nil, hs, hx, hr]
  exact hK _ _ (h v' w' h2 h3)

theorem allB_take {rs : List (List UInt8)} {k : Nat} {r : List UInt8} (h : rs[k]? = some r) : allB (rs.take (k + 1)) = allB (rs.take k) ++ putB r := by
  rw [List.take_add_one, h]
  exact allB_snoc _ _
theorem allB_le (rs : List (List UInt8)) : (allB rs).length ≤ lenS rs + 5 * rs.length := by
  induction rs with
  | nil => simp [allB, lenS]
  | cons r rs ih =>
    have := putB_le r
    simp only [allB_cons, List.length_append, lenS, List.map_cons, List.sum_cons, List.length_cons] at *
    omega
theorem lenS_take_le (rs : List (List UInt8)) (k : Nat) : lenS (rs.take k) ≤ lenS rs := by
  have h := congrArg lenS (List.take_append_drop k rs)
  simp only [lenS, List.map_append, List.sum_append] at *
  omega

/-- What all answers. -/
def AllPost (w : World) (rs : List (List UInt8)) (e : Ending) (w' : World) : Prop :=
  ∃ v, e = .returned v ∧ w'.ownsRow w.heap.size 5 1 v (allB rs).length (byteCells (allB rs)) ∧ Below w.heap.size w w'

end Go.Proofs.YtdpbnacabinlgaaGreatDoor
namespace Go.Proofs.YtdpbnacabinlgaaGreatDoor
open Go.RowKit Go.Lib

theorem BRow.new (w : World) (bs : List UInt8) (cs : Array Value) (t : TypeId) (fr : Nat × Nat) (h : cs.toList = byteCells bs) (c : Nat) (h1 : bs.length ≤ c) (h2 : c ≤ maxLen) : BRow (w.alloc (.cells cs t fr)) (.slice (some ⟨w.heap.size, 0, none⟩) bs.length c) bs :=
  ⟨_, c, rfl, h1, h2, (fun e => by cases e), fun j x hj => ⟨_, rfl, cells_new w bs cs t fr h j _ (by simp [byteCells, hj])⟩⟩

theorem ownsRow_empty (w : World) (t : TypeId) {B : Nat} (hB : B ≤ w.heap.size) : (w.alloc (.cells #[] t)).ownsRow B t 1 (.slice (some ⟨w.heap.size, 0, none⟩) 0 0) 0 (byteCells []) :=
  ⟨rfl, .inr ⟨w.heap.size, 0, #[], rfl, hB, by show (w.heap.push _)[w.heap.size]? = _; simp, Nat.le_refl _, by unfold maxLen; omega, rfl, rfl⟩⟩

theorem frame_a : putB [97] = [82, 0, 1, 100, 99, 97] := by decide +kernel
theorem cut_a : cutB [82, 0, 1, 100, 99, 97, 82, 0, 1] = [[97]] := by
  rw [cutB_some (r := [97]) (by decide +kernel), cutB_none (by decide +kernel)]
theorem cut_e : cutB [82, 0, 0, 1, 1, 82] = [[]] := by
  rw [cutB_some (r := []) (by decide +kernel), cutB_none (by decide +kernel)]

end Go.Proofs.YtdpbnacabinlgaaGreatDoor
namespace Go.Proofs.YtdpbnacabinlgaaGreatDoor
open Go.RowKit Go.Lib

theorem owns_below {w w' : World} {B : Nat} {e : TypeId} {s : Nat} {v : Value} {n : Nat} {xs : List Value} (h : w.ownsRow B e s v n xs) (hb : Below w.heap.size w w') : w'.ownsRow B e s v n xs :=
  h.kept (row := none) ⟨hb.os, hb.tape, hb.output, hb.size, fun q hq _ => hb.block q hq⟩ (by cases Value.ownBlock _ <;> simp)

/-- What the law's call leaves. -/
def FFine (w : World) (e : Ending) (w' : World) : Prop := e = .returned (.bool true) ∧ Below w.heap.size w w'

theorem okR_take {rs : List (List UInt8)} {k : Nat} {r : List UInt8} (h : rs[k]? = some r) : okR (rs.take (k + 1)) = if r.length ≤ 4096 then okR (rs.take k) ++ [r] else okR (rs.take k) := by
  rw [List.take_add_one, h]
  simp only [okR, List.filter_append, Option.toList_some]
  split
  · rename_i h1; simp [h1]
  · rename_i h1; simp [h1]
theorem okR_le (rs : List (List UInt8)) : (okR rs).length ≤ rs.length := List.length_filter_le _ _

theorem mem_maxLen {w : World} {a : Option Addr} {rs : List (List UInt8)} (h : TRow w a rs) : ∀ r ∈ rs, r.length ≤ maxLen := fun r hr => by
  obtain ⟨j, hj, rfl⟩ := List.mem_iff_getElem.1 hr
  obtain ⟨_, _, _, h3⟩ := h j _ (List.getElem?_eq_getElem hj)
  exact h3

end Go.Proofs.YtdpbnacabinlgaaGreatDoor

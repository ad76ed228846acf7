/- Queries in plain words: a query is read of its own tokens, and what is printed is read as the same query, unless it is too long. | Queries in plain words: the tokens of what is printed of a query; what is printed is read as the same query, unless it is too long. | Queries that came in: expressions, items, predicates. | Queries: depths; under and place. | Queries: depths; the map by where Kids stand. | Queries: depths; the map's lookup. | Queries: depths; the map read and written. | Queries: depths; the map written. -/
import Derived.Test.YtifacoompbngaaaGreatDoorMD
import Derived.ProofKit
import Derived.OpenShut
import Derived.ShutString
import Derived.Deep.Strs
import Derived.SizedLaws
import Derived.LaidEql
import Derived.Maps.Keyed
namespace Go.Proofs.YtifacoompbngaaaGreatDoor
open Go.Lib

def tokIs : List PIt → List (Nat × List UInt8)
  | [] => []
  | x :: xs => tokI x ++ rowTok wThen tokI xs
def tokPs : List PPr → List (Nat × List UInt8)
  | [] => []
  | x :: xs => (1, wWhere) :: (tokP x ++ rowTok wAnd tokP xs)
def tokBy (b : List UInt8) : List (Nat × List UInt8) := if b = [] then [] else [(1, wBy), (1, b)]
def tokQ (q : PQu) : List (Nat × List UInt8) := (1, wSeq) :: (tokIs q.its ++ (tokPs q.prs ++ ((1, wWithin) :: (2, decDigits q.within.toNat) :: (tokBy q.by_ ++ [(1, wPick), (1, atL picksL q.pick)]))))
theorem rightIs_all {l : List PIt} (h : rightIs l = true) : ∃ y ys, l = y :: ys ∧ ∀ i ∈ y :: ys, rightI i = true ∧ nameB i.x = true := by
  unfold rightIs at h
  cases l with
  | nil => cases h
  | cons y ys =>
    simp only [Bool.and_eq_true, List.all_eq_true] at h
    have h3 := h.2.2
    unfold unlikeB at h3
    simp only [Bool.and_eq_true, List.all_eq_true] at h3
    exact ⟨y, ys, rfl, fun i hi => ⟨h.2.1 i hi, h3.1 _ (List.mem_map.2 ⟨i, hi, rfl⟩)⟩⟩
section
variable {E n : Nat}
theorem query_of (q : PQu) (h : rightQ q = true) (us : List XTok) (hu : us.map bare = tokQ q) (hn : us.length ≤ n) : queryT E n ⟨us, 0, -1⟩ = (q, ⟨[], 0, -1⟩) := by
  obtain ⟨h1, h2, h3, h4, h5, h6⟩ := rightQ_parts h
  obtain ⟨its, prs, wi, by_, pick⟩ := q
  dsimp only at h1 h2 h3 h4 h5 h6
  obtain ⟨y, ys, rfl, hits⟩ := rightIs_all h1
  have hu : us.map bare = (1, wSeq) :: ((tokI y ++ rowTok wThen tokI ys) ++ (tokPs prs ++ ((1, wWithin) :: (2, decDigits wi.toNat) :: (tokBy by_ ++ [(1, wPick), (1, atL picksL pick)])))) := hu
  obtain ⟨t0, u0, rfl, k0, b0, hu⟩ := bare_cons hu
  obtain ⟨ui, u1, rfl, hui, hu⟩ := bare_app hu
  obtain ⟨up, u2, rfl, hup, hu⟩ := bare_app hu
  obtain ⟨tw, u3, rfl, kw, bw, hu⟩ := bare_cons hu
  obtain ⟨tn, u4, rfl, kn, bn, hu⟩ := bare_cons hu
  obtain ⟨ub, u5, rfl, hub, hu⟩ := bare_app hu
  obtain ⟨tp, u6, rfl, kp, bp, hu⟩ := bare_cons hu
  obtain ⟨tk, u7, rfl, kk, bk, hu⟩ := bare_cons hu
  obtain rfl := bare_nil hu
  have hlen : (t0 :: (ui ++ (up ++ tw :: tn :: (ub ++ [tp, tk])))).length = 1 + (ui.length + (up.length + (ub.length + 4))) := by simp; omega
  obtain ⟨t1, r1, hr1, hk1, hb1⟩ : ∃ t r, up ++ tw :: tn :: (ub ++ [tp, tk]) = t :: r ∧ t.k = 1 ∧ t.b ≠ wThen := by
    cases prs with
    | nil =>
      have hup : up.map bare = [] := hup
      rw [bare_nil hup]
      exact ⟨tw, _, rfl, kw, by rw [bw]; decide⟩
    | cons p ps =>
      have hup : up.map bare = (1, wWhere) :: _ := hup
      obtain ⟨t, r, rfl, k, b, _⟩ := bare_cons hup
      exact ⟨t, _, rfl, k, by rw [b]; decide⟩
  have hl1 : (t1 :: r1).length = up.length + (ub.length + 4) := by rw [← hr1]; simp
  have e1 : needT E ⟨t0 :: (ui ++ (t1 :: r1)), 0, -1⟩ 1 wSeq = ⟨ui ++ (t1 :: r1), 0, -1⟩ := needT_yes (s := ⟨t0 :: (ui ++ (t1 :: r1)), 0, -1⟩) rfl k0 b0
  have e2 : row1T E wThen (itemT E n) n ⟨ui ++ (t1 :: r1), 0, -1⟩ = (y :: ys, ⟨t1 :: r1, 0, -1⟩) :=
    row1T_of (P := fun i => rightI i = true ∧ nameB i.x = true) (tok := tokI) (n := n) item_of y ys ⟨ui ++ (t1 :: r1), 0, -1⟩ ui t1 r1 (hits y List.mem_cons_self) (fun i hi => hits i (List.mem_cons_of_mem _ hi)) rfl hui hk1 hb1 (by rw [List.length_append, hl1]; omega) rfl
  have e3 : (if isT E ⟨t1 :: r1, 0, -1⟩ 1 wWhere then row1T E wAnd (predT E n) n (takeT E ⟨t1 :: r1, 0, -1⟩ 1 wWhere).2 else ([], ⟨t1 :: r1, 0, -1⟩)) = (prs, ⟨tw :: tn :: (ub ++ [tp, tk]), 0, -1⟩) := by
    cases prs with
    | nil =>
      have hup : up.map bare = [] := hup
      rw [bare_nil hup] at hr1
      have hr1 : tw :: tn :: (ub ++ [tp, tk]) = t1 :: r1 := hr1
      rw [← hr1, takeT_skip (s := ⟨tw :: tn :: (ub ++ [tp, tk]), 0, -1⟩) rfl (.inr (by rw [bw]; decide))]
      rfl
    | cons p ps =>
      have hup : up.map bare = (1, wWhere) :: (tokP p ++ rowTok wAnd tokP ps) := hup
      obtain ⟨t, r, rfl, k, b, hup⟩ := bare_cons hup
      have hr1 : t :: (r ++ (tw :: tn :: (ub ++ [tp, tk]))) = t1 :: r1 := hr1
      rw [← hr1, isT_head (s := ⟨t :: (r ++ (tw :: tn :: (ub ++ [tp, tk]))), 0, -1⟩) rfl, if_pos (by simp [k, b]), takeT_yes (s := ⟨t :: (r ++ (tw :: tn :: (ub ++ [tp, tk]))), 0, -1⟩) rfl k b]
      rw [List.length_cons] at hlen
      exact row1T_of (P := fun p => rightP p = true) (tok := tokP) (n := n) pred_of p ps ⟨r ++ (tw :: tn :: (ub ++ [tp, tk])), 0, -1⟩ r tw (tn :: (ub ++ [tp, tk])) (h3 p List.mem_cons_self) (fun i hi => h3 i (List.mem_cons_of_mem _ hi)) rfl hup kw (by rw [bw]; decide) (by simp at hn ⊢; omega) rfl
  have e4 : needT E ⟨tw :: tn :: (ub ++ [tp, tk]), 0, -1⟩ 1 wWithin = ⟨tn :: (ub ++ [tp, tk]), 0, -1⟩ := needT_yes (s := ⟨tw :: tn :: (ub ++ [tp, tk]), 0, -1⟩) rfl kw bw
  have e5 : numberT E ⟨tn :: (ub ++ [tp, tk]), 0, -1⟩ = (wi, ⟨ub ++ [tp, tk], 0, -1⟩) := by
    rw [numberT_yes (s := ⟨tn :: (ub ++ [tp, tk]), 0, -1⟩) rfl kn, bn, numZ_dec (by omega)]
    congr 1
    omega
  have e6 : (if isT E ⟨ub ++ [tp, tk], 0, -1⟩ 1 wBy then nameT E (takeT E ⟨ub ++ [tp, tk], 0, -1⟩ 1 wBy).2 else ([], ⟨ub ++ [tp, tk], 0, -1⟩)) = (by_, ⟨[tp, tk], 0, -1⟩) := by
    unfold tokBy at hub
    by_cases hb : by_ = []
    · rw [if_pos hb] at hub
      rw [bare_nil hub, hb]
      rw [takeT_skip (s := ⟨[] ++ [tp, tk], 0, -1⟩) (t := tp) (r := [tk]) rfl (.inr (by rw [bp]; decide))]
      rfl
    · rw [if_neg hb] at hub
      have hnb : nameB by_ = true := by
        rcases h5 with h5 | h5
        · exact absurd h5 hb
        · exact h5
      obtain ⟨t, r, rfl, k, b, hub⟩ := bare_cons hub
      obtain ⟨t', r', rfl, k', b', hub⟩ := bare_cons hub
      rw [bare_nil hub]
      rw [isT_head (s := ⟨[t, t'] ++ [tp, tk], 0, -1⟩) (t := t) (r := [t', tp, tk]) rfl, if_pos (by simp [k, b]), takeT_yes (s := ⟨[t, t'] ++ [tp, tk], 0, -1⟩) (t := t) (r := [t', tp, tk]) rfl k b]
      rw [nameT_yes (s := ⟨[t', tp, tk], 0, -1⟩) rfl k' (by rw [b']; exact hnb), b']
  have hpk : pick = 1 ∨ pick = 2 ∨ pick = 3 := by omega
  have hi : ((picksL.idxOf tk.b : Nat) : Int) = pick := by rw [bk]; rcases hpk with rfl | rfl | rfl <;> decide
  have hm : tk.b ∈ picksL := by rw [bk]; rcases hpk with rfl | rfl | rfl <;> decide
  have e7 : (if isT E ⟨[tp, tk], 0, -1⟩ 1 wPick then chooseT E (takeT E ⟨[tp, tk], 0, -1⟩ 1 wPick).2 1 picksL else (1, ⟨[tp, tk], 0, -1⟩)) = (picksL.idxOf tk.b, ⟨[], 0, -1⟩) := by
    rw [isT_head (s := ⟨[tp, tk], 0, -1⟩) rfl, if_pos (by simp [kp, bp]), takeT_yes (s := ⟨[tp, tk], 0, -1⟩) rfl kp bp]
    unfold chooseT
    rw [amongT_yes (s := ⟨[tk], 0, -1⟩) rfl kk picksL 0 hm, Nat.zero_add, if_neg (by dsimp only; omega)]
  rw [hr1]
  unfold queryT
  dsimp only
  rw [e1, e2]
  dsimp only
  rw [e3]
  dsimp only
  rw [e4, e5]
  dsimp only
  rw [e6]
  dsimp only
  rw [e7]
  dsimp only
  rw [if_pos rfl, hi]
end
end Go.Proofs.YtifacoompbngaaaGreatDoor
namespace Go.Proofs.YtifacoompbngaaaGreatDoor
open Go.Lib

theorem inter_cons (s x : List UInt8) : ∀ xs : List (List UInt8), s.intercalate (x :: xs) = x ++ xs.flatMap fun y => s ++ y
  | [] => by simp [List.intercalate]
  | y :: ys => by
    have ih := inter_cons s y ys
    unfold List.intercalate at ih ⊢
    rw [List.flatMap_cons, List.append_assoc, ← ih]
    simp [List.intersperse]
theorem EndsOk.sp (r : List UInt8) : EndsOk (32 :: r) := fun x hx => .inl (by simpa using hx.symm)
theorem EndsOk.none : EndsOk [] := fun x hx => by cases hx
theorem lx_rowW {α : Type} {w : List UInt8} (hw : (∃ c t, w = c :: t ∧ xletter c = true) ∧ (∀ c ∈ w, xin c = true) ∧ w.length ≤ 16) {tx : α → List UInt8} {tok : α → List (Nat × List UInt8)} {P : α → Prop}
    (hone : ∀ x, P x → ∀ r ts, EndsOk r → Lx r ts → Lx (tx x ++ r) (tok x ++ ts)) : ∀ (xs : List α) (r : List UInt8) (ts : List (Nat × List UInt8)), (∀ x ∈ xs, P x) → EndsOk r → Lx r ts → EndsOk ((xs.flatMap fun y => 32 :: (w ++ 32 :: tx y)) ++ r) ∧ Lx ((xs.flatMap fun y => 32 :: (w ++ 32 :: tx y)) ++ r) (rowTok w tok xs ++ ts)
  | [], r, ts, _, he, h => ⟨he, h⟩
  | x :: xs, r, ts, hP, he, h => by
    obtain ⟨h1, h2⟩ := lx_rowW hw hone xs r ts (fun y hy => hP y (List.mem_cons_of_mem _ hy)) he h
    have h3 := hone x (hP x List.mem_cons_self) _ _ h1 h2
    have e : ((x :: xs).flatMap fun y => 32 :: (w ++ 32 :: tx y)) ++ r = 32 :: (w ++ 32 :: (tx x ++ ((xs.flatMap fun y => 32 :: (w ++ 32 :: tx y)) ++ r))) := by simp
    have e2 : rowTok w tok (x :: xs) ++ ts = (1, w) :: (tok x ++ (rowTok w tok xs ++ ts)) := by simp [rowTok]
    rw [e, e2]
    exact ⟨EndsOk.sp _, Lx.blank (Lx.word hw.1 hw.2.1 hw.2.2 (notin (by decide)) (Lx.blank h3))⟩
theorem lx_item (i : PIt) (h : rightI i = true ∧ nameB i.x = true) (r : List UInt8) (ts : List (Nat × List UInt8)) (he : EndsOk r) (hl : Lx r ts) : Lx (itemTx i ++ r) (tokI i ++ ts) := by
  obtain ⟨no, ns, x, mode⟩ := i
  obtain ⟨hr, hx⟩ := h
  have hx : nameB x = true := hx
  unfold rightI at hr
  dsimp only at hr
  split at hr
  · cases hr
  · rename_i hm
    simp only [Bool.and_eq_true, decide_eq_true_eq] at hr
    obtain ⟨⟨hn0, hn3⟩, hun⟩ := hr
    unfold unlikeB at hun
    simp only [Bool.and_eq_true, List.all_eq_true] at hun
    have hns := hun.1
    have hm : ¬ (mode < 1 ∨ 3 < mode ∨ (no = true ∧ mode ≠ 1)) := hm
    obtain ⟨y, ys, rfl⟩ : ∃ y ys, ns = y :: ys := by
      cases ns with
      | nil => simp at hn0
      | cons y ys => exact ⟨y, ys, rfl⟩
    have hmode : Lx (atL modesL mode ++ r) (tokMode mode ++ ts) ∧ ∀ z, (atL modesL mode ++ r)[0]? = some z → xin z = false := by
      have h123 : mode = 1 ∨ mode = 2 ∨ mode = 3 := by omega
      rcases h123 with rfl | rfl | rfl
      · exact ⟨hl, he.xin⟩
      · exact ⟨Lx.sign (c := 43) (by decide) he.eq hl, notin (c := 43) (by decide)⟩
      · exact ⟨Lx.sign (c := 63) (by decide) he.eq hl, notin (c := 63) (by decide)⟩
    have h1 : Lx (32 :: (x ++ (atL modesL mode ++ r))) ((1, x) :: (tokMode mode ++ ts)) := Lx.blank (lx_name hx hmode.2 hmode.1)
    have h2 := lx_rowW (w := wOr) (tx := fun y => y) (tok := fun y => [(1, y)]) (P := fun y => nameB y = true) ⟨⟨_, _, rfl, by decide⟩, by decide, by decide⟩ (fun y hy r ts he h => lx_name hy he.xin h) ys _ _ (fun z hz => hns z (List.mem_cons_of_mem _ hz)) (EndsOk.sp _) h1
    have h3 := lx_name (hns y List.mem_cons_self) h2.1.xin h2.2
    have e1 : itemTx ⟨no, y :: ys, x, mode⟩ ++ r = (if no then [110, 111, 116, 32] else []) ++ (y ++ ((ys.flatMap fun y => 32 :: (wOr ++ 32 :: y)) ++ (32 :: (x ++ (atL modesL mode ++ r))))) := by
      unfold itemTx
      dsimp only
      rw [inter_cons]
      simp [wOr]
    have e2 : tokI ⟨no, y :: ys, x, mode⟩ ++ ts = (if no then [(1, wNot)] else []) ++ ((1, y) :: (rowTok wOr (fun y => [(1, y)]) ys ++ ((1, x) :: (tokMode mode ++ ts)))) := by
      unfold tokI tokNs
      simp
    rw [e1, e2]
    cases no with
    | false => exact h3
    | true => exact Lx.word (b := wNot) ⟨_, _, rfl, by decide⟩ (by decide) (by decide) (notin (by decide)) (Lx.blank h3)
theorem lx_pred (p : PPr) (h : rightP p = true) (r : List UInt8) (ts : List (Nat × List UInt8)) (he : EndsOk r) (hl : Lx r ts) : Lx (predTx p ++ r) (tokP p ++ ts) := by
  obtain ⟨a, c, b⟩ := p
  unfold rightP at h
  simp only [Bool.and_eq_true, decide_eq_true_eq] at h
  obtain ⟨hc, ha, hb⟩ := h
  have h1 := Lx.blank (lx_expr 6 b r ts hb he hl)
  have h2 : Lx (atL cmpsL c ++ 32 :: (exprTx 6 b ++ r)) ((4, atL cmpsL c) :: (tokX 6 b ++ ts)) := by
    have hc6 : c = 1 ∨ c = 2 ∨ c = 3 ∨ c = 4 ∨ c = 5 ∨ c = 6 := by omega
    rcases hc6 with rfl | rfl | rfl | rfl | rfl | rfl
    · exact Lx.sign (c := 61) (by decide) (not61 (by decide)) h1
    · exact Lx.two (c := 33) (by decide) h1
    · exact Lx.sign (c := 60) (by decide) (not61 (by decide)) h1
    · exact Lx.two (c := 60) (by decide) h1
    · exact Lx.sign (c := 62) (by decide) (not61 (by decide)) h1
    · exact Lx.two (c := 62) (by decide) h1
  have h3 := lx_expr 6 a _ _ ha (EndsOk.sp _) (Lx.blank h2)
  have e1 : predTx ⟨a, c, b⟩ ++ r = exprTx 6 a ++ 32 :: (atL cmpsL c ++ 32 :: (exprTx 6 b ++ r)) := by
    unfold predTx
    simp
  have e2 : tokP ⟨a, c, b⟩ ++ ts = tokX 6 a ++ ((4, atL cmpsL c) :: (tokX 6 b ++ ts)) := by
    unfold tokP
    simp
  rw [e1, e2]
  exact h3
/-- What is printed of a query has its tokens. -/
theorem lx_query (q : PQu) (h : rightQ q = true) : Lx (printQ q) (tokQ q) := by
  obtain ⟨h1, h2, h3, h4, h5, h6⟩ := rightQ_parts h
  unfold printQ
  rw [if_pos h]
  obtain ⟨its, prs, wi, by_, pick⟩ := q
  dsimp only at h1 h2 h3 h4 h5 h6 ⊢
  obtain ⟨y, ys, rfl, hits⟩ := rightIs_all h1
  have hpk : pick = 1 ∨ pick = 2 ∨ pick = 3 := by omega
  have a1 : Lx (atL picksL pick) [(1, atL picksL pick)] := by
    have := Lx.word (b := atL picksL pick) (r := []) (by rcases hpk with rfl | rfl | rfl <;> exact ⟨_, _, rfl, by decide⟩) (by rcases hpk with rfl | rfl | rfl <;> decide) (by rcases hpk with rfl | rfl | rfl <;> decide) EndsOk.none.xin Lx.nil
    rwa [List.append_nil] at this
  have a2 : Lx ([32, 112, 105, 99, 107, 32] ++ atL picksL pick) ((1, wPick) :: [(1, atL picksL pick)]) := Lx.blank (Lx.word (b := wPick) ⟨_, _, rfl, by decide⟩ (by decide) (by decide) (notin (by decide)) (Lx.blank a1))
  have a3 : EndsOk ((if by_ = [] then [] else [32, 98, 121, 32] ++ by_) ++ ([32, 112, 105, 99, 107, 32] ++ atL picksL pick)) ∧ Lx ((if by_ = [] then [] else [32, 98, 121, 32] ++ by_) ++ ([32, 112, 105, 99, 107, 32] ++ atL picksL pick)) (tokBy by_ ++ [(1, wPick), (1, atL picksL pick)]) := by
    unfold tokBy
    by_cases hb : by_ = []
    · rw [if_pos hb, if_pos hb]
      exact ⟨EndsOk.sp _, a2⟩
    · have hnb : nameB by_ = true := by
        rcases h5 with h5 | h5
        · exact absurd h5 hb
        · exact h5
      rw [if_neg hb, if_neg hb, List.append_assoc]
      exact ⟨EndsOk.sp _, Lx.blank (Lx.word (b := wBy) ⟨_, _, rfl, by decide⟩ (by decide) (by decide) (notin (by decide)) (Lx.blank (lx_name hnb (notin (by decide)) a2)))⟩
  have a4 : Lx ([32, 119, 105, 116, 104, 105, 110, 32] ++ (itoa wi ++ ((if by_ = [] then [] else [32, 98, 121, 32] ++ by_) ++ ([32, 112, 105, 99, 107, 32] ++ atL picksL pick)))) ((1, wWithin) :: (2, decDigits wi.toNat) :: (tokBy by_ ++ [(1, wPick), (1, atL picksL pick)])) := by
    unfold itoa
    rw [if_neg (by omega)]
    exact Lx.blank (Lx.word (b := wWithin) ⟨_, _, rfl, by decide⟩ (by decide) (by decide) (notin (by decide)) (Lx.blank (Lx.num (dec_ne _) (dec_xdigit _) (dec_right (by omega)) a3.1.dig a3.2)))
  generalize hR : [32, 119, 105, 116, 104, 105, 110, 32] ++ (itoa wi ++ ((if by_ = [] then [] else [32, 98, 121, 32] ++ by_) ++ ([32, 112, 105, 99, 107, 32] ++ atL picksL pick))) = R at a4
  have heR : EndsOk R := by rw [← hR]; exact EndsOk.sp _
  have a5 : EndsOk ((if prs = [] then [] else [32, 119, 104, 101, 114, 101, 32] ++ [32, 97, 110, 100, 32].intercalate (prs.map predTx)) ++ R) ∧ Lx ((if prs = [] then [] else [32, 119, 104, 101, 114, 101, 32] ++ [32, 97, 110, 100, 32].intercalate (prs.map predTx)) ++ R) (tokPs prs ++ ((1, wWithin) :: (2, decDigits wi.toNat) :: (tokBy by_ ++ [(1, wPick), (1, atL picksL pick)]))) := by
    cases prs with
    | nil => exact ⟨heR, a4⟩
    | cons p ps =>
      rw [if_neg (by simp)]
      have b1 := lx_rowW (w := wAnd) (tx := predTx) (tok := tokP) (P := fun p => rightP p = true) ⟨⟨_, _, rfl, by decide⟩, by decide, by decide⟩ lx_pred ps R _ (fun z hz => h3 z (List.mem_cons_of_mem _ hz)) heR a4
      have b2 := lx_pred p (h3 p List.mem_cons_self) _ _ b1.1 b1.2
      have e : ([32, 119, 104, 101, 114, 101, 32] ++ [32, 97, 110, 100, 32].intercalate ((p :: ps).map predTx)) ++ R = 32 :: (wWhere ++ 32 :: (predTx p ++ ((ps.flatMap fun y => 32 :: (wAnd ++ 32 :: predTx y)) ++ R))) := by
        rw [List.map_cons, inter_cons, List.flatMap_map]
        simp [wAnd, wWhere]
      have e2 : tokPs (p :: ps) ++ ((1, wWithin) :: (2, decDigits wi.toNat) :: (tokBy by_ ++ [(1, wPick), (1, atL picksL pick)])) = (1, wWhere) :: (tokP p ++ (rowTok wAnd tokP ps ++ ((1, wWithin) :: (2, decDigits wi.toNat) :: (tokBy by_ ++ [(1, wPick), (1, atL picksL pick)])))) := by
        unfold tokPs
        simp
      rw [e, e2]
      exact ⟨EndsOk.sp _, Lx.blank (Lx.word (b := wWhere) ⟨_, _, rfl, by decide⟩ (by decide) (by decide) (notin (by decide)) (Lx.blank b2))⟩
  generalize (if prs = [] then [] else [32, 119, 104, 101, 114, 101, 32] ++ [32, 97, 110, 100, 32].intercalate (prs.map predTx)) ++ R = S at a5
  have b1 := lx_rowW (w := wThen) (tx := itemTx) (tok := tokI) (P := fun i => rightI i = true ∧ nameB i.x = true) ⟨⟨_, _, rfl, by decide⟩, by decide, by decide⟩ lx_item ys S _ (fun z hz => hits z (List.mem_cons_of_mem _ hz)) a5.1 a5.2
  have b2 := lx_item y (hits y List.mem_cons_self) _ _ b1.1 b1.2
  have e : [115, 101, 113, 32] ++ ([32, 116, 104, 101, 110, 32].intercalate ((y :: ys).map itemTx) ++ S) = wSeq ++ 32 :: (itemTx y ++ ((ys.flatMap fun y => 32 :: (wThen ++ 32 :: itemTx y)) ++ S)) := by
    rw [List.map_cons, inter_cons, List.flatMap_map]
    simp [wThen, wSeq]
  rw [e]
  have e2 : tokQ ⟨y :: ys, prs, wi, by_, pick⟩ = (1, wSeq) :: (tokI y ++ (rowTok wThen tokI ys ++ (tokPs prs ++ ((1, wWithin) :: (2, decDigits wi.toNat) :: (tokBy by_ ++ [(1, wPick), (1, atL picksL pick)]))))) := by
    unfold tokQ tokIs
    simp
  rw [e2]
  exact Lx.word (b := wSeq) ⟨_, _, rfl, by decide⟩ (by decide) (by decide) (notin (by decide)) (Lx.blank b2)
/-- What is printed is read as the same query, unless it is too long. -/
theorem parse_print (q : PQu) (h : rightQ q = true) : ((printQ q).length ≤ 512 ∧ (tokQ q).length ≤ 128 → parseI (printQ q) = (q, 0, 0)) ∧ (¬ ((printQ q).length ≤ 512 ∧ (tokQ q).length ≤ 128) → ∃ p, parseI (printQ q) = (noQ, 2, p)) := by
  have hL := lx_query q h
  constructor
  · rintro ⟨h1, h2⟩
    obtain ⟨us, h3, h4⟩ := hL.lex ((printQ q).length + 1) 0 0 (Nat.lt_succ_self _) (by omega)
    have h5 : readX (printQ q) = (us, 0, 0) := by
      unfold readX
      rw [if_neg (by omega)]
      exact h3
    unfold parseI
    rw [h5]
    dsimp only
    rw [if_neg (by decide), query_of q h us h4 (Nat.le_succ _)]
    dsimp only
    rw [if_neg (by decide), if_pos h]
  · intro h1
    have h5 : (readX (printQ q)).2.1 = 2 := by
      unfold readX
      split
      · rfl
      · exact hL.long _ 0 0 (Nat.lt_succ_self _) (by omega) (by omega)
    refine ⟨((readX (printQ q)).2.2 : Nat), ?_⟩
    unfold parseI
    rw [h5, if_pos (by decide)]
    rfl
end Go.Proofs.YtifacoompbngaaaGreatDoor
namespace Go.Proofs.YtifacoompbngaaaGreatDoor
open Go.ChangeShapes Go.WideShapes Go.ChangeAt Go.RowKit Go.Lib Go.Deep Go.Op

instance : Inhabited PEx := ⟨noX⟩
instance : Inhabited PIt := ⟨⟨false, [], [], 0⟩⟩
instance : Inhabited PPr := ⟨⟨noX, 0, noX⟩⟩
theorem strB_eq (s : ByteArray) : strB s.data.toList = s := by apply ByteArray.ext; simp [strB]

section
variable {H : Type} {enc : TypeId × Value → H} {w : World} {base : Nat} {spare : Nat → Bool} {held : Bool}

theorem weightsAll_mem {P : Program} {e : TypeId} : ∀ {l : List (DataW H)} {d : DataW H} {n : Nat}, d ∈ l → n ∈ d.weights P e → n ∈ DataW.weightsAll P e l
  | [], _, _, h, _ => by cases h
  | x :: l, d, n, h, hn => by
    simp only [DataW.weightsAll, List.mem_append]
    rcases List.mem_cons.1 h with rfl | h
    · exact .inl hn
    · exact .inr (weightsAll_mem h hn)
/-- What a thing that came in takes is no more than the form lets be. -/
def WLe (t : TypeId) (d : DataW H) : Prop := ∀ q ∈ d.weights Tryz.prog t, q ≤ reachBytes
theorem open_slice_n {t e : TypeId} {fuel : Nat} {cs : List Value} {x : DataW H × List MemPlace} (ht : Tryz.prog.underlying t = some (.slice e)) (h : DataW.trod enc Tryz.prog w base spare held fuel t cs = some x) :
    cs = [.slice none 0 0] ∨ ∃ (a : Addr) (len cap n : Nat), fuel = n + 1 ∧ cs = [.slice (some a) len cap] ∧ len ≤ cap ∧ cap ≤ maxLen ∧ (WLe t x.1 → len * Tryz.prog.bytesOf e ≤ reachBytes) ∧
      ∀ i, i < len → ∃ cs' y, w.cells? base (a.add (i * Tryz.prog.cellsOf e)) (Tryz.prog.cellsOf e) = some cs' ∧ DataW.trod enc Tryz.prog w base spare held n e cs' = some y ∧ (WLe t x.1 → WLe e y.1) := by
  rcases DataW.trod_slice ht h with ⟨h0, _⟩ | ⟨a, len, cap, elems, rest, n, hf, hcs, hx, _, hl, hm, hlen, hel, _⟩
  · exact .inl h0
  · refine .inr ⟨a, len, cap, n, hf, hcs, hl, hm, fun hw => ?_, fun i hi => ?_⟩
    · have h1 := hw ((elems.length + rest.length) * Tryz.prog.bytesOf e) (by
        rw [hx]
        simp only [DataW.weights, ht, List.length_map, List.mem_cons, true_or])
      have h2 : len * Tryz.prog.bytesOf e ≤ (elems.length + rest.length) * Tryz.prog.bytesOf e := Nat.mul_le_mul_right _ (by omega)
      omega
    · have h1 := hel i hi
      rw [List.getElem?_eq_getElem (by omega)] at h1
      obtain ⟨cs', h2, h3⟩ := Option.bind_eq_some_iff.1 h1
      refine ⟨cs', _, h2, h3, fun hw q hq => hw q ?_⟩
      rw [hx]
      simp only [DataW.weights, ht, List.mem_cons, List.mem_append]
      exact .inr (.inl (weightsAll_mem (List.mem_map.2 ⟨_, List.getElem_mem (by omega), rfl⟩) hq))
theorem add_at {a : Addr} (hs : a.spot = none) (i : Nat) : a.add i = ⟨a.block, a.off + i, none⟩ := by
  obtain ⟨b, o, s⟩ := a
  dsimp only at hs
  subst hs
  unfold Addr.add
  split
  · rename_i h
    rw [h]
    rfl
  · rfl
theorem cells_spot {a : Addr} {k : Nat} {cs : List Value} (hk : 0 < k) (h : w.cells? base a k = some cs) : a.spot = none := by
  obtain ⟨_, hl, hc⟩ := World.cells?_some h
  have h0 := hc 0 hk
  rw [List.getElem?_eq_getElem (by omega)] at h0
  unfold World.cell? at h0
  have e : a.add 0 = a := by unfold Addr.add; rw [if_pos rfl]
  rw [e] at h0
  split at h0
  · split at h0
    · cases h0
    · rename_i hs
      simpa using hs
  · cases h0
/-- A row that came in, of any kind of thing. -/
theorem open_row {t e : TypeId} {α : Type} [Inhabited α] (D : RowD α) (hk : 0 < D.k) (ht : Tryz.prog.underlying t = some (.slice e)) (ck : Tryz.prog.cellsOf e = D.k) (Q : α → Prop) {fuel : Nat} {cs : List Value} {x : DataW H × List MemPlace} (h : DataW.trod enc Tryz.prog w base spare held fuel t cs = some x) (hw : WLe t x.1)
    (hel : ∀ n cs' y, n < fuel → DataW.trod enc Tryz.prog w base spare held n e cs' = some y → WLe e y.1 → ∃ z, D.P (fun _ => False) w cs' z ∧ Q z) : ∃ (l : List α) (a : Option Addr) (c : Nat), cs = [.slice a l.length c] ∧ RowK D (fun _ => False) w (.slice a l.length c) l ∧ l.length * Tryz.prog.bytesOf e ≤ reachBytes ∧ ∀ z ∈ l, Q z := by
  rcases open_slice_n ht h with rfl | ⟨a, len, cap, n, hf, rfl, hl, hm, hby, hx⟩
  · exact ⟨[], none, 0, rfl, RowK.nil _ _ _, by simp, fun z hz => by cases hz⟩
  · have hall : ∀ i, i < len → ∃ z : α, (∃ cs', w.cells? base (a.add (i * D.k)) D.k = some cs' ∧ D.P (fun _ => False) w cs' z) ∧ Q z := fun i hi => by
      obtain ⟨cs', y, h1, h2, h5⟩ := hx i hi
      rw [ck] at h1
      obtain ⟨z, h3, h4⟩ := hel n cs' y (by omega) h2 (h5 hw)
      exact ⟨z, ⟨cs', h1, h3⟩, h4⟩
    obtain ⟨q, hq⟩ := choose_lt hall
    have hlen : ((List.range len).map q).length = len := by simp
    refine ⟨(List.range len).map q, some a, cap, by rw [hlen], ⟨some a, cap, rfl, by rw [hlen]; exact hl, fun j z hj => ?_⟩, by rw [hlen]; exact hby hw, fun z hz => ?_⟩
    · obtain ⟨hjl, rfl⟩ := List.getElem?_eq_some_iff.1 hj
      rw [hlen] at hjl
      obtain ⟨⟨cs', h1, h3⟩, _⟩ := hq j hjl
      have hs : a.spot = none := by
        obtain ⟨⟨cs0, g1, _⟩, _⟩ := hq 0 (by omega)
        rw [Nat.zero_mul] at g1
        have e0 : a.add 0 = a := by unfold Addr.add; rw [if_pos rfl]
        rw [e0] at g1
        exact cells_spot hk g1
      obtain ⟨_, hl1, hc⟩ := World.cells?_some h1
      refine ⟨a.block, a.off, cs', ?_, fun hf => hf, by simpa using h3, fun r u hu => ?_⟩
      · obtain ⟨b, o, s⟩ := a
        dsimp only at hs
        subst hs
        rfl
      · have hr := (List.getElem?_eq_some_iff.1 hu).1
        have := hc r (by omega)
        rw [add_at hs, add_at rfl, hu] at this
        exact this
    · obtain ⟨i, hi, rfl⟩ := List.mem_map.1 hz
      exact (hq i (List.mem_range.1 hi)).2

/-- So long may an expression's texts be that came in. -/
inductive XLn : PEx → Prop
  | mk (k : Int) (v : PVal) (x f : List UInt8) (ks : List PEx) (hv : v.s.length ≤ maxLen) (hx : x.length ≤ maxLen) (hf : f.length ≤ maxLen) (hl : ks.length ≤ maxLen) (hk : ∀ y ∈ ks, XLn y) : XLn (.mk k v x f ks)

set_option maxRecDepth 100000 in
theorem open_str1 {fuel : Nat} {cs : List Value} {x : DataW H × List MemPlace} (h : DataW.trod enc Tryz.prog w base spare held fuel 9 cs = some x) : ∃ b : List UInt8, cs = [.string (strB b)] ∧ b.length ≤ maxLen := by
  obtain ⟨s, rfl, _, hs⟩ := DataW.trod_string Tryz.underlying9 h
  refine ⟨s.data.toList, by rw [strB_eq], ?_⟩
  have : s.data.toList.length = s.size := by simp
  omega
set_option maxRecDepth 100000 in
theorem open_expr : ∀ (fuel : Nat) (cs : List Value) (x : DataW H × List MemPlace), DataW.trod enc Tryz.prog w base spare held fuel 38 cs = some x →
    ∃ (y : PEx) (a : Option Addr) (c d : Nat), cs = exL y (.slice a y.ks.length c) ∧ ExK (fun _ => False) w d (.slice a y.ks.length c) y.ks ∧ XLn y := fun fuel => by
  induction fuel using Nat.strongRecOn with
  | _ fuel ih =>
    intro cs x h
    obtain ⟨xs, n, hn, _, hcl, hxl, hF⟩ := DataW.trod_struct Tryz.underlying38 h
    have c7 : Tryz.prog.cellsOf 38 = 7 := by kernel_rfl
    have ci : Tryz.prog.cellsOf 3 = 1 := by kernel_rfl
    have cs1 : Tryz.prog.cellsOf 9 = 1 := by kernel_rfl
    have ck1 : Tryz.prog.cellsOf 36 = 1 := by kernel_rfl
    have cv : Tryz.prog.cellsOf 35 = 3 := by kernel_rfl
    have c64 : Tryz.prog.cellsOf 2 = 1 := by kernel_rfl
    rw [c7] at hcl
    match xs, hxl, cs, hcl with
    | [y0, y1, y2, y3, y4], _, [v0, v1, v2, v3, v4, v5, v6], _ =>
      have g0 := hF 0 _ rfl
      have g1 := hF 1 _ rfl
      have g2 := hF 2 _ rfl
      have g3 := hF 3 _ rfl
      have g4 := hF 4 _ rfl
      simp [ci] at g0
      simp [cv] at g1
      simp [cs1] at g2
      simp [cs1] at g3
      simp [ck1] at g4
      obtain ⟨k, hk, _⟩ := DataW.trod_int Tryz.underlying3 g0
      obtain ⟨x2, h2, l2⟩ := open_str1 g2
      obtain ⟨x3, h3, l3⟩ := open_str1 g3
      obtain ⟨zs, m, hm, _, hvl, hzl, hG⟩ := DataW.trod_struct Tryz.underlying35 g1
      match zs, hzl with
      | [z0, z1, z2], _ =>
        have q0 := hG 0 _ rfl
        have q1 := hG 1 _ rfl
        have q2 := hG 2 _ rfl
        simp [ci] at q0
        simp [c64] at q1
        simp [cs1] at q2
        obtain ⟨vk, hvk, _⟩ := DataW.trod_int Tryz.underlying3 q0
        obtain ⟨vn, hvn, _⟩ := DataW.trod_int Tryz.underlying2 q1
        obtain ⟨vs, hvs, l1⟩ := open_str1 q2
        simp at hk h2 h3 hvk hvn hvs
        subst hk h2 h3 hvk hvn hvs
        rcases open_slice_n Tryz.underlying36 g4 with e | ⟨a, len, cap, n', hf, e, hl, hm', _, hx⟩
        · simp at e
          subst e
          exact ⟨.mk k ⟨vk, vn, vs⟩ x2 x3 [], none, 0, 0, rfl, ExK.nil _ _, .mk _ _ _ _ _ l1 l2 l3 (Nat.zero_le _) (fun y hy => by cases hy)⟩
        · simp at e
          subst e
          have hall : ∀ i, i < len → ∃ y : PEx, ∃ cs' a' c' d', w.cells? base (a.add (i * 7)) 7 = some cs' ∧ cs' = exL y (.slice a' y.ks.length c') ∧ ExK (fun _ => False) w d' (.slice a' y.ks.length c') y.ks ∧ XLn y := fun i hi => by
            obtain ⟨cs', y, h1, h2, _⟩ := hx i hi
            rw [c7] at h1
            obtain ⟨z, a', c', d', h3, h4, h5⟩ := ih n' (by omega) cs' y h2
            exact ⟨z, cs', a', c', d', h1, h3, h4, h5⟩
          obtain ⟨q, hq⟩ := choose_lt hall
          have hlen : ((List.range len).map q).length = len := by simp
          obtain ⟨D, hD⟩ := fuel_lt (n := len) (q := fun i d => ∃ cs' a' c', w.cells? base (a.add (i * 7)) 7 = some cs' ∧ cs' = exL (q i) (.slice a' (q i).ks.length c') ∧ ExK (fun _ => False) w d (.slice a' (q i).ks.length c') (q i).ks) (fun i d d' hd hh => by
            obtain ⟨cs', a', c', h1, h2, h3⟩ := hh
            exact ⟨cs', a', c', h1, h2, h3.le hd⟩) (fun i hi => by
            obtain ⟨cs', a', c', d', h1, h2, h3, _⟩ := hq i hi
            exact ⟨d', cs', a', c', h1, h2, h3⟩)
          refine ⟨.mk k ⟨vk, vn, vs⟩ x2 x3 ((List.range len).map q), some a, cap, D + 1, ?_, ?_, .mk _ _ _ _ _ l1 l2 l3 (by rw [hlen]; omega) (fun y hy => ?_)⟩
          · show _ = exL _ (.slice (some a) ((List.range len).map q).length cap)
            rw [hlen]
            rfl
          · show ExK _ _ _ (.slice (some a) ((List.range len).map q).length cap) ((List.range len).map q)
            refine ⟨some a, cap, rfl, fun j z hj => ?_⟩
            obtain ⟨hjl, rfl⟩ := List.getElem?_eq_some_iff.1 hj
            rw [hlen] at hjl
            obtain ⟨cs', a', c', h1, h2, h3⟩ := hD j hjl
            have hs : a.spot = none := by
              obtain ⟨cs0, _, _, g1, _⟩ := hD 0 (by omega)
              rw [Nat.zero_mul] at g1
              have e0 : a.add 0 = a := by unfold Addr.add; rw [if_pos rfl]
              rw [e0] at g1
              exact cells_spot (by decide) g1
            obtain ⟨_, hl1, hc⟩ := World.cells?_some h1
            have hcell : ∀ r, r < 7 → w.cell? ⟨a.block, a.off + j * 7 + r, none⟩ = cs'[r]? := fun r hr => by
              have := hc r hr
              rw [add_at hs, add_at rfl] at this
              exact this
            subst h2
            have hz : ((List.range len).map q)[j] = q j := by simp
            refine ⟨a.block, a.off, .slice a' (q j).ks.length c', ?_, ⟨fun hf => hf, fun hf => hf.elim⟩, ?_, ?_⟩
            · obtain ⟨b, o, s⟩ := a
              dsimp only at hs
              subst hs
              rfl
            · rw [hz]
              exact ⟨hcell 0 (by decide), hcell 1 (by decide), hcell 2 (by decide), hcell 3 (by decide), hcell 4 (by decide), hcell 5 (by decide), hcell 6 (by decide)⟩
            · rw [hz]
              exact h3
          · obtain ⟨i, hi, rfl⟩ := List.mem_map.1 hy
            obtain ⟨_, _, _, _, _, _, _, h5⟩ := hq i (List.mem_range.1 hi)
            exact h5
/-- So long may what a query says be that came in. -/
def ILn (i : PIt) : Prop := i.x.length ≤ maxLen ∧ i.ns.length ≤ 140737488355328 ∧ ∀ b ∈ i.ns, b.length ≤ maxLen
def QLn (q : PQu) : Prop := (∀ i ∈ q.its, ILn i) ∧ (∀ p ∈ q.prs, XLn p.l ∧ XLn p.r) ∧ q.by_.length ≤ maxLen ∧ q.its.length ≤ 140737488355328 ∧ q.prs.length ≤ 140737488355328
theorem reach_len {n b : Nat} (hb : 0 < b) (h : n * b ≤ reachBytes) : n ≤ 140737488355328 := by
  have h2 := reachBytes_lt
  have h4 : (2 : Nat) ^ 47 = 140737488355328 := by decide
  have h5 : n * 1 ≤ n * b := Nat.mul_le_mul_left _ hb
  omega
set_option maxRecDepth 100000 in
theorem open_names {fuel : Nat} {cs : List Value} {x : DataW H × List MemPlace} (h : DataW.trod enc Tryz.prog w base spare held fuel 60 cs = some x) (hw : WLe 60 x.1) : ∃ (l : List (List UInt8)) (a : Option Addr) (c : Nat), cs = [.slice a l.length c] ∧ RowK nameD (fun _ => False) w (.slice a l.length c) l ∧ l.length * Tryz.prog.bytesOf 9 ≤ reachBytes ∧ ∀ b ∈ l, b.length ≤ maxLen :=
  open_row nameD (by decide) Tryz.underlying60 (by kernel_rfl) (fun b => b.length ≤ maxLen) h hw (fun n cs' y _ hy _ => by
    obtain ⟨b, h1, h2⟩ := open_str1 hy
    exact ⟨b, h1, h2⟩)
set_option maxRecDepth 100000 in
theorem open_item {fuel : Nat} {cs : List Value} {x : DataW H × List MemPlace} (h : DataW.trod enc Tryz.prog w base spare held fuel 62 cs = some x) (hw : WLe 62 x.1) : ∃ i : PIt, itemD.P (fun _ => False) w cs i ∧ ILn i := by
  obtain ⟨xs, n, hn, hxe, hcl, hxl, hF⟩ := DataW.trod_struct Tryz.underlying62 h
  have c4 : Tryz.prog.cellsOf 62 = 4 := by kernel_rfl
  have cb : Tryz.prog.cellsOf 4 = 1 := by kernel_rfl
  have ci : Tryz.prog.cellsOf 3 = 1 := by kernel_rfl
  have cs1 : Tryz.prog.cellsOf 9 = 1 := by kernel_rfl
  have cn : Tryz.prog.cellsOf 60 = 1 := by kernel_rfl
  rw [c4] at hcl
  match xs, hxl, cs, hcl with
  | [y0, y1, y2, y3], _, [v0, v1, v2, v3], _ =>
    have g0 := hF 0 _ rfl
    have g1 := hF 1 _ rfl
    have g2 := hF 2 _ rfl
    have g3 := hF 3 _ rfl
    simp [cb] at g0
    simp [cn] at g1
    simp [cs1] at g2
    simp [ci] at g3
    obtain ⟨b, hb, _⟩ := DataW.trod_bool Tryz.underlying4 g0
    obtain ⟨l, a, c, hl, hr, hc, hlb⟩ := open_names g1 (fun q hq => hw q (by
      rw [hxe]
      simp only [DataW.weights, Tryz.underlying62]
      exact DataW.weights_mem_each (j := 1) (t := 60) (d := y1.1) (by kernel_rfl) rfl q hq))
    obtain ⟨vx, hx, l2⟩ := open_str1 g2
    obtain ⟨m, hm, _⟩ := DataW.trod_int Tryz.underlying3 g3
    simp at hb hl hx hm
    subst hb hl hx hm
    exact ⟨⟨b, l, vx, m⟩, ⟨a, c, rfl, hr⟩, l2, reach_len (show 0 < Tryz.prog.bytesOf 9 by rw [show Tryz.prog.bytesOf 9 = 16 by kernel_rfl]; decide) hc, hlb⟩
set_option maxRecDepth 100000 in
theorem open_pred {fuel : Nat} {cs : List Value} {x : DataW H × List MemPlace} (h : DataW.trod enc Tryz.prog w base spare held fuel 40 cs = some x) : ∃ p : PPr, predD.P (fun _ => False) w cs p ∧ (XLn p.l ∧ XLn p.r) := by
  obtain ⟨xs, n, hn, _, hcl, hxl, hF⟩ := DataW.trod_struct Tryz.underlying40 h
  have c15 : Tryz.prog.cellsOf 40 = 15 := by kernel_rfl
  have ci : Tryz.prog.cellsOf 3 = 1 := by kernel_rfl
  have c7 : Tryz.prog.cellsOf 38 = 7 := by kernel_rfl
  rw [c15] at hcl
  match xs, hxl, cs, hcl with
  | [y0, y1, y2], _, [v0, v1, v2, v3, v4, v5, v6, v7, v8, v9, v10, v11, v12, v13, v14], _ =>
    have g0 := hF 0 _ rfl
    have g1 := hF 1 _ rfl
    have g2 := hF 2 _ rfl
    simp [ci] at g0
    simp [c7] at g1
    simp [c7] at g2
    obtain ⟨m, hm, _⟩ := DataW.trod_int Tryz.underlying3 g0
    obtain ⟨l, a, c, d1, h1, h2, h3⟩ := open_expr _ _ _ g1
    obtain ⟨r, b, e, d2, h4, h5, h6⟩ := open_expr _ _ _ g2
    simp [exL] at hm h1 h4
    obtain ⟨rfl, rfl, rfl, rfl, rfl, rfl, rfl⟩ := h1
    obtain ⟨rfl, rfl, rfl, rfl, rfl, rfl, rfl⟩ := h4
    subst hm
    exact ⟨⟨l, m, r⟩, ⟨a, l.ks.length, c, b, r.ks.length, e, max d1 d2, rfl, h2.le (Nat.le_max_left _ _), h5.le (Nat.le_max_right _ _)⟩, h3, h6⟩
set_option maxRecDepth 100000 in
theorem open_query {b0 : Nat} {v : Value} {d : DataW H} {p : List MemPlace} (hv : Value.okWide Tryz.prog w .any b0 26 v) (h : DataW.Trod enc Tryz.prog w base spare held 26 v d p) (hw : WLe 26 d) :
    ∃ (a : Option Addr) (q c : Nat) (b : Option Addr) (r e : Nat) (p : PQu), v = .agg #[.slice a q c, .slice b r e, .int .i64 p.within, .string (strB p.by_), .int .i64 p.pick] ∧ QuAt (fun _ => False) w a q c b r e p ∧ QLn p := by
  obtain ⟨cs, rfl, hsz⟩ := okWide_struct Tryz.underlying26 hv
  obtain ⟨fuel, hf⟩ := h
  obtain ⟨xs, k, hk, hxy, _, hxl, hF⟩ := DataW.trod_struct Tryz.underlying26 hf
  have c5 : Tryz.prog.cellsOf 26 = 5 := by kernel_rfl
  have ci : Tryz.prog.cellsOf 3 = 1 := by kernel_rfl
  have c64 : Tryz.prog.cellsOf 2 = 1 := by kernel_rfl
  have cs1 : Tryz.prog.cellsOf 9 = 1 := by kernel_rfl
  have c1 : Tryz.prog.cellsOf 23 = 1 := by kernel_rfl
  have c2 : Tryz.prog.cellsOf 24 = 1 := by kernel_rfl
  obtain ⟨cl⟩ := cs
  rw [c5] at hsz
  simp at hsz
  match xs, hxl, cl, hsz with
  | [y0, y1, y2, y3, y4], _, [v0, v1, v2, v3, v4], _ =>
    have g0 := hF 0 _ rfl
    have g1 := hF 1 _ rfl
    have g2 := hF 2 _ rfl
    have g3 := hF 3 _ rfl
    have g4 := hF 4 _ rfl
    simp [c1, Value.cells] at g0
    simp [c2, Value.cells] at g1
    simp [c64, Value.cells] at g2
    simp [cs1, Value.cells] at g3
    simp [ci, Value.cells] at g4
    obtain ⟨its, a, c, hi, hir, hic, hiq⟩ := open_row itemD (by decide) Tryz.underlying23 (by kernel_rfl) ILn g0 (fun q hq => hw q (by
      have hd : d = .agg [y0.1, y1.1, y2.1, y3.1, y4.1] := congrArg Prod.fst hxy
      rw [hd]
      simp only [DataW.weights, Tryz.underlying26]
      exact DataW.weights_mem_each (j := 0) (t := 23) (d := y0.1) (by kernel_rfl) rfl q hq)) (fun n cs' y _ hy hwy => open_item hy hwy)
    obtain ⟨prs, b, e, hp, hpr, hpc, hpq⟩ := open_row predD (by decide) Tryz.underlying24 (by kernel_rfl) (fun p => XLn p.l ∧ XLn p.r) g1 (fun q hq => hw q (by
      have hd : d = .agg [y0.1, y1.1, y2.1, y3.1, y4.1] := congrArg Prod.fst hxy
      rw [hd]
      simp only [DataW.weights, Tryz.underlying26]
      exact DataW.weights_mem_each (j := 1) (t := 24) (d := y1.1) (by kernel_rfl) rfl q hq)) (fun n cs' y _ hy _ => open_pred hy)
    obtain ⟨wi, hw, _⟩ := DataW.trod_int Tryz.underlying2 g2
    obtain ⟨bb, hb, hbl⟩ := open_str1 g3
    obtain ⟨pk, hpk, _⟩ := DataW.trod_int Tryz.underlying3 g4
    simp at hi hp hw hb hpk
    subst hi hp hw hb hpk
    exact ⟨a, its.length, c, b, prs.length, e, ⟨its, prs, wi, bb, pk⟩, rfl, ⟨hir, hpr⟩, hiq, hpq, hbl, reach_len (show 0 < Tryz.prog.bytesOf 62 by rw [show Tryz.prog.bytesOf 62 = 56 by kernel_rfl]; decide) hic, reach_len (show 0 < Tryz.prog.bytesOf 40 by rw [show Tryz.prog.bytesOf 40 = 200 by kernel_rfl]; decide) hpc⟩
end
end Go.Proofs.YtifacoompbngaaaGreatDoor
namespace Go.Proofs.YtifacoompbngaaaGreatDoor
open Go.RowKit Go.Lib Go.Op

section
variable {w : World} {a : Option Addr} {c n : Nat} {v : PVal} {x f : List UInt8}

set_option maxHeartbeats 1000000 in
set_option maxRecDepth 100000 in
theorem under_yes {k : Int} (hk : k = 7 ∨ k = 8) : Calls Tryz.prog 49 #[.agg #[.int .i64 k, .int .i64 v.k, .int .i64 v.n, .string (strB v.s), .string (strB x), .string (strB f), .slice a n c]] w fun e w' => e = .returned (.slice a n c) ∧ Below w.heap.size w w' := by
  have hb0 := (Below.refl w.heap.size w).alloc (Nat.le_refl _) (.cells #[.int .i64 k, .int .i64 v.k, .int .i64 v.n, .string (strB v.s), .string (strB x), .string (strB f), .slice a n c] 38)
  have HB0 := Lib.hid hb0
  have hd := double_calls k
  rw [decide_eq_true hk] at hd
  have HD := Lib.hid hd
  clear hb0 hk hd
  go_enter Tryz.func49, Tryz.ntmps49
  go_wp2_with (go_at_call 116; (with_reducible refine (HD.out _).mono ?_); rintro e w1 ⟨rfl, rfl⟩)
  go_ret
  exact ⟨rfl, HB0.out⟩
set_option maxHeartbeats 1000000 in
set_option maxRecDepth 100000 in
theorem under_no {k : Int} (hk : ¬ (k = 7 ∨ k = 8)) : Calls Tryz.prog 49 #[.agg #[.int .i64 k, .int .i64 v.k, .int .i64 v.n, .string (strB v.s), .string (strB x), .string (strB f), .slice a n c]] w fun e w' => e = .returned (.slice none 0 0) ∧ Below w.heap.size w w' := by
  have hb0 := (Below.refl w.heap.size w).alloc (Nat.le_refl _) (.cells #[.int .i64 k, .int .i64 v.k, .int .i64 v.n, .string (strB v.s), .string (strB x), .string (strB f), .slice a n c] 38)
  have HB0 := Lib.hid hb0
  have hd := double_calls k
  rw [decide_eq_false hk] at hd
  have HD := Lib.hid hd
  clear hb0 hk hd
  go_enter Tryz.func49, Tryz.ntmps49
  go_wp2_with (go_at_call 116; (with_reducible refine (HD.out _).mono ?_); rintro e w1 ⟨rfl, rfl⟩)
  go_ret
  exact ⟨rfl, HB0.out⟩
end

section
variable {w : World} {g o n c : Nat} {a : Option Addr}
set_option maxHeartbeats 1000000 in
set_option maxRecDepth 100000 in
theorem place_nil : Calls Tryz.prog 50 #[.slice a 0 c] w fun e w' => e = .returned (.agg #[.pointer none, .int .i64 0]) ∧ Below w.heap.size w w' := by
  have hb0 := (Below.refl w.heap.size w).alloc (Nat.le_refl _) (.cells #[.pointer none, .int .i64 0] 100)
  have HB0 := Lib.hid hb0
  clear hb0
  go_enter Tryz.func50, Tryz.ntmps50
  go_wp2
  refine bodyPost_ret (v := .agg #[.pointer none, .int .i64 0]) (by simp [results, Tryz.results50, go_sem]) rfl ⟨rfl, HB0.out⟩
set_option maxHeartbeats 1000000 in
set_option maxRecDepth 100000 in
theorem place_some (hn : 0 < n) : Calls Tryz.prog 50 #[.slice (some ⟨g, o, none⟩) n c] w fun e w' => e = .returned (.agg #[.pointer (some ⟨g, o, none⟩), .int .i64 n]) ∧ Below w.heap.size w w' := by
  have hb0 := (Below.refl w.heap.size w).alloc (Nat.le_refl _) (.cells #[.pointer (some ⟨g, o, none⟩), .int .i64 n] 100)
  have HB0 := Lib.hid hb0
  have t0 : ((n : Int) == 0) = false := by rw [beq_eq_false_iff_ne]; omega
  clear hb0
  go_enter Tryz.func50, Tryz.ntmps50
  go_wp2
  refine bodyPost_ret (v := .agg #[.pointer (some ⟨g, o, none⟩), .int .i64 n]) (by simp [results, Tryz.results50, go_sem]) rfl ⟨rfl, HB0.out⟩
end

end Go.Proofs.YtifacoompbngaaaGreatDoor
namespace Go.Proofs.YtifacoompbngaaaGreatDoor
open Go.RowKit Go.Lib Go.Op

/-- A key: where a row of Kids stands, and how many they are. -/
def keyV (k : Option Addr × Nat) : Value := .agg #[.pointer k.1, .int .i64 k.2]
def KBlk (w : World) (k : Option Addr × Nat) : Prop := ∀ a, k.1 = some a → ∃ cs t, w.heap[a.block]? = some (.cells cs t (0, 0))
theorem ptr_eqd (d : Nat) {a b : Option Addr} {W : World} (ha : ∀ x, a = some x → ∃ cs t, W.heap[x.block]? = some (.cells cs t (0, 0))) (hb : ∀ x, b = some x → ∃ cs t, W.heap[x.block]? = some (.cells cs t (0, 0))) :
    (Op.equalIn (d + 1) 98 (.pointer a) (.pointer b)).run Tryz.prog W = .ok (decide (a = b)) W := by
  have hu : Tryz.prog.underlying 98 = some (.pointer 38) := by kernel_rfl
  cases a with
  | none => cases b <;> simp [Op.equalIn, run_underlying hu]
  | some x =>
    cases b with
    | none => simp [Op.equalIn, run_underlying hu]
    | some y =>
      have hs : (sizeOf 38).run Tryz.prog W = .ok 7 W := by kernel_rfl
      simp only [Op.equalIn, Sem.run_bind, run_underlying hu, Result.andThen_ok, hs]
      rw [if_pos (by decide)]
      by_cases he : x = y
      · subst he
        rw [run_sameAddr_same]
        simp
      · obtain ⟨cs, t, h1⟩ := ha x rfl
        obtain ⟨cs', t', h2⟩ := hb y rfl
        rw [run_sameAddr_other W he h1 h2]
        simp [he]
theorem ptr_eq {a b : Option Addr} {W : World} (ha : ∀ x, a = some x → ∃ cs t, W.heap[x.block]? = some (.cells cs t (0, 0))) (hb : ∀ x, b = some x → ∃ cs t, W.heap[x.block]? = some (.cells cs t (0, 0))) :
    (Op.equalIn 9999 98 (.pointer a) (.pointer b)).run Tryz.prog W = .ok (decide (a = b)) W := ptr_eqd 9998 ha hb
theorem kids_eq {k l : Option Addr × Nat} {W : World} (hk : KBlk W k) (hl : KBlk W l) : (Op.equal 100 (keyV k) (keyV l)).run Tryz.prog W = .ok (decide (k = l)) W := by
  have hp := ptr_eq hk hl
  obtain ⟨a, n⟩ := k
  obtain ⟨b, m⟩ := l
  dsimp only at hp
  unfold Op.equal keyV
  rw [show Op.maxDepth = 9999 + 1 from rfl, Go.run_equalIn_struct W 9999 100 _ _ (by kernel_rfl) (by kernel_rfl)]
  simp [go_sem, hp]
  by_cases h1 : a = b <;> by_cases h2 : n = m <;> simp [h1, h2] <;> omega
end Go.Proofs.YtifacoompbngaaaGreatDoor
namespace Go.Proofs.YtifacoompbngaaaGreatDoor
open Go.RowKit Go.Lib Go.Op

theorem keyV_inj {k l : Option Addr × Nat} (h : keyV k = keyV l) : k = l := by
  obtain ⟨a, n⟩ := k
  obtain ⟨b, m⟩ := l
  unfold keyV at h
  simp only [Value.agg.injEq, Array.mk.injEq, List.cons.injEq, Value.pointer.injEq, Value.int.injEq, and_true, true_and] at h
  obtain ⟨rfl, h2⟩ := h
  congr 1
  omega
/-- Entries of a map of depths. -/
structure DEs (W : World) (es : List MapEntry) (f : Option Addr × Nat → Int) : Prop where
  ent : ∀ e ∈ es, ∃ k, e.key = keyV k ∧ KBlk W k ∧ e.val = .int .i64 (f k)
  has : ∀ k, f k ≠ 0 → ∃ e ∈ es, e.key = keyV k
  one : es.Pairwise (fun a b => a.key ≠ b.key)
theorem ask_run {W : World} {k : Option Addr × Nat} (hk : KBlk W k) : ∀ (es : List MapEntry) (i : Nat), (∀ e ∈ es, ∃ l, e.key = keyV l ∧ KBlk W l) →
    (((Instr.findAsking 100 (keyV k) es i).run Tryz.prog W = .ok none W ∧ ∀ e ∈ es, e.key ≠ keyV k) ∨ ∃ j e, (Instr.findAsking 100 (keyV k) es i).run Tryz.prog W = .ok (some (i + j, e.val)) W ∧ es[j]? = some e ∧ e.key = keyV k)
  | [], i, _ => Or.inl ⟨rfl, fun e h => by simp at h⟩
  | e :: es, i, h => by
    obtain ⟨l, hl, hb⟩ := h e List.mem_cons_self
    have hq := kids_eq hk hb
    by_cases he : k = l
    · subst he
      refine Or.inr ⟨0, e, ?_, rfl, hl⟩
      simp only [Instr.findAsking, Sem.run_bind, hl, hq, Result.andThen_ok, decide_true, if_true, Sem.run_pure, Nat.add_zero]
    · have hne : e.key ≠ keyV k := fun hc => he (keyV_inj (hl.symm.trans hc)).symm
      have hs : (Instr.findAsking 100 (keyV k) (e :: es) i).run Tryz.prog W = (Instr.findAsking 100 (keyV k) es (i + 1)).run Tryz.prog W := by
        simp only [Instr.findAsking, Sem.run_bind, hl, hq, Result.andThen_ok, decide_eq_false he, Bool.false_eq_true, if_false]
      rcases ask_run hk es (i + 1) (fun e' he' => h e' (List.mem_cons_of_mem _ he')) with ⟨h1, h2⟩ | ⟨j, e', h1, h2, h3⟩
      · refine Or.inl ⟨hs.trans h1, fun e' he' => ?_⟩
        rcases List.mem_cons.1 he' with rfl | h4
        · exact hne
        · exact h2 e' h4
      · exact Or.inr ⟨j + 1, e', by rw [hs, h1, show i + 1 + j = i + (j + 1) by omega], h2, h3⟩
theorem key_run {W : World} {k : Option Addr × Nat} (hk : KBlk W k) (es : List MapEntry) (h : ∀ e ∈ es, ∃ l, e.key = keyV l ∧ KBlk W l) :
    (((Instr.findKey 100 (keyV k) es).run Tryz.prog W = .ok none W ∧ ∀ e ∈ es, e.key ≠ keyV k) ∨ ∃ j e, (Instr.findKey 100 (keyV k) es).run Tryz.prog W = .ok (some (j, e.val)) W ∧ es[j]? = some e ∧ e.key = keyV k) := by
  have hu : Tryz.prog.underlying 100 = some (.struct (Tryz.prog.fieldsOf 100)) := by kernel_rfl
  cases es with
  | nil => exact Or.inl ⟨by simp only [Instr.findKey, Sem.run_bind, run_underlying hu, Result.andThen_ok, Instr.findNow, Sem.run_pure], fun e h => by simp at h⟩
  | cons e es =>
    have hs : (Instr.findKey 100 (keyV k) (e :: es)).run Tryz.prog W = (Instr.findAsking 100 (keyV k) (e :: es) 0).run Tryz.prog W := by
      simp only [Instr.findKey, Sem.run_bind, run_underlying hu, Result.andThen_ok, Instr.findNow, Instr.sameNow]
    rw [hs]
    rcases ask_run hk (e :: es) 0 h with h1 | ⟨j, e', h1, h2, h3⟩
    · exact Or.inl h1
    · exact Or.inr ⟨j, e', by rw [h1, Nat.zero_add], h2, h3⟩
end Go.Proofs.YtifacoompbngaaaGreatDoor
namespace Go.Proofs.YtifacoompbngaaaGreatDoor
open Go.RowKit Go.Lib Go.Op

theorem check_run (em : Bool) (d : Nat) (k : Option Addr × Nat) (W : World) : (Instr.checkKey em (d + 2) 100 (keyV k)).run Tryz.prog W = .ok () W := by
  have hu : Tryz.prog.underlying 100 = some (.struct (Tryz.prog.fieldsOf 100)) := by kernel_rfl
  have h1 : Tryz.prog.underlying 98 = some (.pointer 38) := by kernel_rfl
  have h2 : Tryz.prog.underlying 3 = some (.int .i64) := by kernel_rfl
  unfold keyV
  rw [Instr.checkKey]
  simp only [Sem.run_bind, run_underlying hu, Result.andThen_ok]
  rw [← Array.forIn_toList]
  simp [go_sem, Instr.checkKey, run_underlying h1, run_underlying h2]
/-- A map of depths in block m: f tells each row's, 0 if there is none. -/
def DMap (W : World) (m : Nat) (f : Option Addr × Nat → Int) : Prop := ∃ es clock, W.heap[m]? = some (.map es clock) ∧ DEs W es.toList f
theorem DEs.keys {W : World} {es : List MapEntry} {f : Option Addr × Nat → Int} (h : DEs W es f) : ∀ e ∈ es, ∃ l, e.key = keyV l ∧ KBlk W l := fun e he => by
  obtain ⟨k, h1, h2, _⟩ := h.ent e he
  exact ⟨k, h1, h2⟩
theorem DMap.look {W : World} {m : Nat} {f : Option Addr × Nat → Int} (h : DMap W m f) {k : Option Addr × Nat} (hk : KBlk W k) :
    (Instr.lookup 102 (.map (some m)) (keyV k) false).run Tryz.prog W = .ok (.int .i64 (f k)) W := by
  obtain ⟨es, clock, hb, he⟩ := h
  have hm : Tryz.prog.underlying 102 = some (.map 100 3) := by kernel_rfl
  have hz : (zeroValue 3).run Tryz.prog W = .ok (.int .i64 0) W := by kernel_rfl
  rcases key_run hk es.toList he.keys with ⟨h1, h2⟩ | ⟨j, e, h1, h2, h3⟩
  · have hf : f k = 0 := by
      rcases Decidable.em (f k = 0) with h0 | h0
      · exact h0
      · obtain ⟨e, h4, h5⟩ := he.has k h0
        exact absurd h5 (h2 e h4)
    simp only [Instr.lookup, Sem.run_bind, run_underlying hm, Result.andThen_ok, MapKept.run_getObj_map hb, check_run _ 9998, h1, hz, Sem.run_pure, hf]
    rfl
  · obtain ⟨l, h4, _, h5⟩ := he.ent e (List.mem_of_getElem? h2)
    obtain rfl := keyV_inj (h3.symm.trans h4)
    simp only [Instr.lookup, Sem.run_bind, run_underlying hm, Result.andThen_ok, MapKept.run_getObj_map hb, check_run _ 9998, h1, h5, Sem.run_pure]
    rfl
end Go.Proofs.YtifacoompbngaaaGreatDoor
namespace Go.Proofs.YtifacoompbngaaaGreatDoor
open Go.RowKit Go.Lib Go.Op

theorem bits_kids (k : Option Addr × Nat) (d : Nat) : Instr.sameBits (d + 2) (keyV k) (keyV k) = true := by
  unfold keyV
  simp [Instr.sameBits]
theorem stays_kids (k : Option Addr × Nat) (W : World) : (Instr.keyThatStays (keyV k) (keyV k)).run Tryz.prog W = .ok (keyV k) W := by
  simp only [Instr.keyThatStays, show (10000 : Nat) = 9998 + 2 from rfl, bits_kids k 9998, if_true, Sem.run_pure]
/-- Depths with one more, or one changed. -/
def updF (f : Option Addr × Nat → Int) (k : Option Addr × Nat) (v : Int) : Option Addr × Nat → Int := fun l => if l = k then v else f l
theorem KBlk.set {W : World} {m : Nat} {es : Array MapEntry} {c : Nat} (hm : W.heap[m]? = some (.map es c)) {k : Option Addr × Nat} (h : KBlk W k) (o : Obj) : KBlk { W with heap := W.heap.setIfInBounds m o } k := fun a ha => by
  obtain ⟨cs, t, hb⟩ := h a ha
  have hne : m ≠ a.block := fun e => by
    rw [← e, hm] at hb
    simp at hb
  exact ⟨cs, t, by rw [show ({ W with heap := W.heap.setIfInBounds m o } : World).heap = W.heap.setIfInBounds m o from rfl, Array.getElem?_setIfInBounds_ne hne]; exact hb⟩
/-- The keys' blocks are all below a number. -/
def KeysIn (W : World) (m L : Nat) : Prop := ∀ es c, W.heap[m]? = some (.map es c) → ∀ e ∈ es.toList, ∀ k, e.key = keyV k → ∀ a, k.1 = some a → a.block < L
theorem DMap.upd {W : World} {m : Nat} {f : Option Addr × Nat → Int} (h : DMap W m f) {k : Option Addr × Nat} (hk : KBlk W k) (v : Int) :
    ∃ o, (Instr.mapUpdate 102 (.map (some m)) (keyV k) (.int .i64 v)).run Tryz.prog W = .ok () { W with heap := W.heap.setIfInBounds m o } ∧ DMap { W with heap := W.heap.setIfInBounds m o } m (updF f k v) ∧
      ∀ L, KeysIn W m L → (∀ a, k.1 = some a → a.block < L) → KeysIn { W with heap := W.heap.setIfInBounds m o } m L := by
  obtain ⟨es, clock, hb, he⟩ := h
  have hm : Tryz.prog.underlying 102 = some (.map 100 3) := by kernel_rfl
  have hlt : m < W.heap.size := (Array.getElem?_eq_some_iff.1 hb).1
  have hself : ∀ o : Obj, ({ W with heap := W.heap.setIfInBounds m o } : World).heap[m]? = some o := fun o => by
    show (W.heap.setIfInBounds m o)[m]? = some o
    rw [Array.getElem?_setIfInBounds_self_of_lt hlt]
  rcases key_run hk es.toList he.keys with ⟨h1, h2⟩ | ⟨j, e, h1, h2, h3⟩
  · refine ⟨.map (es.push { key := keyV k, val := .int .i64 v, born := clock }) (clock + 1), ?_, ⟨_, _, hself _, ?_⟩, fun L hL hkL es' c' hes e' he' l hl a ha => ?_⟩
    rotate_left
    rotate_left
    · rw [hself] at hes
      injection hes with hes
      injection hes with hes _
      subst hes
      rw [Array.toList_push] at he'
      rcases List.mem_append.1 he' with h4 | h4
      · exact hL _ _ hb e' h4 l hl a ha
      · rw [List.mem_singleton.1 h4] at hl
        obtain rfl := keyV_inj hl
        exact hkL a ha
    · simp only [Instr.mapUpdate, Sem.run_bind, run_underlying hm, Result.andThen_ok, MapKept.run_getObj_map hb, check_run _ 9998, h1, MapKept.run_setObj_map _ hb]
    · rw [Array.toList_push]
      refine ⟨fun e' he' => ?_, fun l hl => ?_, ?_⟩
      · rcases List.mem_append.1 he' with h4 | h4
        · obtain ⟨l, h5, h6, h7⟩ := he.ent e' h4
          refine ⟨l, h5, h6.set hb _, ?_⟩
          rw [h7, updF, if_neg (fun e => h2 e' h4 (by rw [h5, e]))]
        · rw [List.mem_singleton.1 h4]
          exact ⟨k, rfl, hk.set hb _, by simp [updF]⟩
      · by_cases hlk : l = k
        · subst hlk
          exact ⟨_, List.mem_append_right _ (List.mem_singleton.2 rfl), rfl⟩
        · rw [updF, if_neg hlk] at hl
          obtain ⟨e', h4, h5⟩ := he.has l hl
          exact ⟨e', List.mem_append_left _ h4, h5⟩
      · rw [List.pairwise_append]
        refine ⟨he.one, by simp, fun a ha b hb' => ?_⟩
        rw [List.mem_singleton.1 hb']
        exact h2 a ha
  · have hj : j < es.toList.length := (List.getElem?_eq_some_iff.1 h2).1
    refine ⟨.map (es.modify j fun e => { e with key := keyV k, val := .int .i64 v }) clock, ?_, ⟨_, _, hself _, ?_⟩, fun L hL hkL es' c' hes e' he' l hl a ha => ?_⟩
    rotate_left
    rotate_left
    · rw [hself] at hes
      injection hes with hes
      injection hes with hes _
      subst hes
      obtain ⟨i, hi⟩ := List.getElem?_of_mem he'
      rw [Array.getElem?_toList, Array.getElem?_modify] at hi
      split at hi
      · cases hx : es[i]? with
        | none => rw [hx] at hi; cases hi
        | some y =>
          rw [hx] at hi
          have hi := Option.some.inj hi
          rw [← hi] at hl
          obtain rfl := keyV_inj hl
          exact hkL a ha
      · exact hL _ _ hb e' (List.mem_of_getElem? (by rw [Array.getElem?_toList]; exact hi)) l hl a ha
    · have hej : ((es[j]?).map (·.key)).getD (keyV k) = keyV k := by
        rw [← Array.getElem?_toList, h2]
        exact h3
      simp only [Instr.mapUpdate, Sem.run_bind, run_underlying hm, Result.andThen_ok, MapKept.run_getObj_map hb, check_run _ 9998, h1, hej, stays_kids, MapKept.run_setObj_map _ hb]
    · have hms : (es.modify j fun e => { e with key := keyV k, val := .int .i64 v }).toList = es.toList.set j { e with key := keyV k, val := .int .i64 v } := by
        apply List.ext_getElem?
        intro i
        rw [Array.getElem?_toList, Array.getElem?_modify, List.getElem?_set, ← Array.getElem?_toList]
        by_cases hij : j = i
        · subst hij
          rw [if_pos rfl, if_pos rfl, if_pos hj, h2]
          rfl
        · rw [if_neg hij, if_neg hij]
      rw [hms]
      have hat : ∀ e' ∈ es.toList, e'.key = keyV k → e' = e := fun e' h4 h5 => by
        obtain ⟨i, h6⟩ := List.getElem?_of_mem h4
        have hp := List.pairwise_iff_getElem.1 he.one
        rcases Nat.lt_trichotomy i j with h7 | h7 | h7
        · have := hp i j (List.getElem?_eq_some_iff.1 h6).1 hj h7
          rw [(List.getElem?_eq_some_iff.1 h6).2, (List.getElem?_eq_some_iff.1 h2).2] at this
          exact absurd (h5.trans h3.symm) this
        · rw [h7, h2] at h6
          exact (Option.some.inj h6).symm
        · have := hp j i hj (List.getElem?_eq_some_iff.1 h6).1 h7
          rw [(List.getElem?_eq_some_iff.1 h6).2, (List.getElem?_eq_some_iff.1 h2).2] at this
          exact absurd (h3.trans h5.symm) this
      have hkeys : (es.toList.set j { e with key := keyV k, val := .int .i64 v }).map (·.key) = es.toList.map (·.key) := by
        rw [List.map_set]
        apply List.ext_getElem?
        intro i
        rw [List.getElem?_set, List.length_map]
        by_cases hij : j = i
        · subst hij
          rw [if_pos rfl, if_pos hj, List.getElem?_map, h2]
          simp [h3]
        · rw [if_neg hij]
      refine ⟨fun e' he' => ?_, fun l hl => ?_, ?_⟩
      · rcases List.mem_or_eq_of_mem_set he' with h4 | h4
        · obtain ⟨l, h5, h6, h7⟩ := he.ent e' h4
          by_cases hlk : l = k
          · subst hlk
            have := hat e' h4 h5
            subst this
            obtain ⟨i, h8⟩ := List.getElem?_of_mem he'
            by_cases hij : j = i
            · subst hij
              rw [List.getElem?_set_self hj] at h8
              have h9 := Option.some.inj h8
              exact ⟨l, h5, h6.set hb _, by rw [← h9]; simp [updF]⟩
            · rw [List.getElem?_set_ne hij] at h8
              exfalso
              have hp := List.pairwise_iff_getElem.1 he.one
              have hi := (List.getElem?_eq_some_iff.1 h8)
              have hjj := (List.getElem?_eq_some_iff.1 h2)
              rcases Nat.lt_or_gt_of_ne hij with h9 | h9
              · have := hp j i hj hi.1 h9
                rw [hi.2, hjj.2] at this
                exact this rfl
              · have := hp i j hi.1 hj h9
                rw [hi.2, hjj.2] at this
                exact this rfl
          · refine ⟨l, h5, h6.set hb _, ?_⟩
            rw [h7, updF, if_neg hlk]
        · rw [h4]
          exact ⟨k, rfl, hk.set hb _, by simp [updF]⟩
      · have : keyV l ∈ (es.toList.set j { e with key := keyV k, val := .int .i64 v }).map (·.key) := by
          rw [hkeys]
          by_cases hlk : l = k
          · subst hlk
            exact List.mem_map.2 ⟨e, List.mem_of_getElem? h2, h3⟩
          · rw [updF, if_neg hlk] at hl
            obtain ⟨e', h4, h5⟩ := he.has l hl
            exact List.mem_map.2 ⟨e', h4, h5⟩
        obtain ⟨e', h4, h5⟩ := List.mem_map.1 this
        exact ⟨e', h4, h5⟩
      · have h4 : ((es.toList.set j { e with key := keyV k, val := .int .i64 v }).map (·.key)).Pairwise (· ≠ ·) := by
          rw [hkeys]
          exact List.pairwise_map.2 he.one
        exact List.pairwise_map.1 h4
end Go.Proofs.YtifacoompbngaaaGreatDoor

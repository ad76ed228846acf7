/- Queries that came in: Great. -/
import Derived.Test.YtifacoompbngaaaGreatDoorMF
import Derived.Deep.QuietTactic
import Derived.BigQuiet
namespace Go.Proofs.YtifacoompbngaaaGreatDoor
open Go.RowKit Go.Lib Go.Op

def ISm (i : PIt) : Prop := i.x.length < 3000 ∧ i.ns.length < 3000 ∧ ∀ b ∈ i.ns, b.length < 3000
def PSm (p : PPr) : Prop := (XBd p.l ∧ sizeI p.l < 3000) ∧ XBd p.r ∧ sizeI p.r < 3000
/-- A query that is not too much. -/
structure QSm (p : PQu) : Prop where
  n1 : p.its.length < 3000
  n2 : p.prs.length < 3000
  by_ : p.by_.length < 3000
  its : ∀ i ∈ p.its, ISm i
  prs : ∀ x ∈ p.prs, PSm x
theorem QSm.bd {p : PQu} (h : QSm p) : QuB p := ⟨fun i hi => by
  obtain ⟨h1, h2, h3⟩ := h.its i hi
  exact ⟨by omega, fun b hb => by have := h3 b hb; omega, by omega⟩, fun x hx => ⟨(h.prs x hx).1.1, (h.prs x hx).2.1⟩, by have := h.by_; omega⟩
def GreatT (p : PQu) (w : World) (e : Ending) (w' : World) : Prop := ∃ g, e = .returned (.bool g) ∧ (g = false → QSm p) ∧ Below w.heap.size w w'
/-- What is so in a round of the first loop. -/
structure GIts (p : PQu) (w : World) (X : Obj) (wr : World) (N : Int) (j : Nat) : Prop where
  low : Below (w.heap.size + 1) (w.alloc X) wr
  lo : 0 ≤ N
  hi : N ≤ 1000000000000000
  sm : N < 3000 → (p.its.length < 3000 ∧ p.prs.length < 3000 ∧ p.by_.length < 3000) ∧ ∀ i ∈ p.its.take j, ISm i
/-- What is so in a round of the loop of names. -/
structure GNames (p : PQu) (i : PIt) (w : World) (X : Obj) (wr : World) (N : Int) (j k : Nat) : Prop where
  low : Below (w.heap.size + 1) (w.alloc X) wr
  lo : 0 ≤ N
  hi : N ≤ 1000000000000000
  sm : N < 3000 → ((p.its.length < 3000 ∧ p.prs.length < 3000 ∧ p.by_.length < 3000) ∧ ∀ i ∈ p.its.take j, ISm i) ∧ i.x.length < 3000 ∧ i.ns.length < 3000 ∧ ∀ b ∈ i.ns.take k, b.length < 3000
/-- What is so in a round of the loop of predicates. -/
structure GPrs (p : PQu) (w : World) (X : Obj) (wr : World) (N : Int) (j : Nat) : Prop where
  low : Below (w.heap.size + 1) (w.alloc X) wr
  lo : 0 ≤ N
  hi : N ≤ 1000000000000000
  sm : N < 3000 → ((p.its.length < 3000 ∧ p.prs.length < 3000 ∧ p.by_.length < 3000) ∧ ∀ i ∈ p.its, ISm i) ∧ ∀ x ∈ p.prs.take j, PSm x
theorem all_take {α : Type} {P : α → Prop} {l : List α} {j : Nat} {x : α} (h : ∀ y ∈ l.take j, P y) (hx : l[j]? = some x) (hp : P x) : ∀ y ∈ l.take (j + 1), P y := fun y hy => by
  rw [List.take_add_one, hx] at hy
  rcases List.mem_append.1 hy with h1 | h1
  · exact h y h1
  · have : y = x := by simpa using h1
    rw [this]
    exact hp
theorem RowK.nameAt3 {K : Nat → Prop} {w : World} {a : Option Addr} {n c : Nat} {l : List (List UInt8)} (h : RowK nameD K w (.slice a n c) l) {j : Nat} {b : List UInt8} (hj : l[j]? = some b) : ∃ g o, a = some ⟨g, o, none⟩ ∧ w.cell? ⟨g, o + j, none⟩ = some (.string (strB b)) := by
  obtain ⟨a', c', e, _, h⟩ := h
  injection e with e1 e2 e3
  obtain ⟨g, o, cs, ea, hg, hcs, hc⟩ := h j b hj
  have hcs : cs = [.string (strB b)] := hcs
  subst hcs
  have := hc 0 _ rfl
  exact ⟨g, o, e1.trans ea, by simpa [nameD] using this⟩

set_option maxHeartbeats 4000000 in
set_option maxRecDepth 100000 in
theorem great_calls {w : World} {a b : Option Addr} {q c r e : Nat} {p : PQu} (h : QuAt (fun _ => False) w a q c b r e p) (hl : QLn p) :
    Calls Tryz.prog 19 #[.agg #[.slice a q c, .slice b r e, .int .i64 p.within, .string (strB p.by_), .int .i64 p.pick]] w (GreatT p w) := by
  obtain rfl := h.1.len
  obtain rfl := h.2.len
  have HQ := Lib.hid h
  have HL := Lib.hid hl
  obtain ⟨q, hq⟩ : ∃ q, p.its.length = q := ⟨_, rfl⟩
  obtain ⟨r, hr⟩ : ∃ r, p.prs.length = r := ⟨_, rfl⟩
  obtain ⟨sb, hsb⟩ : ∃ s, strB p.by_ = s := ⟨_, rfl⟩
  have hsbl : sb.size = p.by_.length := by rw [← hsb, strB_size]
  have hq2 : q ≤ 140737488355328 := by rw [← hq]; exact hl.2.2.2.1
  have hr2 : r ≤ 140737488355328 := by rw [← hr]; exact hl.2.2.2.2
  have hbl : sb.size ≤ 9223372036854775807 := by rw [hsbl]; exact hl.2.2.1
  have HC := Lib.hid hq
  have HR := Lib.hid hr
  have HSB := Lib.hid hsbl
  rw [hq, hr] at HQ ⊢
  rw [hsb]
  obtain ⟨wi, hwi⟩ : ∃ z, p.within = z := ⟨_, rfl⟩
  obtain ⟨pk, hpk⟩ : ∃ z, p.pick = z := ⟨_, rfl⟩
  rw [hwi, hpk]
  have HX := Lib.hid (Blk.new w #[.slice a q c, .slice b r e, .int .i64 wi, .string sb, .int .i64 pk] 26)
  have HW := Lib.hid ((Below.refl w.heap.size w).alloc (Nat.le_refl _) (.cells #[.slice a q c, .slice b r e, .int .i64 wi, .string sb, .int .i64 pk] 26))
  obtain ⟨X, hX⟩ : ∃ X, Obj.cells #[.slice a q c, .slice b r e, .int .i64 wi, .string sb, .int .i64 pk] 26 = X := ⟨_, rfl⟩
  rw [hX] at HX HW
  have HXX := Lib.hid hX
  have HG0 : Hid (GIts p w X (w.alloc X) ((q : Int) + (r : Int) + min (sb.size : Int) 3000) 0) := ⟨Below.refl _ _, by omega, by omega, fun h => ⟨⟨by rw [HC.out]; omega, by rw [HR.out]; omega, by rw [← hsbl]; omega⟩, fun i hi => (by simp at hi)⟩⟩
  rw [← hX] at HG0
  clear h hl hq hr hsb hsbl hwi hpk hX
  go_enter Tryz.func19, Tryz.ntmps19
  go_wp2
  rw [HXX.out] at HG0 ⊢
  go_loopw [3, 4] (fun n i wr => ∃ (N : Int) (j : Nat), n = .int .i64 N ∧ i = .int .i64 j ∧ j ≤ q ∧ Hid (GIts p w X wr N j)) (fun _ i _ => q - (RowKit.intOf i).toNat)
  case atStart => exact ⟨_, 0, rfl, rfl, Nat.zero_le _, HG0⟩
  case round =>
    obtain ⟨N, j, rfl, rfl, hj, HG⟩ := hrel
    have hlo := HG.out.lo
    have hhi := HG.out.hi
    have hx := (HG.out.low.block w.heap.size (Nat.lt_succ_self _)).trans HX.out
    have x0 := tcell_of_blk hx (k := 0) rfl
    have x1 := tcell_of_blk hx (k := 1) rfl
    have HBw := Lib.hid (HW.out.trans (HG.out.low.mono (Nat.le_succ _)))
    have hsz : w.heap.size + 1 ≤ wr.heap.size := by
      have := HG.out.low.size
      simpa using this
    clear hx
    by_cases hgo : j < q ∧ N < 3000
    · obtain ⟨hlt, hN⟩ := hgo
      obtain ⟨y, hy⟩ : ∃ y, p.its[j]? = some y := ⟨_, List.getElem?_eq_getElem (by rw [HC.out]; exact hlt)⟩
      obtain ⟨g, o, a2, c2, rfl, d0, d1, d2, d3, hrn⟩ := (HQ.out.1.low HBw.out).itemAt hy
      have hyl := HL.out.1 y (List.mem_of_getElem? hy)
      obtain ⟨m, hm⟩ : ∃ m, y.ns.length = m := ⟨_, rfl⟩
      obtain ⟨sx, hsx⟩ : ∃ s, strB y.x = s := ⟨_, rfl⟩
      have hsxl : sx.size = y.x.length := by rw [← hsx, strB_size]
      rw [hm] at d1 hrn
      rw [hsx] at d2
      have hm2 : m ≤ 140737488355328 := by rw [← hm]; exact hyl.2.1
      have hsx2 : sx.size ≤ 9223372036854775807 := by rw [hsxl]; exact hyl.1
      have HRN := Lib.hid hrn
      have HM := Lib.hid hm
      have HSX := Lib.hid hsxl
      have HY := Lib.hid hy
      have t1 : decide (N < 3000) = true := decide_eq_true hN
      have hw1 : IntKind.i64.wrap (N + min (sx.size : Int) 3000) = N + min (sx.size : Int) 3000 := IntWalk.i64_in _ (by omega)
      have hw2 : IntKind.i64.wrap (N + min (sx.size : Int) 3000 + (m : Int)) = N + min (sx.size : Int) 3000 + (m : Int) := IntWalk.i64_in _ (by omega)
      have HGI : Hid (∀ nq, GNames p y w X (wr.drewN nq) (N + min (sx.size : Int) 3000 + (m : Int)) j 0) := fun nq => ⟨below_drewN HG.out.low nq, by omega, by omega, fun h => ⟨HG.out.sm hN, by rw [← HSX.out]; omega, by rw [HM.out]; omega, fun b hb => (by simp at hb)⟩⟩
      have HL2 := Lib.hid hyl.2.2
      clear hy hyl hm hsx hsxl hrn
      go_wp2_with fail
      go_quiet (fail)
      have HGI2 := Lib.hid (HGI.out nq)
      have hsz2 : wr.heap.size ≤ (wr.drewN nq).heap.size := (below_drewN (Below.refl wr.heap.size wr) nq).size
      have HRN2 := Lib.hid (HRN.out.low (below_drewN (Below.refl wr.heap.size wr) nq))
      have k0 : (wr.drewN nq).cell? ⟨w.heap.size, 0, none⟩ = _ := tkeep (below_drewN (Below.refl wr.heap.size wr) nq) x0
      have k1 : (wr.drewN nq).cell? ⟨g, o + j * 4 + 1, none⟩ = _ := tkeep (below_drewN (Below.refl wr.heap.size wr) nq) d1
      have HBN := Lib.hid (below_drewN (Below.refl wr.heap.size wr) nq)
      obtain ⟨w4, hw4⟩ : ∃ w4, w4 = wr.drewN nq := ⟨_, rfl⟩
      rw [← hw4] at HGI2 hsz2 HRN2 k0 k1 HBN ⊢
      have HW4 := Lib.hid hw4
      clear hw4 HGI HRN x0 d0 d1 d2 d3
      go_wp2
      go_loopw [3, 5] (fun n i wr => ∃ (M : Int) (k : Nat), n = .int .i64 M ∧ i = .int .i64 k ∧ k ≤ m ∧ Hid (Below w4.heap.size w4 wr) ∧ Hid (GNames p y w X wr M j k)) (fun _ i _ => m - (RowKit.intOf i).toNat)
      case atStart => exact ⟨_, 0, rfl, rfl, Nat.zero_le _, Below.refl _ _, HGI2⟩
      case round =>
        obtain ⟨M, k, rfl, rfl, hk, HB4, HGN⟩ := hrel
        have hlo2 := HGN.out.lo
        have hhi2 := HGN.out.hi
        have z0 := tkeep HB4.out k0
        have z1 := tkeep HB4.out k1
        by_cases hgo : k < m ∧ M < 3000
        · obtain ⟨hlt2, hM⟩ := hgo
          obtain ⟨u, hu⟩ : ∃ u, y.ns[k]? = some u := ⟨_, List.getElem?_eq_getElem (by rw [HM.out]; exact hlt2)⟩
          obtain ⟨g3, o3, rfl, v0⟩ := (HRN2.out.low HB4.out).nameAt3 hu
          obtain ⟨su, hsu⟩ : ∃ s, strB u = s := ⟨_, rfl⟩
          have hsul : su.size = u.length := by rw [← hsu, strB_size]
          rw [hsu] at v0
          have hul : su.size ≤ 9223372036854775807 := by rw [hsul]; exact HL2.out u (List.mem_of_getElem? hu)
          have HGN2 : Hid (GNames p y w X wr (M + min (su.size : Int) 3000) j (k + 1)) := ⟨HGN.out.low, by omega, by omega, fun h => by
            obtain ⟨h1, h2, h3, h4⟩ := HGN.out.sm hM
            exact ⟨h1, h2, h3, all_take h4 hu (by rw [← hsul]; omega)⟩⟩
          have t3 : decide (M < 3000) = true := decide_eq_true hM
          clear hu hsu hsul
          go_wp2
          go_round
          case rel => exact ⟨M + min (su.size : Int) 3000, k + 1, by go_num, by go_num, by omega, HB4, HGN2⟩
          case measure => simp [RowKit.intOf]; omega
        · have HGE : Hid (GIts p w X wr M (j + 1)) := ⟨HGN.out.low, hlo2, hhi2, fun h => by
            obtain ⟨h1, h2, h3, h4⟩ := HGN.out.sm h
            have hkm : k = y.ns.length := by rw [HM.out]; omega
            rw [hkm, List.take_length] at h4
            exact ⟨h1.1, all_take h1.2 HY.out ⟨h2, h3, h4⟩⟩⟩
          by_cases hk2 : k < m
          · have t3 : decide (M < 3000) = false := decide_eq_false (fun h => hgo ⟨hk2, h⟩)
            go_wp2
            refine ⟨⟨M, j + 1, by go_num, by go_num, by omega, HGE⟩, ?_⟩
            simp [RowKit.intOf]
            omega
          · go_wp2
            refine ⟨⟨M, j + 1, by go_num, by go_num, by omega, HGE⟩, ?_⟩
            simp [RowKit.intOf]
            omega
    · have HG2 : Hid (GPrs p w X wr N 0) := ⟨HG.out.low, hlo, hhi, fun h => by
        obtain ⟨h1, h2⟩ := HG.out.sm h
        have hjq : j = p.its.length := by rw [HC.out]; omega
        rw [hjq, List.take_length] at h2
        exact ⟨⟨h1, h2⟩, fun x hx => (by simp at hx)⟩⟩
      clear HG
      by_cases hlt : j < q
      · have t1 : decide (N < 3000) = false := decide_eq_false (fun h => hgo ⟨hlt, h⟩)
        clear hgo
        go_wp2
        go_loopw [3, 6] (fun n i wr => ∃ (N : Int) (j : Nat), n = .int .i64 N ∧ i = .int .i64 j ∧ j ≤ r ∧ Hid (GPrs p w X wr N j)) (fun _ i _ => r - (RowKit.intOf i).toNat)
        case atStart => exact ⟨N, 0, rfl, rfl, Nat.zero_le _, HG2⟩
        case round =>
          obtain ⟨N, j, rfl, rfl, hj, HG⟩ := hrel
          have hlo := HG.out.lo
          have hhi := HG.out.hi
          have hx := (HG.out.low.block w.heap.size (Nat.lt_succ_self _)).trans HX.out
          have x1 := tcell_of_blk hx (k := 1) rfl
          have HBw := Lib.hid (HW.out.trans (HG.out.low.mono (Nat.le_succ _)))
          have hsz : w.heap.size + 1 ≤ wr.heap.size := by
            have := HG.out.low.size
            simpa using this
          clear hx
          by_cases hlt : j < r
          · by_cases hN : N < 3000
            · obtain ⟨y, hy⟩ : ∃ y, p.prs[j]? = some y := ⟨_, List.getElem?_eq_getElem (by rw [HR.out]; exact hlt)⟩
              obtain ⟨g, o, a1, n1, c1, b1, m1, dd1, ed, rfl, hcell, hq1, hr1, hk1, hk2⟩ := (HQ.out.2.low HBw.out).predAt hy
              have hyl := HL.out.2.1 y (List.mem_of_getElem? hy)
              rw [← hq1] at hk1
              rw [← hr1] at hk2
              have hw0 : Below wr.heap.size wr wr.drew := vbelow_drew (Below.refl _ wr)
              have H0 := Lib.hid (greatX_calls _ y.l hyl.1 wr.drew a1 c1 (by rw [← hq1]; exact hk1.keep (TFr.of_below (K := fun _ => False) hw0)) 3000 (by decide))
              have H1 := Lib.hid (fun W (hW : Below wr.heap.size wr W) => greatX_calls _ y.r hyl.2 W b1 dd1 (by rw [← hr1]; exact hk2.keep (TFr.of_below (K := fun _ => False) hW)) 3000 (by decide))
              rw [← hq1] at H0
              rw [← hr1] at H1
              simp only [xexV] at H0 H1
              have g1 := gX_le y.l 3000
              have g2 := gX_le y.r 3000
              have s1 := gX_small y.l 3000 (by decide)
              have s2 := gX_small y.r 3000 (by decide)
              obtain ⟨G1, hG1⟩ : ∃ G, gX y.l 3000 = G := ⟨_, rfl⟩
              obtain ⟨G2, hG2⟩ : ∃ G, gX y.r 3000 = G := ⟨_, rfl⟩
              rw [hG1] at H0 g1 s1
              rw [hG2] at H1 g2 s2
              have hw1 : IntKind.i64.wrap (N + G1) = N + G1 := IntWalk.i64_in _ (by omega)
              have hw2 : IntKind.i64.wrap (N + G1 + G2) = N + G1 + G2 := IntWalk.i64_in _ (by omega)
              have HB0 := Lib.hid hw0
              have HGN : Hid (∀ W, Below wr.heap.size wr W → GPrs p w X W (N + G1 + G2) (j + 1)) := fun W hW => ⟨HG.out.low.trans (hW.mono hsz), by omega, by omega, fun h => by
                obtain ⟨h1, h2⟩ := HG.out.sm hN
                have h3 := s1 (by omega)
                have h4 := s2 (by omega)
                exact ⟨h1, all_take h2 hy ⟨⟨h3.2, by omega⟩, h4.2, by omega⟩⟩⟩
              have t1 : decide (N < 3000) = true := decide_eq_true hN
              have dq : wr.drew.cell? ⟨w.heap.size, 1, none⟩ = some (.slice (some ⟨g, o, none⟩) r e) := x1
              have d1 : wr.drew.cell? ⟨g, o + j * 15 + 1, none⟩ = some (.int .i64 y.l.k) := hcell 1 _ rfl
              have d2 : wr.drew.cell? ⟨g, o + j * 15 + 2, none⟩ = some (.int .i64 y.l.v.k) := hcell 2 _ rfl
              have d3 : wr.drew.cell? ⟨g, o + j * 15 + 3, none⟩ = some (.int .i64 y.l.v.n) := hcell 3 _ rfl
              have d4 : wr.drew.cell? ⟨g, o + j * 15 + 4, none⟩ = some (.string (strB y.l.v.s)) := hcell 4 _ rfl
              have d5 : wr.drew.cell? ⟨g, o + j * 15 + 5, none⟩ = some (.string (strB y.l.x)) := hcell 5 _ rfl
              have d6 : wr.drew.cell? ⟨g, o + j * 15 + 6, none⟩ = some (.string (strB y.l.f)) := hcell 6 _ rfl
              have d7 : wr.drew.cell? ⟨g, o + j * 15 + 7, none⟩ = some (.slice a1 n1 c1) := hcell 7 _ rfl
              have d8 : wr.drew.cell? ⟨g, o + j * 15 + 8, none⟩ = some (.int .i64 y.r.k) := hcell 8 _ rfl
              have d9 : wr.drew.cell? ⟨g, o + j * 15 + 9, none⟩ = some (.int .i64 y.r.v.k) := hcell 9 _ rfl
              have d10 : wr.drew.cell? ⟨g, o + j * 15 + 10, none⟩ = some (.int .i64 y.r.v.n) := hcell 10 _ rfl
              have d11 : wr.drew.cell? ⟨g, o + j * 15 + 11, none⟩ = some (.string (strB y.r.v.s)) := hcell 11 _ rfl
              have d12 : wr.drew.cell? ⟨g, o + j * 15 + 12, none⟩ = some (.string (strB y.r.x)) := hcell 12 _ rfl
              have d13 : wr.drew.cell? ⟨g, o + j * 15 + 13, none⟩ = some (.string (strB y.r.f)) := hcell 13 _ rfl
              have d14 : wr.drew.cell? ⟨g, o + j * 15 + 14, none⟩ = some (.slice b1 m1 dd1) := hcell 14 _ rfl
              clear hcell hq1 hr1 hk1 hk2 hyl hw0 hG1 hG2 s1 s2 hy
              go_wp2_with fail
              refine wp_region_held_drew (S := fun W => W.cell? ⟨w.heap.size, 1, none⟩ = some (.slice (some ⟨g, o, none⟩) r e) ∧ W.cell? ⟨g, o + j * 15 + 1, none⟩ = some (.int .i64 y.l.k) ∧ W.cell? ⟨g, o + j * 15 + 2, none⟩ = some (.int .i64 y.l.v.k) ∧ W.cell? ⟨g, o + j * 15 + 3, none⟩ = some (.int .i64 y.l.v.n) ∧ W.cell? ⟨g, o + j * 15 + 4, none⟩ = some (.string (strB y.l.v.s)) ∧ W.cell? ⟨g, o + j * 15 + 5, none⟩ = some (.string (strB y.l.x)) ∧ W.cell? ⟨g, o + j * 15 + 6, none⟩ = some (.string (strB y.l.f)) ∧ W.cell? ⟨g, o + j * 15 + 7, none⟩ = some (.slice a1 n1 c1) ∧ W.cell? ⟨g, o + j * 15 + 8, none⟩ = some (.int .i64 y.r.k) ∧ W.cell? ⟨g, o + j * 15 + 9, none⟩ = some (.int .i64 y.r.v.k) ∧ W.cell? ⟨g, o + j * 15 + 10, none⟩ = some (.int .i64 y.r.v.n) ∧ W.cell? ⟨g, o + j * 15 + 11, none⟩ = some (.string (strB y.r.v.s)) ∧ W.cell? ⟨g, o + j * 15 + 12, none⟩ = some (.string (strB y.r.x)) ∧ W.cell? ⟨g, o + j * 15 + 13, none⟩ = some (.string (strB y.r.f)) ∧ W.cell? ⟨g, o + j * 15 + 14, none⟩ = some (.slice b1 m1 dd1)) (by kernel_rfl) ⟨dq, d1, d2, d3, d4, d5, d6, d7, d8, d9, d10, d11, d12, d13, d14⟩ (fun hHeld => ?_)
              refine ttakeH 0 87 (v := ?va0) rfl (by kernel_rfl) (by kernel_rfl) (by kernel_rfl) rfl (fun _ _ _ h => h) (by rfl) ?ya0 (by assumption) ?ra0
              case ya0 => (intro W hSw; (try dsimp only at hSw); (try obtain ⟨hS0, hS1, hS2, hS3, hS4, hS5, hS6, hS7, hS8, hS9, hS10, hS11, hS12, hS13, hS14⟩ := hSw); go_simp; (try rw [if_neg (by omega)]); try with_reducible rfl)
              try simp only [Act.put, List.setIfInBounds_toArray, List.set_cons_zero, List.set_cons_succ]
              refine ttakeH 1 88 (v := ?va1) rfl (by kernel_rfl) (by kernel_rfl) (by kernel_rfl) rfl (fun _ _ _ h => h) (by rfl) ?ya1 (by assumption) ?ra1
              case ya1 => (intro W hSw; (try dsimp only at hSw); (try obtain ⟨hS0, hS1, hS2, hS3, hS4, hS5, hS6, hS7, hS8, hS9, hS10, hS11, hS12, hS13, hS14⟩ := hSw); go_simp; (try rw [if_neg (by omega)]); try with_reducible rfl)
              try simp only [Act.put, List.setIfInBounds_toArray, List.set_cons_zero, List.set_cons_succ]
              refine ttakeH 2 89 (v := ?va2) rfl (by kernel_rfl) (by kernel_rfl) (by kernel_rfl) rfl (fun _ _ _ h => h) (by rfl) ?ya2 (by assumption) ?ra2
              case ya2 => (intro W hSw; (try dsimp only at hSw); (try obtain ⟨hS0, hS1, hS2, hS3, hS4, hS5, hS6, hS7, hS8, hS9, hS10, hS11, hS12, hS13, hS14⟩ := hSw); go_simp; (try rw [if_neg (by omega)]); try with_reducible rfl)
              try simp only [Act.put, List.setIfInBounds_toArray, List.set_cons_zero, List.set_cons_succ]
              refine ttakeH 3 90 (v := ?va3) rfl (by kernel_rfl) (by kernel_rfl) (by kernel_rfl) rfl (fun _ _ _ h => h) (by rfl) ?ya3 (by assumption) ?ra3
              case ya3 => (intro W hSw; (try dsimp only at hSw); (try obtain ⟨hS0, hS1, hS2, hS3, hS4, hS5, hS6, hS7, hS8, hS9, hS10, hS11, hS12, hS13, hS14⟩ := hSw); go_simp; (try rw [if_neg (by omega)]); try with_reducible rfl)
              try simp only [Act.put, List.setIfInBounds_toArray, List.set_cons_zero, List.set_cons_succ]
              refine ttakeH 4 91 (v := ?va4) rfl (by kernel_rfl) (by kernel_rfl) (by kernel_rfl) rfl (fun _ _ _ h => h) (by rfl) ?ya4 (by assumption) ?ra4
              case ya4 => (intro W hSw; (try dsimp only at hSw); (try obtain ⟨hS0, hS1, hS2, hS3, hS4, hS5, hS6, hS7, hS8, hS9, hS10, hS11, hS12, hS13, hS14⟩ := hSw); go_simp; (try rw [if_neg (by omega)]); try with_reducible rfl)
              try simp only [Act.put, List.setIfInBounds_toArray, List.set_cons_zero, List.set_cons_succ]
              refine ttakeH 5 92 (v := ?va5) rfl (by kernel_rfl) (by kernel_rfl) (by kernel_rfl) rfl (fun _ _ _ h => h) (by rfl) ?ya5 (by assumption) ?ra5
              case ya5 => (intro W hSw; (try dsimp only at hSw); (try obtain ⟨hS0, hS1, hS2, hS3, hS4, hS5, hS6, hS7, hS8, hS9, hS10, hS11, hS12, hS13, hS14⟩ := hSw); go_simp; (try rw [if_neg (by omega)]); try with_reducible rfl)
              try simp only [Act.put, List.setIfInBounds_toArray, List.set_cons_zero, List.set_cons_succ]
              refine ttakeH 6 93 (v := ?va6) rfl (by kernel_rfl) (by kernel_rfl) (by kernel_rfl) rfl (fun _ _ _ h => h) (by rfl) ?ya6 (by assumption) ?ra6
              case ya6 => (intro W hSw; (try dsimp only at hSw); (try obtain ⟨hS0, hS1, hS2, hS3, hS4, hS5, hS6, hS7, hS8, hS9, hS10, hS11, hS12, hS13, hS14⟩ := hSw); go_simp; (try rw [if_neg (by omega)]); try with_reducible rfl)
              try simp only [Act.put, List.setIfInBounds_toArray, List.set_cons_zero, List.set_cons_succ]
              refine ttakeH 9 96 (v := ?va9) rfl (by kernel_rfl) (by kernel_rfl) (by kernel_rfl) rfl (fun _ _ _ h => h) (by rfl) ?ya9 (by assumption) ?ra9
              case ya9 => (intro W hSw; (try dsimp only at hSw); (try obtain ⟨hS0, hS1, hS2, hS3, hS4, hS5, hS6, hS7, hS8, hS9, hS10, hS11, hS12, hS13, hS14⟩ := hSw); go_simp; (try rw [if_neg (by omega)]); try with_reducible rfl)
              try simp only [Act.put, List.setIfInBounds_toArray, List.set_cons_zero, List.set_cons_succ]
              refine ttakeH 10 97 (v := ?va10) rfl (by kernel_rfl) (by kernel_rfl) (by kernel_rfl) rfl (fun _ _ _ h => h) (by rfl) ?ya10 (by assumption) ?ra10
              case ya10 => (intro W hSw; (try dsimp only at hSw); (try obtain ⟨hS0, hS1, hS2, hS3, hS4, hS5, hS6, hS7, hS8, hS9, hS10, hS11, hS12, hS13, hS14⟩ := hSw); go_simp; (try rw [if_neg (by omega)]); try with_reducible rfl)
              try simp only [Act.put, List.setIfInBounds_toArray, List.set_cons_zero, List.set_cons_succ]
              refine ttakeH 11 98 (v := ?va11) rfl (by kernel_rfl) (by kernel_rfl) (by kernel_rfl) rfl (fun _ _ _ h => h) (by rfl) ?ya11 (by assumption) ?ra11
              case ya11 => (intro W hSw; (try dsimp only at hSw); (try obtain ⟨hS0, hS1, hS2, hS3, hS4, hS5, hS6, hS7, hS8, hS9, hS10, hS11, hS12, hS13, hS14⟩ := hSw); go_simp; (try rw [if_neg (by omega)]); try with_reducible rfl)
              try simp only [Act.put, List.setIfInBounds_toArray, List.set_cons_zero, List.set_cons_succ]
              refine ttakeH 12 99 (v := ?va12) rfl (by kernel_rfl) (by kernel_rfl) (by kernel_rfl) rfl (fun _ _ _ h => h) (by rfl) ?ya12 (by assumption) ?ra12
              case ya12 => (intro W hSw; (try dsimp only at hSw); (try obtain ⟨hS0, hS1, hS2, hS3, hS4, hS5, hS6, hS7, hS8, hS9, hS10, hS11, hS12, hS13, hS14⟩ := hSw); go_simp; (try rw [if_neg (by omega)]); try with_reducible rfl)
              try simp only [Act.put, List.setIfInBounds_toArray, List.set_cons_zero, List.set_cons_succ]
              refine ttakeH 13 100 (v := ?va13) rfl (by kernel_rfl) (by kernel_rfl) (by kernel_rfl) rfl (fun _ _ _ h => h) (by rfl) ?ya13 (by assumption) ?ra13
              case ya13 => (intro W hSw; (try dsimp only at hSw); (try obtain ⟨hS0, hS1, hS2, hS3, hS4, hS5, hS6, hS7, hS8, hS9, hS10, hS11, hS12, hS13, hS14⟩ := hSw); go_simp; (try rw [if_neg (by omega)]); try with_reducible rfl)
              try simp only [Act.put, List.setIfInBounds_toArray, List.set_cons_zero, List.set_cons_succ]
              refine ttakeH 14 101 (v := ?va14) rfl (by kernel_rfl) (by kernel_rfl) (by kernel_rfl) rfl (fun _ _ _ h => h) (by rfl) ?ya14 (by assumption) ?ra14
              case ya14 => (intro W hSw; (try dsimp only at hSw); (try obtain ⟨hS0, hS1, hS2, hS3, hS4, hS5, hS6, hS7, hS8, hS9, hS10, hS11, hS12, hS13, hS14⟩ := hSw); go_simp; (try rw [if_neg (by omega)]); try with_reducible rfl)
              try simp only [Act.put, List.setIfInBounds_toArray, List.set_cons_zero, List.set_cons_succ]
              refine wpAnyH_ready (rs := [7]) (by kernel_rfl) (by simp) ?_
              refine AllReadyH.cons (o := _) rfl (fun K hK => ?_) AllReadyH.nil
              dsimp only [List.getElem_toArray, List.getElem_cons_succ, List.getElem_cons_zero]
              go_simp
              go_at_call 48
              (with_reducible refine H0.out.mono ?_)
              rintro e9 w1 ⟨rfl, hb1⟩
              have HB1 := Lib.hid (HB0.out.trans (hb1.mono (show _ ≤ wr.drew.heap.size from HB0.out.size)))
              have eq := tkeep hb1 dq
              have e1 := tkeep hb1 d1
              have e2 := tkeep hb1 d2
              have e3 := tkeep hb1 d3
              have e4 := tkeep hb1 d4
              have e5 := tkeep hb1 d5
              have e6 := tkeep hb1 d6
              have e7 := tkeep hb1 d7
              have e8 := tkeep hb1 d8
              have e9 := tkeep hb1 d9
              have e10 := tkeep hb1 d10
              have e11 := tkeep hb1 d11
              have e12 := tkeep hb1 d12
              have e13 := tkeep hb1 d13
              have e14 := tkeep hb1 d14
              clear hb1
              go_wp2_with fail
              refine hK.out _ _ ⟨eq, e1, e2, e3, e4, e5, e6, e7, e8, e9, e10, e11, e12, e13, e14⟩ (fun hHelda7 => ?_)
              clear hK K
              try simp only [Act.put, List.setIfInBounds_toArray, List.set_cons_zero, List.set_cons_succ]
              refine ttakeH 8 95 (v := ?va8) rfl (by kernel_rfl) (by kernel_rfl) (by kernel_rfl) rfl (fun _ _ _ h => h) (by rfl) ?ya8 (by assumption) ?ra8
              case ya8 => (intro W hSw; (try dsimp only at hSw); (try obtain ⟨hS0, hS1, hS2, hS3, hS4, hS5, hS6, hS7, hS8, hS9, hS10, hS11, hS12, hS13, hS14⟩ := hSw); go_simp; (try rw [if_neg (by omega)]); try with_reducible rfl)
              try simp only [Act.put, List.setIfInBounds_toArray, List.set_cons_zero, List.set_cons_succ]
              refine wpAnyH_ready (rs := [15]) (by kernel_rfl) (by simp) ?_
              refine AllReadyH.cons (o := _) rfl (fun K hK => ?_) AllReadyH.nil
              dsimp only [List.getElem_toArray, List.getElem_cons_succ, List.getElem_cons_zero]
              go_simp
              go_at_call 48
              (with_reducible refine (H1.out _ HB1.out).mono ?_)
              rintro e9 w2 ⟨rfl, hb1⟩
              have HB2 := Lib.hid (HB1.out.trans (hb1.mono (show _ ≤ w1.heap.size from HB1.out.size)))
              have fq := tkeep hb1 eq
              have f1 := tkeep hb1 e1
              have f2 := tkeep hb1 e2
              have f3 := tkeep hb1 e3
              have f4 := tkeep hb1 e4
              have f5 := tkeep hb1 e5
              have f6 := tkeep hb1 e6
              have f7 := tkeep hb1 e7
              have f8 := tkeep hb1 e8
              have f9 := tkeep hb1 e9
              have f10 := tkeep hb1 e10
              have f11 := tkeep hb1 e11
              have f12 := tkeep hb1 e12
              have f13 := tkeep hb1 e13
              have f14 := tkeep hb1 e14
              clear hb1
              go_wp2_with fail
              refine hK.out _ _ ⟨fq, f1, f2, f3, f4, f5, f6, f7, f8, f9, f10, f11, f12, f13, f14⟩ (fun hHelda15 => ?_)
              clear hK K
              try simp only [Act.put, List.setIfInBounds_toArray, List.set_cons_zero, List.set_cons_succ]
              refine ttakeH 16 103 (v := ?va16) rfl (by kernel_rfl) (by kernel_rfl) (by kernel_rfl) rfl (fun _ _ _ h => h) (by rfl) ?ya16 (by assumption) ?ra16
              case ya16 => (intro W hSw; (try dsimp only at hSw); (try obtain ⟨hS0, hS1, hS2, hS3, hS4, hS5, hS6, hS7, hS8, hS9, hS10, hS11, hS12, hS13, hS14⟩ := hSw); go_simp; (try rw [if_neg (by omega)]); try with_reducible rfl)
              try simp only [Act.put, List.setIfInBounds_toArray, List.set_cons_zero, List.set_cons_succ]
              refine ttakeH 17 3 (v := ?va17) rfl (by kernel_rfl) (by kernel_rfl) (by kernel_rfl) rfl (fun _ _ _ h => h) (by rfl) ?ya17 (by assumption) ?ra17
              case ya17 => (intro W hSw; (try dsimp only at hSw); (try obtain ⟨hS0, hS1, hS2, hS3, hS4, hS5, hS6, hS7, hS8, hS9, hS10, hS11, hS12, hS13, hS14⟩ := hSw); go_simp; (try rw [if_neg (by omega)]); try with_reducible rfl)
              try simp only [Act.put, List.setIfInBounds_toArray, List.set_cons_zero, List.set_cons_succ]
              refine wpAnyH_done (by kernel_rfl) ?_ _
              go_wp2
              go_round
              case rel => exact ⟨N + G1 + G2, j + 1, by go_num, by go_num, by omega, HGN.out _ HB2.out⟩
              case measure => simp [RowKit.intOf]; omega
            · have t1 : decide (N < 3000) = false := decide_eq_false hN
              have t2 : decide (3000 ≤ N) = true := decide_eq_true (by omega)
              go_wp2
              go_ret
              exact ⟨true, rfl, fun h => (by cases h), HBw.out⟩
          · have hjr : j = p.prs.length := by rw [HR.out]; omega
            by_cases hN : N < 3000
            · have t2 : decide (3000 ≤ N) = false := decide_eq_false (by omega)
              go_wp2
              go_ret
              refine ⟨false, rfl, fun _ => ?_, HBw.out⟩
              obtain ⟨⟨⟨n1, n2, n3⟩, h1⟩, h2⟩ := HG.out.sm hN
              rw [hjr, List.take_length] at h2
              exact ⟨n1, n2, n3, h1, h2⟩
            · have t2 : decide (3000 ≤ N) = true := decide_eq_true (by omega)
              go_wp2
              go_ret
              exact ⟨true, rfl, fun h => (by cases h), HBw.out⟩
      · clear hgo
        go_wp2
        go_loopw [3, 6] (fun n i wr => ∃ (N : Int) (j : Nat), n = .int .i64 N ∧ i = .int .i64 j ∧ j ≤ r ∧ Hid (GPrs p w X wr N j)) (fun _ i _ => r - (RowKit.intOf i).toNat)
        case atStart => exact ⟨N, 0, rfl, rfl, Nat.zero_le _, HG2⟩
        case round =>
          obtain ⟨N, j, rfl, rfl, hj, HG⟩ := hrel
          have hlo := HG.out.lo
          have hhi := HG.out.hi
          have hx := (HG.out.low.block w.heap.size (Nat.lt_succ_self _)).trans HX.out
          have x1 := tcell_of_blk hx (k := 1) rfl
          have HBw := Lib.hid (HW.out.trans (HG.out.low.mono (Nat.le_succ _)))
          have hsz : w.heap.size + 1 ≤ wr.heap.size := by
            have := HG.out.low.size
            simpa using this
          clear hx
          by_cases hlt : j < r
          · by_cases hN : N < 3000
            · obtain ⟨y, hy⟩ : ∃ y, p.prs[j]? = some y := ⟨_, List.getElem?_eq_getElem (by rw [HR.out]; exact hlt)⟩
              obtain ⟨g, o, a1, n1, c1, b1, m1, dd1, ed, rfl, hcell, hq1, hr1, hk1, hk2⟩ := (HQ.out.2.low HBw.out).predAt hy
              have hyl := HL.out.2.1 y (List.mem_of_getElem? hy)
              rw [← hq1] at hk1
              rw [← hr1] at hk2
              have hw0 : Below wr.heap.size wr wr.drew := vbelow_drew (Below.refl _ wr)
              have H0 := Lib.hid (greatX_calls _ y.l hyl.1 wr.drew a1 c1 (by rw [← hq1]; exact hk1.keep (TFr.of_below (K := fun _ => False) hw0)) 3000 (by decide))
              have H1 := Lib.hid (fun W (hW : Below wr.heap.size wr W) => greatX_calls _ y.r hyl.2 W b1 dd1 (by rw [← hr1]; exact hk2.keep (TFr.of_below (K := fun _ => False) hW)) 3000 (by decide))
              rw [← hq1] at H0
              rw [← hr1] at H1
              simp only [xexV] at H0 H1
              have g1 := gX_le y.l 3000
              have g2 := gX_le y.r 3000
              have s1 := gX_small y.l 3000 (by decide)
              have s2 := gX_small y.r 3000 (by decide)
              obtain ⟨G1, hG1⟩ : ∃ G, gX y.l 3000 = G := ⟨_, rfl⟩
              obtain ⟨G2, hG2⟩ : ∃ G, gX y.r 3000 = G := ⟨_, rfl⟩
              rw [hG1] at H0 g1 s1
              rw [hG2] at H1 g2 s2
              have hw1 : IntKind.i64.wrap (N + G1) = N + G1 := IntWalk.i64_in _ (by omega)
              have hw2 : IntKind.i64.wrap (N + G1 + G2) = N + G1 + G2 := IntWalk.i64_in _ (by omega)
              have HB0 := Lib.hid hw0
              have HGN : Hid (∀ W, Below wr.heap.size wr W → GPrs p w X W (N + G1 + G2) (j + 1)) := fun W hW => ⟨HG.out.low.trans (hW.mono hsz), by omega, by omega, fun h => by
                obtain ⟨h1, h2⟩ := HG.out.sm hN
                have h3 := s1 (by omega)
                have h4 := s2 (by omega)
                exact ⟨h1, all_take h2 hy ⟨⟨h3.2, by omega⟩, h4.2, by omega⟩⟩⟩
              have t1 : decide (N < 3000) = true := decide_eq_true hN
              have dq : wr.drew.cell? ⟨w.heap.size, 1, none⟩ = some (.slice (some ⟨g, o, none⟩) r e) := x1
              have d1 : wr.drew.cell? ⟨g, o + j * 15 + 1, none⟩ = some (.int .i64 y.l.k) := hcell 1 _ rfl
              have d2 : wr.drew.cell? ⟨g, o + j * 15 + 2, none⟩ = some (.int .i64 y.l.v.k) := hcell 2 _ rfl
              have d3 : wr.drew.cell? ⟨g, o + j * 15 + 3, none⟩ = some (.int .i64 y.l.v.n) := hcell 3 _ rfl
              have d4 : wr.drew.cell? ⟨g, o + j * 15 + 4, none⟩ = some (.string (strB y.l.v.s)) := hcell 4 _ rfl
              have d5 : wr.drew.cell? ⟨g, o + j * 15 + 5, none⟩ = some (.string (strB y.l.x)) := hcell 5 _ rfl
              have d6 : wr.drew.cell? ⟨g, o + j * 15 + 6, none⟩ = some (.string (strB y.l.f)) := hcell 6 _ rfl
              have d7 : wr.drew.cell? ⟨g, o + j * 15 + 7, none⟩ = some (.slice a1 n1 c1) := hcell 7 _ rfl
              have d8 : wr.drew.cell? ⟨g, o + j * 15 + 8, none⟩ = some (.int .i64 y.r.k) := hcell 8 _ rfl
              have d9 : wr.drew.cell? ⟨g, o + j * 15 + 9, none⟩ = some (.int .i64 y.r.v.k) := hcell 9 _ rfl
              have d10 : wr.drew.cell? ⟨g, o + j * 15 + 10, none⟩ = some (.int .i64 y.r.v.n) := hcell 10 _ rfl
              have d11 : wr.drew.cell? ⟨g, o + j * 15 + 11, none⟩ = some (.string (strB y.r.v.s)) := hcell 11 _ rfl
              have d12 : wr.drew.cell? ⟨g, o + j * 15 + 12, none⟩ = some (.string (strB y.r.x)) := hcell 12 _ rfl
              have d13 : wr.drew.cell? ⟨g, o + j * 15 + 13, none⟩ = some (.string (strB y.r.f)) := hcell 13 _ rfl
              have d14 : wr.drew.cell? ⟨g, o + j * 15 + 14, none⟩ = some (.slice b1 m1 dd1) := hcell 14 _ rfl
              clear hcell hq1 hr1 hk1 hk2 hyl hw0 hG1 hG2 s1 s2 hy
              go_wp2_with fail
              refine wp_region_held_drew (S := fun W => W.cell? ⟨w.heap.size, 1, none⟩ = some (.slice (some ⟨g, o, none⟩) r e) ∧ W.cell? ⟨g, o + j * 15 + 1, none⟩ = some (.int .i64 y.l.k) ∧ W.cell? ⟨g, o + j * 15 + 2, none⟩ = some (.int .i64 y.l.v.k) ∧ W.cell? ⟨g, o + j * 15 + 3, none⟩ = some (.int .i64 y.l.v.n) ∧ W.cell? ⟨g, o + j * 15 + 4, none⟩ = some (.string (strB y.l.v.s)) ∧ W.cell? ⟨g, o + j * 15 + 5, none⟩ = some (.string (strB y.l.x)) ∧ W.cell? ⟨g, o + j * 15 + 6, none⟩ = some (.string (strB y.l.f)) ∧ W.cell? ⟨g, o + j * 15 + 7, none⟩ = some (.slice a1 n1 c1) ∧ W.cell? ⟨g, o + j * 15 + 8, none⟩ = some (.int .i64 y.r.k) ∧ W.cell? ⟨g, o + j * 15 + 9, none⟩ = some (.int .i64 y.r.v.k) ∧ W.cell? ⟨g, o + j * 15 + 10, none⟩ = some (.int .i64 y.r.v.n) ∧ W.cell? ⟨g, o + j * 15 + 11, none⟩ = some (.string (strB y.r.v.s)) ∧ W.cell? ⟨g, o + j * 15 + 12, none⟩ = some (.string (strB y.r.x)) ∧ W.cell? ⟨g, o + j * 15 + 13, none⟩ = some (.string (strB y.r.f)) ∧ W.cell? ⟨g, o + j * 15 + 14, none⟩ = some (.slice b1 m1 dd1)) (by kernel_rfl) ⟨dq, d1, d2, d3, d4, d5, d6, d7, d8, d9, d10, d11, d12, d13, d14⟩ (fun hHeld => ?_)
              refine ttakeH 0 87 (v := ?vb0) rfl (by kernel_rfl) (by kernel_rfl) (by kernel_rfl) rfl (fun _ _ _ h => h) (by rfl) ?yb0 (by assumption) ?rb0
              case yb0 => (intro W hSw; (try dsimp only at hSw); (try obtain ⟨hS0, hS1, hS2, hS3, hS4, hS5, hS6, hS7, hS8, hS9, hS10, hS11, hS12, hS13, hS14⟩ := hSw); go_simp; (try rw [if_neg (by omega)]); try with_reducible rfl)
              try simp only [Act.put, List.setIfInBounds_toArray, List.set_cons_zero, List.set_cons_succ]
              refine ttakeH 1 88 (v := ?vb1) rfl (by kernel_rfl) (by kernel_rfl) (by kernel_rfl) rfl (fun _ _ _ h => h) (by rfl) ?yb1 (by assumption) ?rb1
              case yb1 => (intro W hSw; (try dsimp only at hSw); (try obtain ⟨hS0, hS1, hS2, hS3, hS4, hS5, hS6, hS7, hS8, hS9, hS10, hS11, hS12, hS13, hS14⟩ := hSw); go_simp; (try rw [if_neg (by omega)]); try with_reducible rfl)
              try simp only [Act.put, List.setIfInBounds_toArray, List.set_cons_zero, List.set_cons_succ]
              refine ttakeH 2 89 (v := ?vb2) rfl (by kernel_rfl) (by kernel_rfl) (by kernel_rfl) rfl (fun _ _ _ h => h) (by rfl) ?yb2 (by assumption) ?rb2
              case yb2 => (intro W hSw; (try dsimp only at hSw); (try obtain ⟨hS0, hS1, hS2, hS3, hS4, hS5, hS6, hS7, hS8, hS9, hS10, hS11, hS12, hS13, hS14⟩ := hSw); go_simp; (try rw [if_neg (by omega)]); try with_reducible rfl)
              try simp only [Act.put, List.setIfInBounds_toArray, List.set_cons_zero, List.set_cons_succ]
              refine ttakeH 3 90 (v := ?vb3) rfl (by kernel_rfl) (by kernel_rfl) (by kernel_rfl) rfl (fun _ _ _ h => h) (by rfl) ?yb3 (by assumption) ?rb3
              case yb3 => (intro W hSw; (try dsimp only at hSw); (try obtain ⟨hS0, hS1, hS2, hS3, hS4, hS5, hS6, hS7, hS8, hS9, hS10, hS11, hS12, hS13, hS14⟩ := hSw); go_simp; (try rw [if_neg (by omega)]); try with_reducible rfl)
              try simp only [Act.put, List.setIfInBounds_toArray, List.set_cons_zero, List.set_cons_succ]
              refine ttakeH 4 91 (v := ?vb4) rfl (by kernel_rfl) (by kernel_rfl) (by kernel_rfl) rfl (fun _ _ _ h => h) (by rfl) ?yb4 (by assumption) ?rb4
              case yb4 => (intro W hSw; (try dsimp only at hSw); (try obtain ⟨hS0, hS1, hS2, hS3, hS4, hS5, hS6, hS7, hS8, hS9, hS10, hS11, hS12, hS13, hS14⟩ := hSw); go_simp; (try rw [if_neg (by omega)]); try with_reducible rfl)
              try simp only [Act.put, List.setIfInBounds_toArray, List.set_cons_zero, List.set_cons_succ]
              refine ttakeH 5 92 (v := ?vb5) rfl (by kernel_rfl) (by kernel_rfl) (by kernel_rfl) rfl (fun _ _ _ h => h) (by rfl) ?yb5 (by assumption) ?rb5
              case yb5 => (intro W hSw; (try dsimp only at hSw); (try obtain ⟨hS0, hS1, hS2, hS3, hS4, hS5, hS6, hS7, hS8, hS9, hS10, hS11, hS12, hS13, hS14⟩ := hSw); go_simp; (try rw [if_neg (by omega)]); try with_reducible rfl)
              try simp only [Act.put, List.setIfInBounds_toArray, List.set_cons_zero, List.set_cons_succ]
              refine ttakeH 6 93 (v := ?vb6) rfl (by kernel_rfl) (by kernel_rfl) (by kernel_rfl) rfl (fun _ _ _ h => h) (by rfl) ?yb6 (by assumption) ?rb6
              case yb6 => (intro W hSw; (try dsimp only at hSw); (try obtain ⟨hS0, hS1, hS2, hS3, hS4, hS5, hS6, hS7, hS8, hS9, hS10, hS11, hS12, hS13, hS14⟩ := hSw); go_simp; (try rw [if_neg (by omega)]); try with_reducible rfl)
              try simp only [Act.put, List.setIfInBounds_toArray, List.set_cons_zero, List.set_cons_succ]
              refine ttakeH 9 96 (v := ?vb9) rfl (by kernel_rfl) (by kernel_rfl) (by kernel_rfl) rfl (fun _ _ _ h => h) (by rfl) ?yb9 (by assumption) ?rb9
              case yb9 => (intro W hSw; (try dsimp only at hSw); (try obtain ⟨hS0, hS1, hS2, hS3, hS4, hS5, hS6, hS7, hS8, hS9, hS10, hS11, hS12, hS13, hS14⟩ := hSw); go_simp; (try rw [if_neg (by omega)]); try with_reducible rfl)
              try simp only [Act.put, List.setIfInBounds_toArray, List.set_cons_zero, List.set_cons_succ]
              refine ttakeH 10 97 (v := ?vb10) rfl (by kernel_rfl) (by kernel_rfl) (by kernel_rfl) rfl (fun _ _ _ h => h) (by rfl) ?yb10 (by assumption) ?rb10
              case yb10 => (intro W hSw; (try dsimp only at hSw); (try obtain ⟨hS0, hS1, hS2, hS3, hS4, hS5, hS6, hS7, hS8, hS9, hS10, hS11, hS12, hS13, hS14⟩ := hSw); go_simp; (try rw [if_neg (by omega)]); try with_reducible rfl)
              try simp only [Act.put, List.setIfInBounds_toArray, List.set_cons_zero, List.set_cons_succ]
              refine ttakeH 11 98 (v := ?vb11) rfl (by kernel_rfl) (by kernel_rfl) (by kernel_rfl) rfl (fun _ _ _ h => h) (by rfl) ?yb11 (by assumption) ?rb11
              case yb11 => (intro W hSw; (try dsimp only at hSw); (try obtain ⟨hS0, hS1, hS2, hS3, hS4, hS5, hS6, hS7, hS8, hS9, hS10, hS11, hS12, hS13, hS14⟩ := hSw); go_simp; (try rw [if_neg (by omega)]); try with_reducible rfl)
              try simp only [Act.put, List.setIfInBounds_toArray, List.set_cons_zero, List.set_cons_succ]
              refine ttakeH 12 99 (v := ?vb12) rfl (by kernel_rfl) (by kernel_rfl) (by kernel_rfl) rfl (fun _ _ _ h => h) (by rfl) ?yb12 (by assumption) ?rb12
              case yb12 => (intro W hSw; (try dsimp only at hSw); (try obtain ⟨hS0, hS1, hS2, hS3, hS4, hS5, hS6, hS7, hS8, hS9, hS10, hS11, hS12, hS13, hS14⟩ := hSw); go_simp; (try rw [if_neg (by omega)]); try with_reducible rfl)
              try simp only [Act.put, List.setIfInBounds_toArray, List.set_cons_zero, List.set_cons_succ]
              refine ttakeH 13 100 (v := ?vb13) rfl (by kernel_rfl) (by kernel_rfl) (by kernel_rfl) rfl (fun _ _ _ h => h) (by rfl) ?yb13 (by assumption) ?rb13
              case yb13 => (intro W hSw; (try dsimp only at hSw); (try obtain ⟨hS0, hS1, hS2, hS3, hS4, hS5, hS6, hS7, hS8, hS9, hS10, hS11, hS12, hS13, hS14⟩ := hSw); go_simp; (try rw [if_neg (by omega)]); try with_reducible rfl)
              try simp only [Act.put, List.setIfInBounds_toArray, List.set_cons_zero, List.set_cons_succ]
              refine ttakeH 14 101 (v := ?vb14) rfl (by kernel_rfl) (by kernel_rfl) (by kernel_rfl) rfl (fun _ _ _ h => h) (by rfl) ?yb14 (by assumption) ?rb14
              case yb14 => (intro W hSw; (try dsimp only at hSw); (try obtain ⟨hS0, hS1, hS2, hS3, hS4, hS5, hS6, hS7, hS8, hS9, hS10, hS11, hS12, hS13, hS14⟩ := hSw); go_simp; (try rw [if_neg (by omega)]); try with_reducible rfl)
              try simp only [Act.put, List.setIfInBounds_toArray, List.set_cons_zero, List.set_cons_succ]
              refine wpAnyH_ready (rs := [7]) (by kernel_rfl) (by simp) ?_
              refine AllReadyH.cons (o := _) rfl (fun K hK => ?_) AllReadyH.nil
              dsimp only [List.getElem_toArray, List.getElem_cons_succ, List.getElem_cons_zero]
              go_simp
              go_at_call 48
              (with_reducible refine H0.out.mono ?_)
              rintro e9 w1 ⟨rfl, hb1⟩
              have HB1 := Lib.hid (HB0.out.trans (hb1.mono (show _ ≤ wr.drew.heap.size from HB0.out.size)))
              have eq := tkeep hb1 dq
              have e1 := tkeep hb1 d1
              have e2 := tkeep hb1 d2
              have e3 := tkeep hb1 d3
              have e4 := tkeep hb1 d4
              have e5 := tkeep hb1 d5
              have e6 := tkeep hb1 d6
              have e7 := tkeep hb1 d7
              have e8 := tkeep hb1 d8
              have e9 := tkeep hb1 d9
              have e10 := tkeep hb1 d10
              have e11 := tkeep hb1 d11
              have e12 := tkeep hb1 d12
              have e13 := tkeep hb1 d13
              have e14 := tkeep hb1 d14
              clear hb1
              go_wp2_with fail
              refine hK.out _ _ ⟨eq, e1, e2, e3, e4, e5, e6, e7, e8, e9, e10, e11, e12, e13, e14⟩ (fun hHeldb7 => ?_)
              clear hK K
              try simp only [Act.put, List.setIfInBounds_toArray, List.set_cons_zero, List.set_cons_succ]
              refine ttakeH 8 95 (v := ?vb8) rfl (by kernel_rfl) (by kernel_rfl) (by kernel_rfl) rfl (fun _ _ _ h => h) (by rfl) ?yb8 (by assumption) ?rb8
              case yb8 => (intro W hSw; (try dsimp only at hSw); (try obtain ⟨hS0, hS1, hS2, hS3, hS4, hS5, hS6, hS7, hS8, hS9, hS10, hS11, hS12, hS13, hS14⟩ := hSw); go_simp; (try rw [if_neg (by omega)]); try with_reducible rfl)
              try simp only [Act.put, List.setIfInBounds_toArray, List.set_cons_zero, List.set_cons_succ]
              refine wpAnyH_ready (rs := [15]) (by kernel_rfl) (by simp) ?_
              refine AllReadyH.cons (o := _) rfl (fun K hK => ?_) AllReadyH.nil
              dsimp only [List.getElem_toArray, List.getElem_cons_succ, List.getElem_cons_zero]
              go_simp
              go_at_call 48
              (with_reducible refine (H1.out _ HB1.out).mono ?_)
              rintro e9 w2 ⟨rfl, hb1⟩
              have HB2 := Lib.hid (HB1.out.trans (hb1.mono (show _ ≤ w1.heap.size from HB1.out.size)))
              have fq := tkeep hb1 eq
              have f1 := tkeep hb1 e1
              have f2 := tkeep hb1 e2
              have f3 := tkeep hb1 e3
              have f4 := tkeep hb1 e4
              have f5 := tkeep hb1 e5
              have f6 := tkeep hb1 e6
              have f7 := tkeep hb1 e7
              have f8 := tkeep hb1 e8
              have f9 := tkeep hb1 e9
              have f10 := tkeep hb1 e10
              have f11 := tkeep hb1 e11
              have f12 := tkeep hb1 e12
              have f13 := tkeep hb1 e13
              have f14 := tkeep hb1 e14
              clear hb1
              go_wp2_with fail
              refine hK.out _ _ ⟨fq, f1, f2, f3, f4, f5, f6, f7, f8, f9, f10, f11, f12, f13, f14⟩ (fun hHeldb15 => ?_)
              clear hK K
              try simp only [Act.put, List.setIfInBounds_toArray, List.set_cons_zero, List.set_cons_succ]
              refine ttakeH 16 103 (v := ?vb16) rfl (by kernel_rfl) (by kernel_rfl) (by kernel_rfl) rfl (fun _ _ _ h => h) (by rfl) ?yb16 (by assumption) ?rb16
              case yb16 => (intro W hSw; (try dsimp only at hSw); (try obtain ⟨hS0, hS1, hS2, hS3, hS4, hS5, hS6, hS7, hS8, hS9, hS10, hS11, hS12, hS13, hS14⟩ := hSw); go_simp; (try rw [if_neg (by omega)]); try with_reducible rfl)
              try simp only [Act.put, List.setIfInBounds_toArray, List.set_cons_zero, List.set_cons_succ]
              refine ttakeH 17 3 (v := ?vb17) rfl (by kernel_rfl) (by kernel_rfl) (by kernel_rfl) rfl (fun _ _ _ h => h) (by rfl) ?yb17 (by assumption) ?rb17
              case yb17 => (intro W hSw; (try dsimp only at hSw); (try obtain ⟨hS0, hS1, hS2, hS3, hS4, hS5, hS6, hS7, hS8, hS9, hS10, hS11, hS12, hS13, hS14⟩ := hSw); go_simp; (try rw [if_neg (by omega)]); try with_reducible rfl)
              try simp only [Act.put, List.setIfInBounds_toArray, List.set_cons_zero, List.set_cons_succ]
              refine wpAnyH_done (by kernel_rfl) ?_ _
              go_wp2
              go_round
              case rel => exact ⟨N + G1 + G2, j + 1, by go_num, by go_num, by omega, HGN.out _ HB2.out⟩
              case measure => simp [RowKit.intOf]; omega
            · have t1 : decide (N < 3000) = false := decide_eq_false hN
              have t2 : decide (3000 ≤ N) = true := decide_eq_true (by omega)
              go_wp2
              go_ret
              exact ⟨true, rfl, fun h => (by cases h), HBw.out⟩
          · have hjr : j = p.prs.length := by rw [HR.out]; omega
            by_cases hN : N < 3000
            · have t2 : decide (3000 ≤ N) = false := decide_eq_false (by omega)
              go_wp2
              go_ret
              refine ⟨false, rfl, fun _ => ?_, HBw.out⟩
              obtain ⟨⟨⟨n1, n2, n3⟩, h1⟩, h2⟩ := HG.out.sm hN
              rw [hjr, List.take_length] at h2
              exact ⟨n1, n2, n3, h1, h2⟩
            · have t2 : decide (3000 ≤ N) = true := decide_eq_true (by omega)
              go_wp2
              go_ret
              exact ⟨true, rfl, fun h => (by cases h), HBw.out⟩
end Go.Proofs.YtifacoompbngaaaGreatDoor

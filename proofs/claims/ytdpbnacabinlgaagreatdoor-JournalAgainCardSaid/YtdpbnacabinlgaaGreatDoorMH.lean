/- A journal in a law's world, where the law has a row of texts of its own. | JournalBegins, its walk. | JournalBegins holds: for every list of records, of syncs, every fuse and every list of what is kept the call returns true, and each argument reads behind it as it did. Condition: the library's package-level variables that are listed are laid as its text lays them (the tie is given). | JournalPicture: its states. -/
import Derived.Test.YtdpbnacabinlgaaGreatDoorMG
import Derived.Maps.AppendAt
import Derived.Lib.MinMax
namespace Go.Proofs.YtdpbnacabinlgaaGreatDoor
open Go.RowKit Go.Lib Go.Maps Go.ChangeMaps Go.Sort Go.Shelf

section
variable {w0 w w' : World} {own own' : Owner} {jb db fb gb A B : Nat} {j : JM} {r : RDm}

/-- A law's row has grown. -/
theorem JW.grown (h : JW w0 w own jb db fb gb A j) {v : Value} (hv : ∀ g, v.ownBlock = some g → w0.heap.size ≤ g ∧ jo own jb g = none) (hg : w.grownBy w' v.ownBlock) : JW w0 w' own jb db fb gb A j := by
  have hfr : Fr (fun b => v.ownBlock = some b) w w' := (Fr.refl _ w).grown hg (fun k hk _ => hk)
  have hbig := h.big
  have hkp : KpT (fun b _ => v.ownBlock = some b) w w' := ⟨hg.size, fun b o hb _ hT => (hg.block b (Array.getElem?_eq_some_iff.1 hb).1 (fun e => hT e.symm)).trans hb⟩
  refine ⟨⟨h.dev.dev.fr hfr (fun b hb hT => hb (jo_none.1 (hv b hT).2).2), h.dev.vars.kp hkp (fun b o hb hT => by have := (hv b hT).1; omega), ?_, h.dev.free⟩, ⟨?_, h.st.own⟩, h.acts, h.far, h.big⟩
  · exact (hg.block jb h.dev.jat.lt (fun e => by
      have h2 := jo_none.1 (hv jb e.symm).2
      exact h2.1 rfl)).trans h.dev.jat
  · exact ⟨hg.os.trans h.st.fr.os, hg.tape.trans h.st.fr.tape, hg.output.trans h.st.fr.output, Nat.le_trans h.st.fr.size hg.size, fun k hk _ => (hg.block k (Nat.lt_of_lt_of_le hk h.st.fr.size) (fun e => by have := (hv k e.symm).1; omega)).trans (h.st.fr.block k hk (fun x => x rfl))⟩

/-- A law's row, and one text more. -/
theorem OwnT.grown {v v' : Value} {rs : List (List UInt8)} {x : List UInt8} (h : OwnT B w own v rs) (hown : w'.ownsRow B 9 1 v' (rs.length + 1) (recCells rs ++ recCells [x])) (hat : v'.ownBlock = v.ownBlock ∨ v'.ownBlock = some w.heap.size) (ho : own w.heap.size = none) : OwnT B w' own v' (rs ++ [x]) := by
  refine ⟨?_, fun g hg => ?_⟩
  · have e : recCells (rs ++ [x]) = recCells rs ++ recCells [x] := by simp [recCells]
    rw [e, List.length_append]
    exact hown
  · rcases hat with e | e
    · exact h.2 g (by rw [← e]; exact hg)
    · rw [e] at hg
      injection hg with hg
      rw [← hg]
      exact ho
theorem OwnT.nil (B : Nat) (w : World) (own : Owner) : OwnT B w own (.slice none 0 0) [] := ⟨World.ownsRow_nil _ _ _ _, fun g hg => by simp [Value.ownBlock] at hg⟩
theorem OwnT.far {v : Value} {rs : List (List UInt8)} (h : OwnT B w own v rs) : ∀ g, v.ownBlock = some g → B ≤ g ∧ own g = none := fun g hg => ⟨(h.1.lt g hg).1, h.2 g hg⟩
theorem OwnT.form {v : Value} {rs : List (List UInt8)} (h : OwnT B w own v rs) : ∃ a c, v = .slice a rs.length c ∧ rs.length ≤ c := by
  rcases h.1.2 with ⟨rfl, h0⟩ | ⟨g, cap, cur, rfl, h1, h2, h3, h4, h5⟩
  · rw [h0]; exact ⟨none, 0, rfl, Nat.le_refl _⟩
  · exact ⟨_, cap, rfl, by omega⟩
/-- Its first texts. -/
theorem OwnT.upto {a : Option Addr} {c : Nat} {rs : List (List UInt8)} (h : OwnT B w own (.slice a rs.length c) rs) (hc : rs.length ≤ c) {m : Nat} (hm : m ≤ rs.length) (_hl : rs.length ≤ 100000000) (hs : ∀ x ∈ rs, x.length ≤ maxLen) :
    (∀ W : World, (Instr.slice 32 (.slice a rs.length c) none (some (.int .i64 m)) none).run Tryz.prog W = .ok (.slice a m c) W) ∧ TRow w a (rs.take m) := by
  refine ⟨fun W => ?_, fun i x hx => ?_⟩
  · have hz : (sizeOf 9).run Tryz.prog W = .ok 1 W := by kernel_rfl
    rw [run_slice_h (P := Tryz.prog) W 32 a rs.length c (by kernel_rfl) .i64 (m : Int) (by omega) (by omega)]
    have he : Tryz.prog.elem 32 = 9 := by kernel_rfl
    rw [he, hz]
    cases a <;> simp [Result.andThen, sliced, Addr.add]
  · rw [List.getElem?_take] at hx
    split at hx
    · exact h.trow hs i x hx
    · cases hx
end

/-- A journal that was opened with what is there, and added to, beside a law's row of what was added. S: the power stays on. -/
def RowJ (S : Prop) (r0 : RDm) (l0 : Nat) (pre : List (List UInt8)) (w0 wr : World) (jb db fb gb A K U : Nat) (v : Value) (sc : Nat) (rs : List (List UInt8)) : Prop :=
  ∃ own j ls sy, JW w0 wr own jb db fb gb A j ∧ Grows r0 l0 j ls sy ∧ OwnT w0.heap.size wr (jo own jb) v rs ∧ rs = pre ++ ls.flatten ∧ sc ≤ cntS ls sy ∧ j.r.L.length ≤ 64 ∧ j.last ≤ l0 + K ∧ ls.flatten.length ≤ K ∧ (S → On j.r ∧ usedL j.r.L ≤ U ∧ j.r.room = 4194304)
/-- A record was added to the journal, and not yet to the row. -/
def RowA (S : Prop) (r0 : RDm) (l0 : Nat) (pre : List (List UInt8)) (w0 wr : World) (jb db fb gb A K U : Nat) (v : Value) (sc : Nat) (rs : List (List UInt8)) (x : List UInt8) : Prop :=
  ∃ own j ls sy, JW w0 wr own jb db fb gb A j ∧ Grows r0 l0 j ls sy ∧ OwnT w0.heap.size wr (jo own jb) v rs ∧ rs ++ [x] = pre ++ ls.flatten ∧ sc ≤ cntS ls sy ∧ j.r.L.length ≤ 64 ∧ j.last ≤ l0 + K ∧ ls.flatten.length ≤ K ∧ (S → On j.r ∧ usedL j.r.L ≤ U ∧ j.r.room = 4194304)

section
variable {S : Prop} {r0 : RDm} {l0 : Nat} {pre : List (List UInt8)} {w0 wr : World} {jb db fb gb A K U : Nat} {v : Value} {sc : Nat} {rs : List (List UInt8)}

theorem RowJ.low (h : RowJ S r0 l0 pre w0 wr jb db fb gb A K U v sc rs) : Below w0.heap.size w0 wr := by
  obtain ⟨own, j, ls, sy, h1, _⟩ := h
  exact step_low h1.st
theorem RowA.low {x : List UInt8} (h : RowA S r0 l0 pre w0 wr jb db fb gb A K U v sc rs x) : Below w0.heap.size w0 wr := by
  obtain ⟨own, j, ls, sy, h1, _⟩ := h
  exact step_low h1.st
theorem RowJ.form (h : RowJ S r0 l0 pre w0 wr jb db fb gb A K U v sc rs) : ∃ a c, v = .slice a rs.length c := by
  obtain ⟨own, j, ls, sy, _, _, h3, _⟩ := h
  obtain ⟨a, c, h1, _⟩ := h3.form
  exact ⟨a, c, h1⟩
theorem RowJ.mono {A' K' : Nat} (h : RowJ S r0 l0 pre w0 wr jb db fb gb A K U v sc rs) (hA : A ≤ A') (hK : K ≤ K') : RowJ S r0 l0 pre w0 wr jb db fb gb A' K' U v sc rs := by
  obtain ⟨own, j, ls, sy, h1, h2, h3, h4, h5, h6, h7, h8, h9⟩ := h
  exact ⟨own, j, ls, sy, h1.mono hA, h2, h3, h4, h5, h6, by omega, by omega, h9⟩
theorem RowJ.below {w' : World} (h : RowJ S r0 l0 pre w0 wr jb db fb gb A K U v sc rs) (hb : Below wr.heap.size wr w') : RowJ S r0 l0 pre w0 w' jb db fb gb A K U v sc rs := by
  obtain ⟨own, j, ls, sy, h1, h2, h3, h4⟩ := h
  exact ⟨own, j, ls, sy, h1.below hb, h2, h3.below hb, h4⟩
theorem RowA.below {w' : World} {x : List UInt8} (h : RowA S r0 l0 pre w0 wr jb db fb gb A K U v sc rs x) (hb : Below wr.heap.size wr w') : RowA S r0 l0 pre w0 w' jb db fb gb A K U v sc rs x := by
  obtain ⟨own, j, ls, sy, h1, h2, h3, h4⟩ := h
  exact ⟨own, j, ls, sy, h1.below hb, h2, h3.below hb, h4⟩

theorem RowJ.add (h : RowJ S r0 l0 pre w0 wr jb db fb gb A K U v sc rs) (hb : Base r0 l0) (hA : A ≤ 800000000000) (hK : l0 + K ≤ 100000000000000000) {x : List UInt8} (hx : x.length ≤ maxLen) :
    Calls Tryz.prog 23 #[.pointer (some ⟨jb, 0, none⟩), .string (strB x)] wr fun e w' => ∃ c, e = .returned (.int .i64 c) ∧ ((c = 0 ∧ x.length ≤ 4096 ∧ Hid (RowA S r0 l0 pre w0 w' jb db fb gb (A + 2) (K + 1) (U + (x.length + 5)) v sc rs x)) ∨
      (c ≠ 0 ∧ (S → U + (x.length + 5) ≤ 4194304 → c = 1 ∨ c = 2) ∧ Hid (RowJ S r0 l0 pre w0 w' jb db fb gb (A + 2) (K + 1) (U + (x.length + 5)) v sc rs))) := by
  obtain ⟨own, j, ls, sy, h1, h2, h3, h4, h5, h6, h7, h8, h9⟩ := h
  refine (h1.add hA h6 h2.gone (by omega) (s := strB x) (by rw [strB_size]; exact hx)).mono ?_
  rw [strB_list]
  rintro e w' ⟨rfl, own', k1, st⟩
  obtain ⟨f1, f2, f3, f4⟩ := add_few h6 h2.gone x
  refine ⟨_, rfl, ?_⟩
  have hon : S → On (addJ j x).1.r ∧ usedL (addJ j x).1.r.L ≤ U + (x.length + 5) ∧ (addJ j x).1.r.room = 4194304 := fun hs => by
    obtain ⟨o1, o2, o3⟩ := h9 hs
    obtain ⟨p1, p2, p3, _⟩ := add_on o1 x
    exact ⟨p1, by omega, p2.trans o3⟩
  rcases h2.add hb x with ⟨hc, hr, ls', sy', g1, g2, g3, _⟩ | ⟨hc, sy', g1, g3⟩
  · refine .inl ⟨hc, hr, own', _, ls', sy', k1, g1, h3.step st, by rw [g2, h4, List.append_assoc], by omega, f1, by omega, by rw [g2, List.length_append]; show _ + 1 ≤ _; omega, hon⟩
  · refine .inr ⟨hc, fun hs hu => ?_, own', _, ls, sy', k1, g1, h3.step st, h4, by omega, f1, by omega, by omega, hon⟩
    obtain ⟨o1, o2, o3⟩ := h9 hs
    obtain ⟨_, _, _, p4⟩ := add_on o1 x
    rcases p4 with p4 | p4 | p4 | ⟨_, p4⟩
    · exact absurd p4 hc
    · exact .inl p4
    · exact .inr p4
    · omega

theorem RowA.append {x : List UInt8} {v' : Value} {w' : World} (h : RowA S r0 l0 pre w0 wr jb db fb gb A K U v sc rs x) (hown : w'.ownsRow w0.heap.size 9 1 v' (rs.length + 1) (recCells rs ++ recCells [x])) (hg : wr.grownBy w' v.ownBlock) (hat : v'.ownBlock = v.ownBlock ∨ v'.ownBlock = some wr.heap.size) : RowJ S r0 l0 pre w0 w' jb db fb gb A K U v' sc (rs ++ [x]) := by
  obtain ⟨own, j, ls, sy, h1, h2, h3, h4, h5⟩ := h
  exact ⟨own, j, ls, sy, h1.grown h3.far hg, h2, h3.grown hown hat (h1.dev.new (Nat.le_refl _)), h4, h5⟩

theorem RowJ.sync (h : RowJ S r0 l0 pre w0 wr jb db fb gb A K U v sc rs) (hb : Base r0 l0) (hA : A ≤ 800000000000) :
    Calls Tryz.prog 25 #[.pointer (some ⟨jb, 0, none⟩)] wr fun e w' => ∃ c, e = .returned (.int .i64 c) ∧ ((c = 0 ∧ ∃ n, rs.length = pre.length + n ∧ Hid (RowJ S r0 l0 pre w0 w' jb db fb gb (A + 1) K U v n rs)) ∨ (c ≠ 0 ∧ (S → False) ∧ Hid (RowJ S r0 l0 pre w0 w' jb db fb gb (A + 1) K U v sc rs))) := by
  obtain ⟨own, j, ls, sy, h1, h2, h3, h4, h5, h6, h7, h8, h9⟩ := h
  refine (h1.sync hA).mono ?_
  rintro e w' ⟨rfl, own', k1, st⟩
  refine ⟨_, rfl, ?_⟩
  have hon : S → On (syncJ j).1.r ∧ usedL (syncJ j).1.r.L ≤ U ∧ (syncJ j).1.r.room = 4194304 := fun hs => by
    obtain ⟨o1, o2, o3⟩ := h9 hs
    obtain ⟨_, p1, p2, p3⟩ := sync_on o1
    refine ⟨p1, ?_, p2.trans o3⟩
    show usedL (syncR j.r).1.L ≤ U
    omega
  have hf : (syncJ j).1.r.L.length ≤ 64 := by show (syncR j.r).1.L.length ≤ 64; rw [sync_few]; exact h6
  rcases h2.sync hb with ⟨hc, g1⟩ | ⟨hc, g1⟩
  · exact .inl ⟨hc, ls.flatten.length, by rw [h4, List.length_append], own', _, ls, lastLen ls, k1, g1, h3.step st, h4, by rw [cnt_all]; exact Nat.le_refl _, hf, h7, h8, hon⟩
  · refine .inr ⟨hc, fun hs => hc (sync_on (h9 hs).1).1, own', _, ls, sy, k1, g1, h3.step st, h4, h5, hf, h7, h8, hon⟩
end

end Go.Proofs.YtdpbnacabinlgaaGreatDoor
namespace Go.Proofs.YtdpbnacabinlgaaGreatDoor
open Go.RowKit Go.Lib Go.Maps Go.ChangeMaps Go.Sort Go.Shelf

/-- A byte of a row that came in. -/
theorem byte_at {w w1 : World} {a : Option Addr} {n c : Nat} {bs : List UInt8} (h : BArg w (fun _ => none) (.slice a n c) bs) (hb : Below w.heap.size w w1) {k : Nat} {y : UInt8} (hy : bs[k]? = some y) : ∃ A, a = some A ∧ Hid (∀ wz, Below w1.heap.size w1 wz → wz.cell? (A.add k) = some (.int .u8 y.toNat)) := by
  rcases h with ⟨_, rfl⟩ | ⟨A, c', e, _, hc⟩
  · cases hy
  · injection e with e
    have h1 := hc k y hy
    exact ⟨A, e, fun wz hz => cell_below (hb.trans (hz.mono hb.size)) h1⟩

set_option maxHeartbeats 32000000 in
set_option maxRecDepth 100000 in
theorem begins_walk {w : World} (hv : Vars w (fun _ => none)) (a : Option Addr) (c : Nat) (rs : List (List UInt8)) (hx : TRow w a rs) (hl : rs.length ≤ maxLen)
    (sa : Option Addr) (scc : Nat) (ss : List UInt8) (hss : BArg w (fun _ => none) (.slice sa ss.length scc) ss) (hsl : ss.length ≤ maxLen) (F : Nat) (hF : F ≤ 255)
    (ka : Option Addr) (kc : Nat) (ks : List (ByteArray × Int)) (hks : KArg w (fun _ => none) (.slice ka ks.length kc) ks) (hkl : ks.length ≤ 1000000000000000) :
    Calls Tryz.prog 4 #[.slice a rs.length c, .slice sa ss.length scc, .int .u8 F, .slice ka ks.length kc] w fun e w' => e = .returned (.bool true) ∧ Below w.heap.size w w' := by
  unfold maxLen at hl hsl
  have HV := Lib.hid hv
  have HX := Lib.hid hx
  have HKS := Lib.hid hks
  have HSS := Lib.hid hss
  obtain ⟨l, hrl⟩ : ∃ l, rs.length = l := ⟨_, rfl⟩
  have Hl := Lib.hid hrl
  rw [hrl] at hl ⊢
  obtain ⟨kl, hk2⟩ : ∃ kl, ks.length = kl := ⟨_, rfl⟩
  have Hkl := Lib.hid hk2
  rw [hk2] at hkl ⊢
  obtain ⟨sl, hs2⟩ : ∃ sl, ss.length = sl := ⟨_, rfl⟩
  have Hsl := Lib.hid hs2
  rw [hs2] at hsl ⊢
  obtain ⟨i0, hi, hi0, hi1, hi2⟩ := info_parts infoS16
  have hwF : IntKind.i64.wrap ((F : Int) + 1) = ((F + 1 : Nat) : Int) := by rw [IntWalk.i64_in _ ⟨by omega, by omega⟩]; omega
  clear hv hx hks hss hrl hk2 hs2
  go_enter Tryz.func4, Tryz.ntmps4
  go_wp2_with fail
  refine (jhead_calls HV.out).mono ?_
  rintro e w1 ⟨rfl, hb1⟩
  have HB1 := Lib.hid hb1
  have HV1 := Lib.hid (HV.out.below hb1)
  clear hb1
  go_wp2_with fail
  refine (jopened_calls HV1.out).mono ?_
  rintro e w2 ⟨jb, db, fb, gb, own2, rfl, hj2⟩
  have HJ2 := Lib.hid hj2
  have HB2 := Lib.hid (HB1.out.trans ((step_low hj2.st).mono HB1.out.size))
  have hbig : 2 < w1.heap.size := hj2.big
  clear hj2
  go_wp2_with fail
  go_loop [13, 14] (fun n i => ∃ k nn : Nat, k ≤ l ∧ i = .int .i64 k ∧ n = .int .i64 nn ∧ nn ≤ kl + 80001 ∧ kl ≤ nn) (fun _ i => l - (intOf i).toNat)
  case atStart => exact ⟨0, kl, Nat.zero_le _, rfl, rfl, by omega, by omega⟩
  case round =>
    obtain ⟨k, nn, hk, rfl, rfl, hnb, hnk⟩ := hrel
    by_cases hgo : k < l ∧ nn < 40000
    · obtain ⟨hlt, hn2⟩ := hgo
      obtain ⟨s, hs⟩ : ∃ s, rs[k]? = some s := ⟨_, List.getElem?_eq_getElem (by rw [Hl.out]; exact hlt)⟩
      obtain ⟨ad, rfl, hcell, hss⟩ := (HX.out.below HB2.out) k s hs
      unfold maxLen at hss
      have hsz : (strB s).size = s.length := strB_size s
      have hss1 : (strB s).size ≤ 9223372036854775807 := by omega
      have hd : decide ((nn : Int) < 40000) = true := by simp; omega
      have hT0 : (0 : Int) ≤ min ((strB s).size : Int) 40000 := by omega
      have hT1 : min ((strB s).size : Int) 40000 ≤ 40000 := by omega
      have hcast : ((nn : Int) + 1 + min ((strB s).size : Int) 40000) = ((nn + 1 + min (strB s).size 40000 : Nat) : Int) := by omega
      have Hcast := Lib.hid hcast
      clear hs hsz hcast
      go_wp2
      go_round
      case rel => exact ⟨k + 1, nn + 1 + min (strB s).size 40000, by omega, by go_num, by rw [Hcast.out], by omega, by omega⟩
      case measure => simp [intOf]; omega
    · by_cases hbg : 40000 ≤ nn
      · have hd2 : decide ((nn : Int) < 40000) = false := by simp; omega
        have hd3 : decide ((40000 : Int) ≤ (nn : Int)) = true := by simp; omega
        by_cases hlt : k < l
        all_goals
          go_wp2
          go_ret
          exact ⟨rfl, HB2.out⟩
      · have hlt : ¬ k < l := by omega
        have hd3 : decide ((40000 : Int) ≤ (nn : Int)) = false := by simp; omega
        by_cases h300 : 300 < l
        · have hd4 : decide ((300 : Int) < (l : Int)) = true := by simp; omega
          go_wp2
          go_ret
          exact ⟨rfl, HB2.out⟩
        · have hd4 : decide ((300 : Int) < (l : Int)) = false := by simp; omega
          by_cases hs300 : 300 < sl
          · have hd5 : decide ((300 : Int) < (sl : Int)) = true := by simp; omega
            go_wp2
            go_ret
            exact ⟨rfl, HB2.out⟩
          · have hd5 : decide ((300 : Int) < (sl : Int)) = false := by simp; omega
            have HKL : Hid (kl ≤ 1000000000000) := by show _ ≤ _; omega
            have HFU := Lib.hid (HJ2.out.fuse (y := ((F + 1 : Nat) : Int)) (by omega))
            clear hnb hgo hbg hnk
            go_wp2_with fail
            refine HFU.out.mono ?_
            rintro e w3 ⟨rfl, h3, _⟩
            have HI3 : Hid (RowJ False (newJ 4194304).r 0 [] w1 w3 jb db fb gb (201 + 4 * 0) 0 0 (.slice none 0 0) 0 []) := ⟨own2, _, [], 0, h3, (newJ_grows 4194304).fuse _, OwnT.nil _ _ _, rfl, Nat.zero_le _, by show (newJ 4194304).r.L.length ≤ 64; rw [(newJ_facts 4194304).2.1]; omega, Nat.zero_le _, Nat.zero_le _, fun hf => hf.elim⟩
            clear h3 HFU HJ2
            go_wp2_with fail
            go_loopw [15, 16, 17] (fun v cs i wr => ∃ (k sc U : Nat) (xs : List (List UInt8)) (vv : Value), vv = v ∧ k ≤ l ∧ i = .int .i64 k ∧ cs = .int .i64 sc ∧ Hid (RowJ False (newJ 4194304).r 0 [] w1 wr jb db fb gb (201 + 4 * k) k U vv sc xs)) (fun _ _ i _ => l - (intOf i).toNat)
            case atStart => exact ⟨0, 0, 0, [], _, rfl, Nat.zero_le _, rfl, rfl, HI3⟩
            case round =>
              obtain ⟨k2, sc, U, xs, vv, rfl, hk2, rfl, rfl, HI2⟩ := hrel
              by_cases hlt2 : k2 < l
              · obtain ⟨s, hs⟩ : ∃ s, rs[k2]? = some s := ⟨_, List.getElem?_eq_getElem (by rw [Hl.out]; exact hlt2)⟩
                obtain ⟨ad, rfl, hcell, hss⟩ := (HX.out.below (HB1.out.trans (HI2.out.low.mono HB1.out.size))) k2 s hs
                have HADD := Lib.hid (HI2.out.add (newJ_base 4194304) (by omega) (by omega) hss)
                have HLEN : Hid (xs.length ≤ k2) := by obtain ⟨_, _, _, _, _, _, _, e1, _, _, _, n1, _⟩ := HI2.out; rw [e1]; exact n1
                have HCELL : Hid (∀ wz, Below w1.heap.size w1 wz → wz.cell? (ad.add k2) = some (.string (strB s))) := fun wz hz => by
                  obtain ⟨ad2, e, hc, _⟩ := (HX.out.below (HB1.out.trans (hz.mono HB1.out.size))) k2 s hs
                  injection e with e
                  rw [e]
                  exact hc
                clear hs hss
                go_wp2_with fail
                refine HADD.out.mono ?_
                rintro e w3 ⟨ec, rfl, hcase⟩
                clear HADD HI2
                rcases hcase with ⟨rfl, hlen, HA3⟩ | ⟨hne, _, HJ3⟩
                · have hc3 := HCELL.out w3 HA3.out.low
                  have HO3 : Hid ((w3.alloc (.cells #[.string (strB s)] 9)).ownsRow w1.heap.size 9 1 vv xs.length (recCells xs)) := by
                    obtain ⟨_, _, _, _, _, _, t1, _⟩ := HA3.out
                    exact t1.1.alloc _
                  have HA4 := Lib.hid (HA3.out.below ((Below.refl _ _).alloc (Nat.le_refl _) (.cells #[.string (strB s)] 9)))
                  have hbz : Hid (w1.heap.size ≤ (w3.alloc (.cells #[.string (strB s)] 9)).heap.size) := HA4.out.low.size
                  clear HA3 hlen
                  by_cases hs : k2 < sl
                  rotate_left
                  · go_wp2_with (first
                      | (at_builtin; refine wpList_append_own_at _ rfl (.tmp 93) (.tmp 98) 32 rfl w1.heap.size 9 i0 (.string .empty) 1 16 Tryz.underlying32 hi hi0 hi1 hi2 rfl (by decide) _ _ _ rfl HO3.out ⟨w3.heap.size, 0, none⟩ 1 1 (recCells [s]) rfl rfl (vals_new w3 _ _ _ _ rfl) (recCells_one _) (by have := HLEN.out; unfold maxLen; omega) (by have := HLEN.out; omega) hbz.out ?_; intro v4 w4 hown4 hgrow4 _ hat4; have HJ4 := Lib.hid (RowA.append HA4.out hown4 hgrow4 hat4); clear hown4 hgrow4 hat4))
                    go_roundw
                    case rel => exact ⟨k2 + 1, sc, _, _, _, rfl, by omega, by go_num, rfl, Lib.hid (HJ4.out.mono (A' := 201 + 4 * (k2 + 1)) (by omega) (Nat.le_refl _))⟩
                    case measure => simp [intOf]; omega
                  · obtain ⟨y, hy⟩ : ∃ y, ss[k2]? = some y := ⟨_, List.getElem?_eq_getElem (by rw [Hsl.out]; exact hs)⟩
                    obtain ⟨sad, rfl, HSC⟩ := byte_at HSS.out (HB1.out) hy
                    have hy0 : (0 : Int) ≤ (y.toNat : Int) := by omega
                    have hy1 : (y.toNat : Int) ≤ 255 := by have := y.toNat_lt; omega
                    go_wp2_with (first
                      | (at_builtin; refine wpList_append_own_at _ rfl (.tmp 93) (.tmp 98) 32 rfl w1.heap.size 9 i0 (.string .empty) 1 16 Tryz.underlying32 hi hi0 hi1 hi2 rfl (by decide) _ _ _ rfl HO3.out ⟨w3.heap.size, 0, none⟩ 1 1 (recCells [s]) rfl rfl (vals_new w3 _ _ _ _ rfl) (recCells_one _) (by have := HLEN.out; unfold maxLen; omega) (by have := HLEN.out; omega) hbz.out ?_; intro v4 w4 hown4 hgrow4 _ hat4; have HJ4 := Lib.hid (RowA.append HA4.out hown4 hgrow4 hat4); have y4 := HSC.out w4 HJ4.out.low; obtain ⟨fa, fc, rfl⟩ := HJ4.out.form; clear hown4 hgrow4 hat4))
                    rotate_left
                    · go_roundw
                      case rel => exact ⟨k2 + 1, sc, _, _, .slice fa (xs ++ [s]).length fc, by simp, by omega, by go_num, rfl, Lib.hid (HJ4.out.mono (A' := 201 + 4 * (k2 + 1)) (by omega) (Nat.le_refl _))⟩
                      case measure => simp [intOf]; omega
                    refine (HJ4.out.sync (newJ_base 4194304) (by omega)).mono ?_
                    rintro e w5 ⟨ec5, rfl, hcase5⟩
                    rcases hcase5 with ⟨rfl, n5, hn5, H5⟩ | ⟨hne5, _, H5⟩
                    · have HN5 := Lib.hid hn5
                      clear hn5
                      go_wp2_with fail
                      go_roundw
                      case rel => exact ⟨k2 + 1, n5, _, _, .slice fa (xs ++ [s]).length fc, by simp, by omega, by go_num, by have h5 := HN5.out; simp only [List.length_append, List.length_cons, List.length_nil, Nat.zero_add] at h5; congr 1; omega, Lib.hid (H5.out.mono (A' := 201 + 4 * (k2 + 1)) (by omega) (Nat.le_refl _))⟩
                      case measure => simp [intOf]; omega
                    · go_wp2_with fail
                      go_roundw
                      case rel => exact ⟨k2 + 1, sc, _, _, .slice fa (xs ++ [s]).length fc, by simp, by omega, by go_num, rfl, Lib.hid (H5.out.mono (A' := 201 + 4 * (k2 + 1)) (by omega) (Nat.le_refl _))⟩
                      case measure => simp [intOf]; omega
                · by_cases h13 : ec = 13
                  · subst h13
                    have HI2 := HJ3
                    clear hne
                    obtain ⟨own, j, ls, sy, h1, g1, t1, e1, c1, f1, l1, n1, _⟩ := HI2.out
                    rw [List.nil_append] at e1
                    subst e1
                    have hst : Step (fun _ => none) own w w3 := (below_step _ HB1.out).trans h1.lw.st
                    have HC := Lib.hid (h1.lw.crash (HKS.out.step hst) (by rw [Hkl.out]; exact HKL.out))
                    rw [Hkl.out] at HC
                    have hb0 := newJ_base 4194304
                    obtain ⟨_, _, _, _, p0, q0⟩ := newJ_facts 4194304
                    have HG : Hid (∀ L', Crashed ks j.r L' → ∃ q, viewR (crashR j.r L') = ((0, []), ls.flatten.take q) ∧ sc ≤ q ∧ q ≤ ls.flatten.length) := fun L' hc => by
                      obtain ⟨q, hv, k1, k2, _⟩ := g1.crash hb0 hc
                      rw [p0] at hv q0
                      rw [q0] at hv
                      exact ⟨q, hv, Nat.le_trans c1 k1, k2⟩
                    have hxm : ∀ x ∈ ls.flatten, x.length ≤ 4096 := fun x hx => by
                      obtain ⟨d, hd, hx⟩ := List.mem_flatten.1 hx
                      exact (g1.ok d hd).2.1 x hx
                    have HXM := Lib.hid hxm
                    obtain ⟨va, vc, hvs, hvc⟩ := t1.form
                    subst hvs
                    obtain ⟨ad, had⟩ : ∃ ad, ls.flatten = ad := ⟨_, rfl⟩
                    rw [had] at HG HXM t1 n1 hvc ⊢
                    have T1 := Lib.hid t1.unjo
                    clear h1 g1 t1 c1 f1 l1 hb0 p0 q0 hxm had hst
                    go_wp2_with fail
                    refine HC.out.mono ?_
                    rintro e w4 ⟨rfl, own4, L4, hc4, h4, s4⟩
                    obtain ⟨q, hv4, hq1, hq2⟩ := HG.out L4 hc4
                    obtain ⟨r4, hr4⟩ : ∃ r4, crashR j.r L4 = r4 := ⟨_, rfl⟩
                    have ho4 : On r4 := by rw [← hr4]; exact On.crash _ _
                    rw [hr4] at h4 hv4
                    have HO := Lib.hid (h4.opens (by omega) hbig ho4)
                    have T4 := Lib.hid (T1.out.step s4)
                    have hl4 : lastP r4 = (0, []) := congrArg Prod.fst hv4
                    have hr4 : (viewR r4).2 = ad.take q := congrArg Prod.snd hv4
                    clear h4 hc4 s4 hv4 HC HG
                    go_wp2_with fail
                    refine HO.out.mono ?_
                    rintro e w5 ⟨jb5, own5, ra5, rc5, rfl, h5, _, s5, _, t5⟩
                    rw [hl4, hr4]
                    rw [hr4] at t5
                    have hql : (ad.take q).length = q := by rw [List.length_take]; omega
                    rw [hql]
                    have hm : ∀ x ∈ ad, x.length ≤ maxLen := fun x hx => by have := HXM.out x hx; unfold maxLen; omega
                    have T5 := T4.out.step s5
                    obtain ⟨hsl, ty⟩ := T5.upto hvc hq2 (by omega) hm
                    have ty2 := t5.trow (fun x hx => hm x (List.mem_of_mem_take hx))
                    have HS : Hid (Calls Tryz.prog 17 #[.slice ra5 q rc5, .slice va q vc] w5 fun e w' => e = .returned (.bool true) ∧ ∃ n, w' = w5.drewN n) := by
                      have hs := same_calls w5 ra5 va rc5 vc (ad.take q) (ad.take q) ty2 ty (by rw [hql]; unfold maxLen; omega) (by rw [hql]; unfold maxLen; omega)
                      rw [hql] at hs
                      exact hs.mono fun e w' h => ⟨by rw [h.1]; simp, h.2⟩
                    have HB5 := Lib.hid (HB1.out.trans ((step_low h5.st).mono HB1.out.size))
                    obtain ⟨al, hal⟩ : ∃ al, ad.length = al := ⟨_, rfl⟩
                    rw [hal] at hsl hq2 n1 ⊢
                    have d1 : decide ((q : Int) < (sc : Int)) = false := by simp; omega
                    have d2 : decide ((al : Int) < (q : Int)) = false := by simp; omega
                    have HSL : Hid (∀ W : World, (Instr.slice 32 (.slice va al vc) none (some (.int .i64 q)) none).run Tryz.prog W = .ok (.slice va q vc) W) := hsl
                    have hsl2 := HSL.out w5
                    clear h5 s5 t5 T5 ty ty2 hm hl4 hr4 hql HO T4 hal hsl
                    go_wp2_with (go_at_call 17; refine HS.out.mono ?_; rintro e w8 ⟨rfl, nq, rfl⟩)
                    go_ret
                    exact ⟨rfl, below_drewN HB5.out _⟩
                  · obtain ⟨fa, fc, rfl⟩ := HJ3.out.form
                    by_cases hs : k2 < sl
                    rotate_left
                    · go_wp2_with fail
                      go_roundw
                      case rel => exact ⟨k2 + 1, sc, _, _, _, rfl, by omega, by go_num, rfl, Lib.hid (HJ3.out.mono (A' := 201 + 4 * (k2 + 1)) (by omega) (Nat.le_refl _))⟩
                      case measure => simp [intOf]; omega
                    · obtain ⟨y, hy⟩ : ∃ y, ss[k2]? = some y := ⟨_, List.getElem?_eq_getElem (by rw [Hsl.out]; exact hs)⟩
                      obtain ⟨sad, rfl, HSC⟩ := byte_at HSS.out (HB1.out) hy
                      have hy0 : (0 : Int) ≤ (y.toNat : Int) := by omega
                      have hy1 : (y.toNat : Int) ≤ 255 := by have := y.toNat_lt; omega
                      have y4 := HSC.out w3 HJ3.out.low
                      go_wp2_with fail
                      rotate_left
                      · go_roundw
                        case rel => exact ⟨k2 + 1, sc, _, _, _, rfl, by omega, by go_num, rfl, Lib.hid (HJ3.out.mono (A' := 201 + 4 * (k2 + 1)) (by omega) (Nat.le_refl _))⟩
                        case measure => simp [intOf]; omega
                      refine (HJ3.out.sync (newJ_base 4194304) (by omega)).mono ?_
                      rintro e w5 ⟨ec5, rfl, hcase5⟩
                      rcases hcase5 with ⟨rfl, n5, hn5, H5⟩ | ⟨hne5, _, H5⟩
                      · have HN5 := Lib.hid hn5
                        clear hn5
                        go_wp2_with fail
                        go_roundw
                        case rel => exact ⟨k2 + 1, n5, _, _, _, rfl, by omega, by go_num, by have h5 := HN5.out; simp only [List.length_nil, Nat.zero_add] at h5; congr 1; omega, Lib.hid (H5.out.mono (A' := 201 + 4 * (k2 + 1)) (by omega) (Nat.le_refl _))⟩
                        case measure => simp [intOf]; omega
                      · go_wp2_with fail
                        go_roundw
                        case rel => exact ⟨k2 + 1, sc, _, _, _, rfl, by omega, by go_num, rfl, Lib.hid (H5.out.mono (A' := 201 + 4 * (k2 + 1)) (by omega) (Nat.le_refl _))⟩
                        case measure => simp [intOf]; omega
              · obtain ⟨own, j, ls, sy, h1, g1, t1, e1, c1, f1, l1, n1, _⟩ := HI2.out
                rw [List.nil_append] at e1
                subst e1
                have hst : Step (fun _ => none) own w wr := (below_step _ HB1.out).trans h1.lw.st
                have HC := Lib.hid (h1.lw.crash (HKS.out.step hst) (by rw [Hkl.out]; exact HKL.out))
                rw [Hkl.out] at HC
                have hb0 := newJ_base 4194304
                obtain ⟨_, _, _, _, p0, q0⟩ := newJ_facts 4194304
                have HG : Hid (∀ L', Crashed ks j.r L' → ∃ q, viewR (crashR j.r L') = ((0, []), ls.flatten.take q) ∧ sc ≤ q ∧ q ≤ ls.flatten.length) := fun L' hc => by
                  obtain ⟨q, hv, k1, k2, _⟩ := g1.crash hb0 hc
                  rw [p0] at hv q0
                  rw [q0] at hv
                  exact ⟨q, hv, Nat.le_trans c1 k1, k2⟩
                have hxm : ∀ x ∈ ls.flatten, x.length ≤ 4096 := fun x hx => by
                  obtain ⟨d, hd, hx⟩ := List.mem_flatten.1 hx
                  exact (g1.ok d hd).2.1 x hx
                have HXM := Lib.hid hxm
                obtain ⟨va, vc, hvs, hvc⟩ := t1.form
                subst hvs
                obtain ⟨ad, had⟩ : ∃ ad, ls.flatten = ad := ⟨_, rfl⟩
                rw [had] at HG HXM t1 n1 hvc ⊢
                have T1 := Lib.hid t1.unjo
                clear h1 g1 t1 c1 f1 l1 hb0 p0 q0 hxm had hst
                go_wp2_with fail
                refine HC.out.mono ?_
                rintro e w4 ⟨rfl, own4, L4, hc4, h4, s4⟩
                obtain ⟨q, hv4, hq1, hq2⟩ := HG.out L4 hc4
                obtain ⟨r4, hr4⟩ : ∃ r4, crashR j.r L4 = r4 := ⟨_, rfl⟩
                have ho4 : On r4 := by rw [← hr4]; exact On.crash _ _
                rw [hr4] at h4 hv4
                have HO := Lib.hid (h4.opens (by omega) hbig ho4)
                have T4 := Lib.hid (T1.out.step s4)
                have hl4 : lastP r4 = (0, []) := congrArg Prod.fst hv4
                have hr4 : (viewR r4).2 = ad.take q := congrArg Prod.snd hv4
                clear h4 hc4 s4 hv4 HC HG
                go_wp2_with fail
                refine HO.out.mono ?_
                rintro e w5 ⟨jb5, own5, ra5, rc5, rfl, h5, _, s5, _, t5⟩
                rw [hl4, hr4]
                rw [hr4] at t5
                have hql : (ad.take q).length = q := by rw [List.length_take]; omega
                rw [hql]
                have hm : ∀ x ∈ ad, x.length ≤ maxLen := fun x hx => by have := HXM.out x hx; unfold maxLen; omega
                have T5 := T4.out.step s5
                obtain ⟨hsl, ty⟩ := T5.upto hvc hq2 (by omega) hm
                have ty2 := t5.trow (fun x hx => hm x (List.mem_of_mem_take hx))
                have HS : Hid (Calls Tryz.prog 17 #[.slice ra5 q rc5, .slice va q vc] w5 fun e w' => e = .returned (.bool true) ∧ ∃ n, w' = w5.drewN n) := by
                  have hs := same_calls w5 ra5 va rc5 vc (ad.take q) (ad.take q) ty2 ty (by rw [hql]; unfold maxLen; omega) (by rw [hql]; unfold maxLen; omega)
                  rw [hql] at hs
                  exact hs.mono fun e w' h => ⟨by rw [h.1]; simp, h.2⟩
                have HB5 := Lib.hid (HB1.out.trans ((step_low h5.st).mono HB1.out.size))
                obtain ⟨al, hal⟩ : ∃ al, ad.length = al := ⟨_, rfl⟩
                rw [hal] at hsl hq2 n1 ⊢
                have d1 : decide ((q : Int) < (sc : Int)) = false := by simp; omega
                have d2 : decide ((al : Int) < (q : Int)) = false := by simp; omega
                have HSL : Hid (∀ W : World, (Instr.slice 32 (.slice va al vc) none (some (.int .i64 q)) none).run Tryz.prog W = .ok (.slice va q vc) W) := hsl
                have hsl2 := HSL.out w5
                clear h5 s5 t5 T5 ty ty2 hm hl4 hr4 hql HO T4 hal hsl
                go_wp2_with (go_at_call 17; refine HS.out.mono ?_; rintro e w8 ⟨rfl, nq, rfl⟩)
                go_ret
                exact ⟨rfl, below_drewN HB5.out _⟩

end Go.Proofs.YtdpbnacabinlgaaGreatDoor
namespace Go.Proofs.YtdpbnacabinlgaaGreatDoor
open Go.ChangeShapes Go.WideShapes Go.ChangeAt Go.RowKit Go.Lib Go.Deep Go.Joins
open Go.ChangeMaps (open_string shut_string)

namespace journalBegins
set_option maxRecDepth 100000 in
theorem lifted (os : Os) (started : os.Started) (H : Type) (enc : TypeId × Value → H) :
    ReturnsInHanded {} Tryz.checked os 4 .any (fun w args => (Rows.journalBeginsSpec.pre enc Tryz.prog Tryz.f4 [] false w args ∧ laidMetH Tryz.prog laidX w) ∧ sizedMet enc Tryz.prog Tryz.f4 (OpenSpec.ofChange Rows.journalBeginsSpec) false w args)
      (Rows.journalBeginsSpec.post enc Tryz.prog Tryz.f4 false true false false) := by
  refine returnsInHanded_of_change_and (C := Tryz.checked) (X := fun w _ => laidMetH Tryz.prog laidX w) (fun _ _ _ hh h => h.of_heap hh) xown_ started (by kernel_rfl) Tryz.func4
    (ChangeSpec.witness_shaped (enc := enc) (C := Tryz.checked) (os := os) (X := fun w _ => laidMetH Tryz.prog laidX w) false (World.doorLaid Tryz.prog 62 os) #[.slice none 0 0, .slice none 0 0, .int .u8 0, .slice none 0 0] 8 rfl (World.shaped_of_RefB (by kernel_rfl) (by kernel_rfl)) (by kernel_rfl) (by kernel_rfl) (by kernel_rfl) (xdoor_met os _)) ?_
  intro W base args ds gs before hval0 hW _ hsz hL _
  have hT := vars_of_laid hL
  have hval : ∀ (j : Nat) t v, Tryz.f4.params[j]? = some t → args[j]? = some v → Value.okWide Tryz.prog W .any base t v := hval0
  have hW' := hW
  obtain ⟨p, q, hA0, hV, rfl, _, _⟩ := hW
  have hA : DataW.TrodAll enc Tryz.prog W 0 (fun _ => true) true Tryz.f4.params.toList args.toList ds p := hA0
  rw [Tryz.params4] at hA hval
  obtain ⟨v0, vs0, d0, ds0, p0, q0, hargs, rfl, rfl, h0, r0⟩ := trodAll_cons hA
  obtain ⟨v1, vs1, d1, ds1, p1, q1, rfl, rfl, rfl, h1, r1⟩ := trodAll_cons r0
  obtain ⟨v2, vs2, d2, ds2, p2, q2, rfl, rfl, rfl, h2, r2⟩ := trodAll_cons r1
  obtain ⟨v3, vs3, d3, ds3, p3, q3, rfl, rfl, rfl, h3, r3⟩ := trodAll_cons r2
  obtain ⟨rfl, rfl, rfl⟩ := trodAll_nil r3
  obtain rfl : args = #[v0, v1, v2, v3] := by cases args; simp_all
  obtain ⟨rfl, rfl⟩ := trodVars_none hV
  have lt0 : ∀ x ∈ p0, x.block < W.heap.size := by obtain ⟨m, hm⟩ := h0; exact DataW.trod_lt m _ _ _ hm
  have lt1 : ∀ x ∈ p1, x.block < W.heap.size := by obtain ⟨m, hm⟩ := h1; exact DataW.trod_lt m _ _ _ hm
  have lt2 : ∀ x ∈ p2, x.block < W.heap.size := by obtain ⟨m, hm⟩ := h2; exact DataW.trod_lt m _ _ _ hm
  have lt3 : ∀ x ∈ p3, x.block < W.heap.size := by obtain ⟨m, hm⟩ := h3; exact DataW.trod_lt m _ _ _ hm
  have k_0 := h0
  have k_1 := h1
  have k_2 := h2
  have k_3 := h3
  obtain ⟨a0, l0, c0, rfl⟩ := okWide_slice Tryz.underlying32 (hval 0 32 v0 rfl rfl)
  obtain ⟨m0, hm0⟩ := h0
  obtain ⟨rs0, rfl, hrs0, hl0⟩ := open_texts hm0
  obtain ⟨a1, l1, c1, rfl⟩ := okWide_slice Tryz.underlying49 (hval 1 49 v1 rfl rfl)
  obtain ⟨m1, hm1⟩ := h1
  obtain ⟨bs1, rfl, hbl1, hbs1⟩ := open_bytes hm1
  obtain ⟨n2, rfl, _, _, hw2⟩ := open_int Tryz.underlying5 (hval 2 5 v2 rfl rfl) h2
  have hn2 : (0 : Int) ≤ n2 ∧ n2 ≤ 255 := by
    have h8 : (decide ((0 : Int) ≤ n2) && decide (n2 ≤ 255)) = true := hw2
    simpa using h8
  obtain ⟨N2, rfl⟩ : ∃ N : Nat, n2 = (N : Int) := ⟨n2.toNat, by omega⟩
  obtain ⟨a3, l3, c3, rfl⟩ := okWide_slice Tryz.underlying41 (hval 3 41 v3 rfl rfl)
  obtain ⟨m3, hm3⟩ := h3
  have hz3 := kepts_reach hm3 (sized_mem hsz (j := 3) (t := 41) (by kernel_rfl) rfl)
  obtain ⟨ks3, rfl, hkl3, hks3⟩ := open_kepts hm3
  clear hA0 hval0
  refine (begins_walk hT a0 c0 rs0 hrs0 hl0 a1 c1 bs1 (hbs1 W (Below.refl _ _) _ (fun _ _ => rfl)) hbl1 N2 (by omega) a3 c3 ks3 (hks3 W (Below.refl _ _) _ (fun _ _ => rfl)) hz3).mono fun e W' ⟨he, bel⟩ => ?_
  subst he
  exact ⟨_, rfl, _, _, _, [], _, [], hW', trodAll_mk1 (shut_bool Tryz.underlying4 _), (trodAll_cons_mk (Below.trod xlaidOut (by kernel_rfl) (of_decide_eq_true (by kernel_rfl)) k_0 bel lt0) (trodAll_cons_mk (Below.trod xlaidOut (by kernel_rfl) (of_decide_eq_true (by kernel_rfl)) k_1 bel lt1) (trodAll_cons_mk (Below.trod xlaidOut (by kernel_rfl) (of_decide_eq_true (by kernel_rfl)) k_2 bel lt2) (trodAll_cons_mk (Below.trod xlaidOut (by kernel_rfl) (of_decide_eq_true (by kernel_rfl)) k_3 bel lt3) trodAll_mk0)))), rfl, bel.frame _, fun h => by cases h⟩

theorem row_holds : Rows.JournalBeginsSaid :=
  OpenClaim.holds_of_wide 4 Tryz.f4 rfl rfl rfl rfl rfl rfl rfl ⟨rfl, rfl, rfl, rfl, rfl⟩ rfl rfl rfl rfl rfl (by kernel_rfl) Tryz.func4 (by kernel_rfl)
    (of_decide_eq_true (by kernel_rfl)) (by unfold Func.isWrapper; first | (rw [if_pos (by decide +kernel)]; kernel_rfl) | (rw [if_neg (by decide +kernel)]; exact ⟨rfl, rfl⟩))
    (fun os started H enc _ => lifted os started H enc)

theorem holds : Rows.JournalBeginsCardSaid :=
  Claim7.holds_tied_plain_at .later [] [.data, .data, .data, .sentinel, .sentinel] true _ true row_holds (fun _ h => by cases h) (by kernel_rfl) (fun _ h => by cases h) journalBegins_row_tie rfl ⟨rfl, rfl⟩ (by kernel_rfl) rfl
    (fun f fn hf hfn => by
      obtain rfl : f = 4 := Option.some.inj ((show Tryz.prog.funcNamed "augury/augurylaw03.JournalBegins" = some 4 by kernel_rfl).symm.trans hf) |>.symm
      obtain rfl : fn = Tryz.f4 := (Option.some.inj (Tryz.func4.symm.trans hfn)).symm
      exact ⟨by kernel_rfl, fun j t ht => by
        rw [Tryz.params4] at ht
        have hm : t ∈ [32, 49, 5, 41] := by simpa using Array.mem_of_getElem? ht
        have hall : ([32, 49, 5, 41].all fun u => !Tryz.prog.wantsStandIn u) = true := by kernel_rfl
        exact (show Tryz.prog.wantsStandIn t = false by simpa using List.all_eq_true.1 hall t hm)⟩)
    (by kernel_rfl)
end journalBegins
end Go.Proofs.YtdpbnacabinlgaaGreatDoor
namespace Go.Proofs.YtdpbnacabinlgaaGreatDoor
open Go.RowKit Go.Lib Go.Maps Go.ChangeMaps Go.Sort Go.Shelf

/-- A journal in which all is synced. -/
def PicS (r0 : RDm) (l0 : Nat) (w0 wr : World) (jb db fb gb A : Nat) (v : Value) (rs : List (List UInt8)) : Prop :=
  ∃ own j ls sy, JW w0 wr own jb db fb gb A j ∧ Grows r0 l0 j ls sy ∧ OwnT w0.heap.size wr (jo own jb) v rs ∧ rs = ls.flatten ∧ Settled j.r ∧ j.r.off = false ∧ j.last ≤ 1000
/-- Behind its Compact, of which the answer is c. -/
def PicC (r0 : RDm) (w0 wr : World) (db fb gb A : Nat) (v : Value) (rs : List (List UInt8)) (p : List UInt8) (c : Int) : Prop :=
  ∃ own r, LDev wr own db fb gb 205 r ∧ Vars wr own ∧ Step (fun _ => none) own w0 wr ∧ OwnT w0.heap.size wr own v rs ∧ r.acts ≤ A ∧ ∀ ks L', Crashed ks r L' → (p.length ≤ 4096 ∧ ∃ n, 0 < n ∧ viewR (crashR r L') = ((n, p), [])) ∨ (c ≠ 0 ∧ viewR (crashR r L') = (lastP r0, rs))
/-- Behind the crash. -/
def PicK (r0 : RDm) (w0 wr : World) (db fb gb A : Nat) (v : Value) (rs : List (List UInt8)) (p : List UInt8) (c : Int) (r : RDm) : Prop :=
  ∃ own, LDev wr own db fb gb 205 r ∧ Vars wr own ∧ Step (fun _ => none) own w0 wr ∧ OwnT w0.heap.size wr own v rs ∧ r.acts ≤ A ∧ On r ∧ ((p.length ≤ 4096 ∧ ∃ n, 0 < n ∧ viewR r = ((n, p), [])) ∨ (c ≠ 0 ∧ viewR r = (lastP r0, rs)))

section
variable {w0 w wr : World} {own : Owner} {jb db fb gb A K U nn : Nat} {v : Value} {rs : List (List UInt8)} {r0 r : RDm} {l0 sc : Nat}

/-- The first Compact. -/
theorem JW.first (h : JW w0 w own jb db fb gb A (newJ 4194304)) (hA : A ≤ 1000) {s : ByteArray} (hs : s.size ≤ maxLen) :
    Calls Tryz.prog 27 #[.pointer (some ⟨jb, 0, none⟩), .string s] w fun e w' => ∃ ca r0 l0, e = .returned (.int .i64 ca) ∧ ((ca = 0 ∧ s.size ≤ 4096 ∧ lastP r0 = (1, s.data.toList)) ∨ (ca = 1 ∧ 4096 < s.size ∧ lastP r0 = (0, []))) ∧ Base r0 l0 ∧ l0 ≤ 1 ∧ recsR r0 (behindL r0 (lastP r0).1) = [] ∧
      Hid (RowJ True r0 l0 [] w0 w' jb db fb gb (A + 300) 0 4194304 (.slice none 0 0) 0 []) := by
  obtain ⟨n1, n2, n3, n4, n5, n6⟩ := newJ_facts 4194304
  have hb := newJ_base 4194304
  have hl : s.data.toList.length = s.size := by simp
  refine (h.compact (by omega) (Nat.zero_le _) hs).mono ?_
  rintro e w' ⟨rfl, own', hj, hd, hv, ha, st⟩
  by_cases hbig : 4096 < s.size
  · have hc := compact_big (j := newJ 4194304) (p := s.data.toList) (by omega)
    rw [hc] at hj ⊢
    refine ⟨1, (newJ 4194304).r, 0, rfl, .inr ⟨rfl, hbig, n5⟩, hb, Nat.zero_le _, n6, own', _, [], 0, hj n1 (by show (newJ 4194304).r.L.length ≤ 64; omega), newJ_grows 4194304, OwnT.nil _ _ _, rfl, Nat.zero_le _, by show (newJ 4194304).r.L.length ≤ 64; omega, Nat.zero_le _, Nat.zero_le _, fun _ => ⟨hb.on, by show usedL (newJ 4194304).r.L ≤ _; omega, n4⟩⟩
  · obtain ⟨c1, b1, g1, l1, x1, v1, m1, u1, k1⟩ := (newJ_grows 4194304).compact_on hb hb.on (p := s.data.toList) (by omega) (name_ok (.inr rfl) (by show 0 + 1 < _; decide)) (by omega) (by rw [n3, n4]; omega)
    have hlen : (compactJ (newJ 4194304) s.data.toList).1.r.L.length = 1 := count_names b1.rok (by simp) k1
    have e5 : (compactJ (newJ 4194304) s.data.toList).1 = ⟨(compactJ (newJ 4194304) s.data.toList).1.r, 1, false⟩ := by
      have : (compactJ (newJ 4194304) s.data.toList).1 = ⟨(compactJ (newJ 4194304) s.data.toList).1.r, (compactJ (newJ 4194304) s.data.toList).1.last, (compactJ (newJ 4194304) s.data.toList).1.wr⟩ := rfl
      rw [l1, x1] at this
      exact this
    have g0 : Grows (compactJ (newJ 4194304) s.data.toList).1.r 1 (compactJ (newJ 4194304) s.data.toList).1 [] 0 := by
      have := Grows.start (r0 := (compactJ (newJ 4194304) s.data.toList).1.r) (l0 := 1) b1 g1
      rw [← e5] at this
      exact this
    refine ⟨0, _, 1, by rw [c1], .inl ⟨rfl, by omega, congrArg Prod.fst v1⟩, b1, Nat.le_refl _, congrArg Prod.snd v1, own', _, [], 0, hj g1 (by omega), g0, OwnT.nil _ _ _, rfl, Nat.zero_le _, by omega, by rw [l1]; exact Nat.le_refl _, Nat.zero_le _, fun _ => ⟨b1.on, by omega, m1.trans n4⟩⟩

theorem RowJ.syncs (h : RowJ True r0 l0 [] w0 wr jb db fb gb A K U v sc rs) (hb : Base r0 l0) (hA : A ≤ 1000000) (hK : l0 + K ≤ 1000) :
    Calls Tryz.prog 25 #[.pointer (some ⟨jb, 0, none⟩)] wr fun e w' => ∃ c, e = .returned (.int .i64 c) ∧ Hid (PicS r0 l0 w0 w' jb db fb gb (A + 1) v rs) := by
  obtain ⟨own, j, ls, sy, h1, h2, h3, h4, h5, h6, h7, h8, h9⟩ := h
  obtain ⟨o1, _, _⟩ := h9 trivial
  refine (h1.sync (by omega)).mono ?_
  rintro e w' ⟨rfl, own', k1, st⟩
  refine ⟨_, rfl, own', _, ls, _, k1, h2.synced hb o1.isOff, h3.step st, h4, settled_sync o1.isOff, (sync_on o1).2.1.1, by show j.last ≤ _; omega⟩

theorem PicS.fuse (h : PicS r0 l0 w0 wr jb db fb gb A v rs) {y : Int} (hy : -9223372036854775808 ≤ y ∧ y ≤ 9223372036854775807) :
    Calls Tryz.prog 19 #[.pointer (some ⟨db, 0, none⟩), .int .i64 y] wr fun e w' => e = .returned (.tuple #[]) ∧ Hid (PicS r0 l0 w0 w' jb db fb gb A v rs) := by
  obtain ⟨own, j, ls, sy, h1, h2, h3, h4, h5, h6, h7⟩ := h
  refine (h1.fuse hy).mono ?_
  rintro e w' ⟨rfl, k1, st⟩
  exact ⟨rfl, own, _, ls, sy, k1, h2.fuse y, h3.step st, h4, h5, h6, h7⟩

theorem PicS.compact (h : PicS r0 l0 w0 wr jb db fb gb A v rs) (hb : Base r0 l0) (hr : recsR r0 (behindL r0 (lastP r0).1) = []) (hA : A ≤ 1000000) {s : ByteArray} (hs : s.size ≤ maxLen) :
    Calls Tryz.prog 27 #[.pointer (some ⟨jb, 0, none⟩), .string s] wr fun e w' => ∃ c, e = .returned (.int .i64 c) ∧ Hid (PicC r0 w0 w' db fb gb (A + 300) v rs s.data.toList c) := by
  obtain ⟨own, j, ls, sy, h1, h2, h3, h4, h5, h6, h7⟩ := h
  refine (h1.compact (by omega) (by omega) hs).mono ?_
  rintro e w' ⟨rfl, own', _, hd, hv, ha, st⟩
  have hlow : Step (fun _ => none) own' w0 w' := by
    have hst := h1.st.trans st
    exact ⟨hst.fr, fun b hb e => (jo_none.1 (hst.own b hb e)).2⟩
  refine ⟨_, rfl, own', _, hd, hv, hlow, (h3.step st).unjo, ha, fun ks L' hc => ?_⟩
  rcases h2.compact_crash hb h5 h6 s.data.toList hc with ⟨k1, k2⟩ | ⟨k1, k2⟩
  · exact .inl ⟨k1, _, Nat.succ_pos _, k2⟩
  · refine .inr ⟨k1, ?_⟩
    rw [k2, h2.view hb h6, hr, h4]
    rfl

theorem PicC.crash {p : List UInt8} {c : Int} (h : PicC r0 w0 wr db fb gb A v rs p c) {kv : Value} {ks : List (ByteArray × Int)} (hk : ∀ own, Step (fun _ => none) own w0 wr → KArg wr own kv ks) (hkl : ks.length ≤ 1000000000000) :
    Calls Tryz.prog 21 #[.pointer (some ⟨db, 0, none⟩), kv] wr fun e w' => e = .returned (.tuple #[]) ∧ ∃ r, Hid (PicK r0 w0 w' db fb gb A v rs p c r) := by
  obtain ⟨own, r, h1, h2, h3, h4, h5, h6⟩ := h
  refine (h1.crash (by omega) (hk own h3) hkl).mono ?_
  rintro e w' ⟨rfl, own', L', hc, hd, st⟩
  exact ⟨rfl, _, own', hd, h2.step st, h3.trans st, h4.step st, h5, On.crash _ _, h6 ks L' hc⟩

theorem PicK.opens {p : List UInt8} {c : Int} (h : PicK r0 w0 wr db fb gb A v rs p c r) (hA : A ≤ 1000000) :
    Calls Tryz.prog 15 #[.pointer (some ⟨db, 0, none⟩)] wr fun e w' => ∃ jb own' ra rc, e = .returned (.tuple #[.pointer (some ⟨jb, 0, none⟩), .string (strB (lastP r).2), .bool (decide (0 < (lastP r).1)), .slice ra (viewR r).2.length rc, .int .i64 0]) ∧
      Below w0.heap.size w0 w' ∧ OwnT w0.heap.size w' own' v rs ∧ OwnT wr.heap.size w' own' (.slice ra (viewR r).2.length rc) (viewR r).2 := by
  obtain ⟨own, h1, h2, h3, h4, h5, h6, h7⟩ := h
  have hlen := h1.len_le
  have k1 := leave_actsW r
  have hrok := h1.rok
  refine (open_up h1 h2 (by omega) h6.1 (by omega) (by omega)).mono ?_
  intro e w' hp
  rcases hp with ⟨_, jb, own', ra, rc, rfl, hd, hj, st, ht, hne⟩ | ⟨h0, _⟩
  · have hv : recsR (openS r).1 (behindL r (lastP r).1) = (viewR r).2 := recs_open h6 hrok
    rw [hv] at ht ⊢
    exact ⟨jb, own', ra, rc, rfl, step_low (h3.trans st), h4.step st, ht⟩
  · exact absurd (openS_on h6 hrok).1 h0
end

end Go.Proofs.YtdpbnacabinlgaaGreatDoor

/- Append of a device, in each of its cases. -/
import Derived.Test.YtgkhnimdlkdaaaaD8
import Derived.IntWalk
namespace Go.Proofs.Ytgkhnimdlkdaaaa
open Go.RowKit Go.Lib Go.Maps

/-- What holds asks. -/
def holdsI (sz : Nat) (fo : Option FileM) (l : Nat) : Bool :=
  match fo with
  | none => decide (sz < 64) && decide (l ≤ 262144)
  | some f => decide (l + f.data.length ≤ 262144)

/-- What Append answers, and what the device is then; sz: how many files there are; used: how many bytes they have. -/
def appendM (m : DevM) (sz used : Nat) (k bs : List UInt8) : DevM × Int :=
  if (m.down || m.fuse == 0) = true then ({ m with down := true }, 13)
  else if nameOk k = false then ({ m with down := false }, 1)
  else if holdsI sz (m.files k) bs.length = false then ({ m with down := false }, 2)
  else if m.room < used + bs.length then ({ m with down := false }, 11)
  else
    let f := (m.files k).getD ⟨[], 0, true⟩
    ({ m with down := false, acts := m.acts + 1, fuse := fuseLess m.fuse, files := setF m.files k (some ⟨f.data ++ bs, f.synced, f.fresh⟩) }, 0)

section
variable {S : Prop} {w w' : World} {own own' : Owner} {db fb rb : Nat} {D D' E : DataW Unit} {n n' : Nat} {m : DevM}

theorem Dev.holds (h : Dev S w own db fb rb D E n m) {s : ByteArray} (hs : s.size ≤ maxLen) (l : Nat) :
    Calls Try.prog 44 #[.pointer (some ⟨db, 0, none⟩), .string s, .int .i64 l] w fun e w' => e = .returned (.bool (holdsI (Maps.size D) (m.files s.data.toList) l)) ∧ w = w' := by
  cases hf : m.files s.data.toList with
  | none =>
    have h1 := h.holds_none hs hf l
    have e1 : (decide ((Maps.size D : Int) < 64) && decide ((l : Int) ≤ 262144)) = holdsI (Maps.size D) none l := by
      simp only [holdsI]
      congr 1 <;> simp <;> omega
    rwa [e1] at h1
  | some f =>
    have h1 := h.holds_some hs hf l
    have e1 : decide ((l : Int) ≤ 262144 - f.data.length) = holdsI (Maps.size D) (some f) l := by
      simp only [holdsI, decide_eq_decide]
      omega
    rwa [e1] at h1

/-- Used, called in a world that is the device's but for a draw. -/
theorem Dev.used_at (h : Dev S w own db fb rb D E n m) (hn : n ≤ 1099511627776) {W : World} (hW : W.heap = w.heap) (hWo : W.os = w.os ∧ W.tape = w.tape ∧ W.output = w.output) :
    Calls Try.prog 31 #[.pointer (some ⟨db, 0, none⟩)] W fun e w' => e = .returned (.int .i64 (usedD D m.files)) ∧ Dev S w' own db fb rb D E n m ∧ Step own own w w' ∧ w'.cell? ⟨db, 0, none⟩ = some (.int .i64 m.room) := by
  have hWd : Dev S W own db fb rb D E n m := h.kept (by rw [hW]; exact Nat.le_refl _) (fun b _ => by rw [hW])
  refine (hWd.used hn).mono ?_
  rintro e w' ⟨rfl, hb⟩
  have hst : Step own own w w' := Step.of_fr ⟨hb.os.trans hWo.1, hb.tape.trans hWo.2.1, hb.output.trans hWo.2.2, by have := hb.size; rw [hW] at this; exact this, fun k hk _ => by rw [hb.block k (by rw [hW]; exact hk), hW]⟩
  have hd : Dev S w' own db fb rb D E n m := h.kept hst.fr.size (fun b hb' => by rw [hb.block b (by rw [hW]; exact h.lt hb'), hW])
  exact ⟨rfl, hd, hst, hd.c0⟩

theorem Dev.used_le (h : Dev S w own db fb rb D E n m) (hn : n ≤ 1099511627776) : usedD D m.files ≤ 288230376151711744 := by
  obtain ⟨c, hc⟩ := h.fmap
  obtain ⟨es, rfl, _, _⟩ := hc.entries lawS
  have hcnt : es.length ≤ n := by have := h.cnt; simp [Maps.size] at this; omega
  have h1 := sumL_le (flen m.files) 262144 (flen_le m.files) es
  have h2 : es.length * 262144 ≤ 1099511627776 * 262144 := Nat.mul_le_mul_right _ (Nat.le_trans hcnt hn)
  simp only [usedD, entsOf]
  omega

set_option maxHeartbeats 400000 in
set_option maxRecDepth 100000 in
theorem Dev.append_down (h : Dev S w own db fb rb D E n m) (hd : (m.down || m.fuse == 0) = true) (s : ByteArray) (bv : Value) :
    Calls Try.prog 16 #[.pointer (some ⟨db, 0, none⟩), .string s, bv] w fun e w' => e = .returned (.int .i64 13) ∧ Dev S w' own db fb rb D E n { m with down := true } ∧ Step own own w w' := by
  have hpl := h.powerless
  rw [hd] at hpl
  clear hd h
  go_enter Try.func16, Try.ntmps16
  go_wp2_with fail
  refine hpl.mono ?_
  rintro e w1 ⟨rfl, h1, st1⟩
  go_wp2_with fail
  go_ret
  exact ⟨rfl, h1, st1⟩

set_option maxHeartbeats 400000 in
set_option maxRecDepth 100000 in
theorem Dev.append_bad (h : Dev S w own db fb rb D E n m) (hd : (m.down || m.fuse == 0) = false) {s : ByteArray} (hs : s.size ≤ maxLen) (hn : nameOk s.data.toList = false) (bv : Value) :
    Calls Try.prog 16 #[.pointer (some ⟨db, 0, none⟩), .string s, bv] w fun e w' => e = .returned (.int .i64 1) ∧ Dev S w' own db fb rb D E n { m with down := false } ∧ Step own own w w' := by
  have hpl := h.powerless
  rw [hd] at hpl
  have hnm := fun w => isName_calls s w hs
  rw [hn] at hnm
  clear hd h hn
  go_enter Try.func16, Try.ntmps16
  go_wp2_with fail
  refine hpl.mono ?_
  rintro e w1 ⟨rfl, h1, st1⟩
  go_wp2_with fail
  refine (hnm _).mono ?_
  rintro e w2 ⟨rfl, rfl⟩
  go_wp2_with fail
  go_ret
  exact ⟨rfl, h1, st1⟩

set_option maxHeartbeats 400000 in
set_option maxRecDepth 100000 in
theorem Dev.append_many (h : Dev S w own db fb rb D E n m) (hd : (m.down || m.fuse == 0) = false) {s : ByteArray} (hs : s.size ≤ maxLen) (hn : nameOk s.data.toList = true) {a : Option Addr} {c l : Nat} (hh : holdsI (Maps.size D) (m.files s.data.toList) l = false) :
    Calls Try.prog 16 #[.pointer (some ⟨db, 0, none⟩), .string s, .slice a l c] w fun e w' => e = .returned (.int .i64 2) ∧ Dev S w' own db fb rb D E n { m with down := false } ∧ Step own own w w' := by
  have hpl := h.powerless
  rw [hd] at hpl
  have hnm := fun w => isName_calls s w hs
  rw [hn] at hnm
  have Hh := Lib.hid hh
  clear hd h hn hh
  go_enter Try.func16, Try.ntmps16
  go_wp2_with fail
  refine hpl.mono ?_
  rintro e w1 ⟨rfl, h1, st1⟩
  go_wp2_with fail
  refine (hnm _).mono ?_
  rintro e w2 ⟨rfl, rfl⟩
  have hho := h1.holds hs l
  rw [show holdsI (Maps.size D) _ l = false from Hh.out] at hho
  go_wp2_with fail
  refine hho.mono ?_
  rintro e w2 ⟨rfl, rfl⟩
  go_wp2_with fail
  go_ret
  exact ⟨rfl, h1, st1⟩

set_option maxHeartbeats 1000000 in
set_option maxRecDepth 100000 in
theorem Dev.append_full (h : Dev S w own db fb rb D E n m) (hcn : n ≤ 1099511627776) (hd : (m.down || m.fuse == 0) = false) {s : ByteArray} (hs : s.size ≤ maxLen) (hn : nameOk s.data.toList = true) {a : Option Addr} {c l : Nat} (hl : l ≤ 262144) (hh : holdsI (Maps.size D) (m.files s.data.toList) l = true)
    (hu : m.room < usedD D m.files + l) :
    Calls Try.prog 16 #[.pointer (some ⟨db, 0, none⟩), .string s, .slice a l c] w fun e w' => e = .returned (.int .i64 11) ∧ Dev S w' own db fb rb D E n { m with down := false } ∧ Step own own w w' := by
  have hpl := h.powerless
  rw [hd] at hpl
  have hnm := fun w => isName_calls s w hs
  rw [hn] at hnm
  have Hh := Lib.hid hh
  have hU := h.used_le hcn
  have hr1 := h.rroom.1
  have hr2 := h.rroom.2
  clear hd h hn hh
  obtain ⟨U, hUe⟩ : ∃ U, U = usedD D m.files := ⟨_, rfl⟩
  rw [← hUe] at hU hu
  have HU := Lib.hid hUe
  clear hUe
  go_enter Try.func16, Try.ntmps16
  go_wp2_with fail
  refine hpl.mono ?_
  rintro e w1 ⟨rfl, h1, st1⟩
  go_wp2_with fail
  refine (hnm _).mono ?_
  rintro e w2 ⟨rfl, rfl⟩
  have hho := h1.holds hs l
  rw [show holdsI (Maps.size D) _ l = true from Hh.out] at hho
  go_wp2_with fail
  refine hho.mono ?_
  rintro e w2 ⟨rfl, rfl⟩
  clear hho
  have c0 := h1.c0
  have hus := fun W hW hWo => h1.used_at hcn (W := W) hW hWo
  rw [show usedD D _ = U from HU.out.symm] at hus
  have hw : IntKind.i64.wrap ((U : Int) + (l : Int)) = (U : Int) + (l : Int) := IntWalk.i64_in _ (by omega)
  go_wp2_with fail
  go_region_with (go_at_call 31; refine (hus _ ?_ ?_).mono ?_; exact rfl; exact ⟨rfl, rfl, rfl⟩; rintro e w2 ⟨rfl, h2, st2, c0'⟩)
  all_goals
    clear hw
    go_wp2_with fail
    go_ret
    exact ⟨rfl, h2, st1.trans st2⟩

set_option maxHeartbeats 1000000 in
set_option maxRecDepth 100000 in
theorem Dev.append_ok (h : Dev S w own db fb rb D E n m) (hcn : n ≤ 1000000000000) (ha : m.acts ≤ 1000000000000) (hd : (m.down || m.fuse == 0) = false) {s : ByteArray} (hn : nameOk s.data.toList = true) {bv : Value} {bs : List UInt8} (hbv : BArg w own bv bs)
    (hh : holdsI (Maps.size D) (m.files s.data.toList) bs.length = true) (hu : usedD D m.files + bs.length ≤ m.room) :
    Calls Try.prog 16 #[.pointer (some ⟨db, 0, none⟩), .string s, bv] w fun e w' => e = .returned (.int .i64 0) ∧ ∃ own' D', Dev S w' own' db fb rb D' E (n + 1) { m with down := false, acts := m.acts + 1, fuse := fuseLess m.fuse, files := setF m.files s.data.toList (some ⟨((m.files s.data.toList).getD ⟨[], 0, true⟩).data ++ bs, ((m.files s.data.toList).getD ⟨[], 0, true⟩).synced, ((m.files s.data.toList).getD ⟨[], 0, true⟩).fresh⟩) } ∧ Step own own' w w' := by
  have hlen := (nameOk_len hn).2
  have hsz : s.size ≤ 20 := by simpa using hlen
  have hs : s.size ≤ maxLen := by unfold maxLen; omega
  have hs48 : Hid (s.size ≤ 281474976710656) := (by omega : s.size ≤ 281474976710656)
  have hl : ((m.files s.data.toList).getD ⟨[], 0, true⟩).data.length + bs.length ≤ 262144 := by
    cases hf : m.files s.data.toList with
    | none => simp [hf, holdsI] at hh; simpa using hh.2
    | some f => simp [hf, holdsI] at hh; simp; omega
  have hpl := h.powerless
  rw [hd] at hpl
  have hnm := fun w => isName_calls s w hs
  rw [hn] at hnm
  have Hh := Lib.hid hh
  have hU := h.used_le (by omega)
  have hr1 := h.rroom.1
  have hr2 := h.rroom.2
  clear hd h hn hh hlen
  obtain ⟨U, hUe⟩ : ∃ U, U = usedD D m.files := ⟨_, rfl⟩
  rw [← hUe] at hU hu
  have HU := Lib.hid hUe
  clear hUe
  obtain ⟨a, c, hbe⟩ := hbv.len
  have HB : Hid (BArg w own bv bs) := hbv
  have Hl := Lib.hid hl
  have hl2 : bs.length ≤ 262144 := by omega
  clear hbv hl
  subst hbe
  go_enter Try.func16, Try.ntmps16
  go_wp2_with fail
  refine hpl.mono ?_
  rintro e w1 ⟨rfl, h1, st1⟩
  go_wp2_with fail
  refine (hnm _).mono ?_
  rintro e w2 ⟨rfl, rfl⟩
  have hho := h1.holds hs bs.length
  rw [show holdsI (Maps.size D) _ bs.length = true from Hh.out] at hho
  go_wp2_with fail
  refine hho.mono ?_
  rintro e w2 ⟨rfl, rfl⟩
  clear hho
  have c0 := h1.c0
  have hus := fun W hW hWo => h1.used_at (by omega) (W := W) hW hWo
  rw [show usedD D _ = U from HU.out.symm] at hus
  have hw : IntKind.i64.wrap ((U : Int) + (bs.length : Int)) = (U : Int) + (bs.length : Int) := IntWalk.i64_in _ (by omega)
  go_wp2_with fail
  go_region_with (go_at_call 31; refine (hus _ ?_ ?_).mono ?_; exact rfl; exact ⟨rfl, rfl, rfl⟩; rintro e w2 ⟨rfl, h2, st2, c0'⟩)
  all_goals
    clear hw
    go_wp2_with fail
    refine (h2.file (by omega) hs48.out).mono ?_
    rintro e w3 ⟨own3, D3, p, dv, f, rfl, h3, hfe, hat, hfa, hp, hg, st3⟩
    have p0 : w3.cell? ⟨p, 0, none⟩ = some dv := cell_of_blk hfa.1 rfl
    have HB3 : Hid (BArg w3 own3 (.slice a bs.length c) bs) := ((HB.out.step st1).step st2).step st3
    have HF : Hid (f = (m.files s.data.toList).getD ⟨[], 0, true⟩ ∧ FileAt w3 p dv f ∧ own3 p = some (3, s.data.toList) ∧ ∀ g, dv.ownBlock = some g → own3 g = some (4, s.data.toList)) := ⟨hfe, hfa, hp, hg⟩
    have Hat := Lib.hid hat
    clear hfe hfa hp hg hat
    go_wp2_with (first
      | (at_builtin; refine wpList_append_barg rfl (.tmp 36) (.tmp 37) rfl HB3.out HF.out.2.1.2.1 (by have := Hl.out; rw [← HF.out.1] at this; omega) rfl rfl ?_; intro a' l' c' w4 hrow hgr hv; have p4 : w4.cell? ⟨p, 0, none⟩ = some dv := hgr.cell p0 (fun e => by have h5 := HF.out.2.2.2 p e.symm; rw [HF.out.2.2.1] at h5; simp at h5); have q4 : w4.frozen? ⟨p, 0, none⟩ = false := frozen_of_blk ((hgr.block p (h3.lt (by simp [HF.out.2.2.1])) (fun e => by have h5 := HF.out.2.2.2 p e.symm; rw [HF.out.2.2.1] at h5; simp at h5)).trans HF.out.2.1.1))
      | fail)
    obtain ⟨own5, h5, st5⟩ := h3.appended Hat.out HF.out.2.1 HF.out.2.2.1 HF.out.2.2.2 hrow hgr hv (by have := Hl.out; rw [← HF.out.1] at this; exact this)
    refine (h5.done (by simp only; omega)).mono ?_
    rintro e w6 ⟨rfl, h6, st6⟩
    go_wp2_with fail
    go_ret
    refine ⟨rfl, own5, D3, ?_, (((st1.trans st2).trans st3).trans st5).trans st6⟩
    have e1 := HF.out.1
    simp only [setF_twice] at h6
    rw [e1] at h6
    exact h6

end
end Go.Proofs.Ytgkhnimdlkdaaaa

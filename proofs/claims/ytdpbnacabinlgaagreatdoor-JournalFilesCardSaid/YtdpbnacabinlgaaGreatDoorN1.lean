/- JournalFiles holds: for every list of records, every picture, and whether it is compacted, the call returns true, and each argument reads behind it as it did. Condition: the library's package-level variables that are listed are laid as its text lays them (the tie is given). -/
import Derived.Test.YtdpbnacabinlgaaGreatDoorMI
import Derived.Lib.MinMax
namespace Go.Proofs.YtdpbnacabinlgaaGreatDoor
open Go.RowKit Go.Lib Go.Maps Go.ChangeMaps Go.Sort Go.Shelf

/-- What digits say. -/
def valD (l : List UInt8) : Nat := l.foldl (fun a c => 10 * a + (c.toNat - 48)) 0
theorem valD_snoc (l : List UInt8) (c : UInt8) : valD (l ++ [c]) = 10 * valD l + (c.toNat - 48) := by simp [valD]
theorem valD_dec : ∀ n : Nat, valD (decDigits n) = n := by
  intro n
  induction n using Nat.strongRecOn with
  | ind n ih =>
    rw [decDigits]
    split
    · rename_i h
      show 10 * 0 + ((UInt8.ofNat (48 + n)).toNat - 48) = n
      rw [digit_toNat h]
      omega
    · rw [valD_snoc, ih (n / 10) (by omega), digit_toNat (Nat.mod_lt _ (by omega))]
      omega
theorem valD_lt : ∀ l : List UInt8, (∀ c ∈ l, 48 ≤ c.toNat ∧ c.toNat ≤ 57) → valD l < 10 ^ l.length := by
  intro l
  induction h : l.length generalizing l with
  | zero => intro _; rw [List.eq_nil_of_length_eq_zero h]; decide
  | succ k ih =>
    intro hd
    rcases List.eq_nil_or_concat l with rfl | ⟨l', c, rfl⟩
    · simp at h
    · rw [List.concat_eq_append] at h hd ⊢
      have h1 := ih l' (by simpa using h) (fun x hx => hd x (List.mem_append_left _ hx))
      have h2 := hd c (by simp)
      rw [valD_snoc, Nat.pow_succ]
      omega
theorem head_dec : ∀ n : Nat, 1 ≤ n → ∃ c r, decDigits n = c :: r ∧ 49 ≤ c.toNat := by
  intro n
  induction n using Nat.strongRecOn with
  | ind n ih =>
    intro h1
    rw [decDigits]
    split
    · rename_i h
      exact ⟨_, [], rfl, by rw [digit_toNat h]; omega⟩
    · obtain ⟨c, r, h2, h3⟩ := ih (n / 10) (by omega) (by omega)
      exact ⟨c, r ++ [UInt8.ofNat (48 + n % 10)], by rw [h2]; rfl, h3⟩

theorem strn_upto (W : World) (s : ByteArray) (k : Nat) (hk : k ≤ s.size) : (Instr.slice 9 (.string s) none (some (.int .i64 k)) none).run Tryz.prog W = .ok (.string ⟨(s.data.toList.take k).toArray⟩) W := by
  rw [run_slice_string_h (P := Tryz.prog) W 9 s Tryz.underlying9 .i64 (k : Int) (by omega) (by omega)]
  congr 2
  exact ByteArray.ext (Array.ext' (by simp))

set_option maxHeartbeats 4000000 in
set_option maxRecDepth 100000 in
theorem rnumber_right {s m : ByteArray} {ds : List UInt8} (hs : s.data.toList = m.data.toList ++ ds) (hd : ∀ c ∈ ds, 48 ≤ c.toNat ∧ c.toNat ≤ 57) (hl : ds.length ≤ 17) (hm : m.size ≤ 100) {c0 : UInt8} {r0 : List UInt8} (h0 : ds = c0 :: r0) (hc0 : 49 ≤ c0.toNat) (w : World) :
    Calls Tryz.prog 32 #[.string s, .string m] w fun e w' => e = .returned (.int .i64 (valD ds)) ∧ w' = w := by
  have hsz : s.size = m.size + ds.length := by
    have := congrArg List.length hs
    simpa using this
  have hdl : 0 < ds.length := by rw [h0]; simp
  have hb : ∀ k (hk : k < ds.length), s[m.size + k]'(by omega) = ds[k] := fun k hk => by
    have h1 : s.data.toList[m.size + k]? = ds[k]? := by rw [hs, List.getElem?_append_right (by simp)]; simp
    rw [List.getElem?_eq_getElem (by simp; omega), List.getElem?_eq_getElem hk] at h1
    injection h1 with h1
  have htk : (⟨(s.data.toList.take m.size).toArray⟩ : ByteArray) = m := by
    rw [hs, List.take_left' (by simp)]
  have hsl : (Instr.slice 9 (.string s) none (some (.int .i64 m.size)) none).run Tryz.prog w = .ok (.string m) w := by
    rw [strn_upto w s m.size (by omega), htk]
  have hne : ((m.toList != m.toList)) = false := by simp
  have hfirst : 49 ≤ (s[m.size]'(by omega)).toNat := by
    have h1 := hb 0 hdl
    simp only [Nat.add_zero] at h1
    rw [h1]
    simp only [h0, List.getElem_cons_zero]
    exact hc0
  have hle : decide ((s.size : Int) ≤ (m.size : Int)) = false := by simp; omega
  have hf2 : decide (((s[m.size]'(by omega)).toNat : Int) = 48) = false := by simp; omega
  have h10 : ∀ k, k ≤ ds.length → valD (ds.take k) < 10 ^ 17 := fun k hk => by
    have h1 := valD_lt (ds.take k) (fun c hc => hd c (List.mem_of_mem_take hc))
    refine Nat.lt_of_lt_of_le h1 (Nat.pow_le_pow_right (by decide) ?_)
    rw [List.length_take]; omega
  obtain ⟨Q, hQ⟩ : ∃ Q, m.size = Q := ⟨_, rfl⟩
  obtain ⟨L, hL⟩ : ∃ L, ds.length = L := ⟨_, rfl⟩
  have HF : Hid (∀ k, k < L → ∃ c, ∃ h : Q + k < s.size, s[Q + k]'h = c ∧ 48 ≤ c.toNat ∧ c.toNat ≤ 57 ∧ valD (ds.take (k + 1)) = 10 * valD (ds.take k) + (c.toNat - 48) ∧ valD (ds.take (k + 1)) < 10 ^ 17) := fun k hk => by
    have hk' : k < ds.length := by omega
    refine ⟨ds[k], by omega, ?_, (hd _ (List.getElem_mem hk')).1, (hd _ (List.getElem_mem hk')).2, ?_, h10 _ (by omega)⟩
    · have := hb k hk'
      simp only [hQ] at this
      exact this
    · rw [List.take_succ_eq_append_getElem hk', valD_snoc]
  have HL : Hid (ds.take L = ds) := by show _ = _; rw [← hL]; exact List.take_length
  rw [hQ] at hsz hsl hle
  rw [hL] at hsz hl
  simp only [hQ] at hf2 hfirst
  have hS1 : s.size ≤ 200 := by omega
  have hle2 : decide ((Q : Int) + (L : Int) ≤ (Q : Int)) = false := by simp; omega
  have hf3 : (((s[Q]'(by omega)).toNat : Int) == 48) = false := by rw [beq_eq_false_iff_ne]; omega
  clear h10 hb hd hs h0 hc0
  go_enter Tryz.func32, Tryz.ntmps32
  go_wp2_with fail
  go_loopw [5, 6] (fun v i wr => ∃ k : Nat, k ≤ L ∧ wr = w ∧ v = .int .i64 (valD (ds.take k)) ∧ i = .int .i64 (Q + k : Nat)) (fun _ i _ => s.size - (intOf i).toNat)
  case atStart => exact ⟨0, Nat.zero_le _, rfl, rfl, rfl⟩
  case round =>
    obtain ⟨k, hk, rfl, rfl, rfl⟩ := hrel
    by_cases hlt : k < L
    · obtain ⟨c, hcs, hce, hc1, hc2, hv1, hv2⟩ := HF.out k hlt
      have g1 : decide ((c.toNat : Int) < 48) = false := by simp; omega
      have g2 : decide ((57 : Int) < (c.toNat : Int)) = false := by simp; omega
      obtain ⟨V, hV⟩ : ∃ V, valD (ds.take k) = V := ⟨_, rfl⟩
      rw [hV] at hv1 ⊢
      rw [hv1] at hv2
      go_wp2_with fail
      have e1 : (10 : Int) * (V : Int) + ((c.toNat : Int) - 48) = ((valD (ds.take (k + 1)) : Nat) : Int) := by rw [hv1]; omega
      refine ⟨⟨k + 1, by omega, trivial, by rw [e1], by congr 1⟩, ?_⟩
      simp only [intOf]
      omega
    · obtain rfl : k = L := by omega
      rw [HL.out]
      go_wp2_with fail
      go_ret
      exact ⟨rfl, rfl⟩

end Go.Proofs.YtdpbnacabinlgaaGreatDoor
namespace Go.Proofs.YtdpbnacabinlgaaGreatDoor
open Go.RowKit Go.Lib Go.Maps Go.ChangeMaps Go.Sort Go.Shelf

/-- A journal on a new device, behind q adds or fewer. -/
def AddJ (w0 wr : World) (jb db fb gb q : Nat) : Prop := ∃ own j ls sy, JW w0 wr own jb db fb gb (201 + 2 * q) j ∧ Grows (newJ 4194304).r 0 j ls sy ∧ j.r.L.length ≤ 64 ∧ j.last ≤ q ∧ On j.r ∧ usedL j.r.L ≤ 40005 * q ∧ j.r.room = 4194304

section
variable {w0 wr w' : World} {jb db fb gb q : Nat} {own : Owner}
theorem AddJ.low (h : AddJ w0 wr jb db fb gb q) : Below w0.heap.size w0 wr := by
  obtain ⟨own, j, ls, sy, h1, _⟩ := h
  exact step_low h1.st
theorem AddJ.below (h : AddJ w0 wr jb db fb gb q) (hb : Below wr.heap.size wr w') : AddJ w0 w' jb db fb gb q := by
  obtain ⟨own, j, ls, sy, h1, h2⟩ := h
  exact ⟨own, j, ls, sy, h1.below hb, h2⟩
theorem AddJ.start (h : JW w0 wr own jb db fb gb 201 (newJ 4194304)) : AddJ w0 wr jb db fb gb 0 := by
  obtain ⟨p1, p2, p3, p4, p5, p6⟩ := newJ_facts 4194304
  exact ⟨own, _, [], 0, h, newJ_grows _, by omega, Nat.le_refl _, (newJ_base _).on, by omega, p4⟩
theorem AddJ.add (h : AddJ w0 wr jb db fb gb q) (hq : q ≤ 1000) {s : ByteArray} (hs : s.size ≤ 40000) :
    Calls Tryz.prog 23 #[.pointer (some ⟨jb, 0, none⟩), .string s] wr fun e w' => (∃ c, e = .returned (.int .i64 c)) ∧ Hid (AddJ w0 w' jb db fb gb (q + 1)) := by
  obtain ⟨own, j, ls, sy, h1, h2, h6, h7, h8, h9, h10⟩ := h
  refine (h1.add (by omega) h6 h2.gone (by omega) (s := s) (by unfold maxLen; omega)).mono ?_
  rintro e w' ⟨rfl, own', k1, st⟩
  obtain ⟨f1, f2, f3, f4⟩ := add_few h6 h2.gone s.data.toList
  obtain ⟨p1, p2, p3, _⟩ := add_on h8 s.data.toList
  have hsz : s.data.toList.length = s.size := by simp
  refine ⟨⟨_, rfl⟩, ?_⟩
  rcases h2.add (newJ_base 4194304) s.data.toList with ⟨hc, hr, ls', sy', g1, g2, g3, _⟩ | ⟨hc, sy', g1, g3⟩
  · exact ⟨own', _, ls', sy', k1, g1, f1, by omega, p1, by omega, p2.trans h10⟩
  · exact ⟨own', _, ls, sy', k1, g1, f1, by omega, p1, by omega, p2.trans h10⟩
end

section
variable {j : JM} {ls : List (List (List UInt8))} {sy : Nat}
theorem newJ_look (k : List UInt8) : look (newJ 4194304).r k = none := by
  obtain ⟨_, p2, _⟩ := newJ_facts 4194304
  unfold look
  rw [List.eq_nil_of_length_eq_zero p2]
  rfl
theorem Grows.names1 (h : Grows (newJ 4194304).r 0 j ls sy) (k : List UInt8) : (look j.r k).isSome = true ↔ k ∈ (List.range ls.length).map (fun i => numName logM (0 + 1 + i)) := by
  constructor
  · intro h1
    refine Classical.byContradiction fun h2 => ?_
    rw [h.old k (fun i hi e => h2 (List.mem_map.2 ⟨i, List.mem_range.2 hi, e.symm⟩)), newJ_look] at h1
    cases h1
  · intro h1
    obtain ⟨i, hi, rfl⟩ := List.mem_map.1 h1
    obtain ⟨x, hx, _⟩ := h.new i _ (List.getElem?_eq_getElem (List.mem_range.1 hi))
    rw [hx]
    rfl
theorem Grows.count1 (h : Grows (newJ 4194304).r 0 j ls sy) : j.r.L.length = ls.length := by
  have h1 := count_names h.rok (ns := (List.range ls.length).map (fun i => numName logM (0 + 1 + i))) (List.nodup_range.map _ (fun a b hab e => hab (by have := numName_inj e; omega))) h.names1
  simpa using h1
/-- What is read of a file that is there. -/
theorem read_look {r : RDm} (hk : NamesOk r) (ho : r.off = false) {k : List UInt8} {x : FileM} (hx : look r k = some x) : readR r k = (x.data, 0) := by
  have h1 := look_ok hk hx
  unfold look at hx
  unfold readR
  rw [ho, h1]
  cases hl : r.L.find? (fun f => f.nm == k) with
  | none => rw [hl] at hx; cases hx
  | some f =>
    rw [hl] at hx
    injection hx with hx
    subst hx
    rfl
theorem Grows.file (h : Grows (newJ 4194304).r 0 j ls sy) (ho : j.r.off = false) {i : Nat} {nm : List UInt8} (hi : (j.r.L.map RF.nm)[i]? = some nm) :
    ∃ n l, 1 ≤ n ∧ n ≤ j.r.L.length ∧ nm = numName logM n ∧ readR j.r nm = (allB l, 0) ∧ cutB (allB l) = l ∧ cutN (allB l) = (allB l).length ∧ (l.length = 1 ∨ (allB l).length ≤ 1024) := by
  have h1 := (h.names1 nm).1 (look_mem.2 (List.mem_of_getElem? hi))
  obtain ⟨m, hm, rfl⟩ := List.mem_map.1 h1
  have hm := List.mem_range.1 hm
  obtain ⟨x, hx, hd, _⟩ := h.new m _ (List.getElem?_eq_getElem hm)
  obtain ⟨_, h2, h3⟩ := h.ok _ (List.getElem_mem hm)
  have hc : cutB (allB ls[m]) = ls[m] := by rw [cutB_all', okR_id h2]
  refine ⟨0 + 1 + m, ls[m], by omega, by rw [h.count1]; omega, rfl, by rw [read_look h.rok.names ho hx, hd], hc, ?_, h3⟩
  unfold cutN
  rw [hc, ← lensN_okR, okR_id h2]
end

theorem number_right {mk : ByteArray} (hm : mk.size ≤ 100) {n : Nat} (h1 : 1 ≤ n) (h2 : n < 10 ^ 17) (w : World) :
    Calls Tryz.prog 32 #[.string (strB (numName mk.data.toList n)), .string mk] w fun e w' => e = .returned (.int .i64 n) ∧ w' = w := by
  obtain ⟨c, r, hcr, hc⟩ := head_dec n h1
  have h3 := rnumber_right (s := strB (numName mk.data.toList n)) (m := mk) (ds := decDigits n) (by rw [strB_list]; rfl) (dec_digits n) (digits_le 16 n h2) hm hcr hc w
  rw [valD_dec] at h3
  exact h3

end Go.Proofs.YtdpbnacabinlgaaGreatDoor
namespace Go.Proofs.YtdpbnacabinlgaaGreatDoor
open Go.RowKit Go.Lib

theorem sumP_take (s : ByteArray) (k : Nat) (h : k < s.size) : sumP (s.data.toList.take (k + 1)) = sumStep (sumP (s.data.toList.take k)) s[k] := by
  rw [take_snoc s k h, sumP_snoc]

set_option maxHeartbeats 1000000 in
set_option maxRecDepth 100000 in
theorem rsum_calls (s : ByteArray) (w : World) (hs : s.size ≤ maxLen) :
    Calls Tryz.prog 72 #[.string s] w fun e w' => e = .returned (.int .i64 (sumN s.data.toList)) ∧ w = w' := by
  unfold maxLen at hs
  go_enter Tryz.func72, Tryz.ntmps72
  go_wp2
  go_loop [3, 4, 5] (fun a b i => ∃ k x y : Nat, k ≤ s.size ∧ i = .int .i64 k ∧ a = .int .i64 x ∧ b = .int .i64 y ∧ Hid (sumP (s.data.toList.take k) = (x, y)) ∧ x < 251 ∧ y < 241) (fun _ _ i => s.size - (intOf i).toNat)
  case atStart => exact ⟨0, 1, 1, Nat.zero_le _, rfl, rfl, rfl, rfl, by omega, by omega⟩
  case round =>
    obtain ⟨k, x, y, hk, rfl, rfl, rfl, Hp, hx, hy⟩ := hrel
    by_cases hlt : k < s.size
    · have hp := sumP_take s k hlt
      rw [Hp.out] at hp
      have hb : s[k].toNat < 256 := s[k].toNat_lt
      have hl := sumStep_lt (x, y) s[k]
      have e1 : (sumStep (x, y) s[k]).1 = (x + s[k].toNat + 1) % 251 := rfl
      have e2 : (sumStep (x, y) s[k]).2 = (y + (x + s[k].toNat + 1) % 251) % 241 := rfl
      rw [e1, e2] at hl
      have Hp1 : Hid (sumP (s.data.toList.take (k + 1)) = ((x + s[k].toNat + 1) % 251, (y + (x + s[k].toNat + 1) % 251) % 241)) := hp
      obtain ⟨hl1, hl2⟩ := hl
      clear hp e1 e2
      go_wp2
      go_round
      case rel => exact ⟨k + 1, _, _, by omega, by go_num, by go_num, by go_num, Hp1, hl1, hl2⟩
      case measure => simp [intOf]; omega
    · have hk' : k = s.size := by omega
      have hn : sumN s.data.toList = x + 256 * y := by
        have h1 := Hp.out
        rw [List.take_of_length_le (by rw [hk']; simp)] at h1
        unfold sumN
        rw [h1]
      have Hn := Lib.hid hn
      clear hn hk'
      go_wp2
      go_ret
      exact ⟨ret_num (by rw [Hn.out]; omega), rfl⟩

theorem owns_built (w : World) (cs : Array Value) (t : TypeId) (n : Nat) (hn : cs.size = n) (hm : n ≤ maxLen) : (w.alloc (.cells cs t)).ownsRow w.heap.size t 1 (.slice (some ⟨w.heap.size, 0, none⟩) n n) n cs.toList :=
  ⟨by simp [hn], .inr ⟨w.heap.size, n, cs, rfl, Nat.le_refl _, heap_alloc_new w _, Nat.le_refl _, hm, by simp [hn], by rw [Nat.mul_one, List.take_of_length_le (by simp [hn])]⟩⟩

set_option maxHeartbeats 1000000 in
set_option maxRecDepth 100000 in
theorem frput_calls (s : ByteArray) (w : World) (hs : s.size ≤ maxLen) :
    Calls Tryz.prog 67 #[.string s] w fun e w' => ∃ v, e = .returned v ∧ w'.ownsRow w.heap.size 5 1 v (putB s.data.toList).length (byteCells (putB s.data.toList)) ∧ Below w.heap.size w w' := by
  have hs' := hs
  unfold maxLen at hs
  have hsl : s.data.toList.length = s.size := by simp
  by_cases hbig : 4096 < s.size
  · have hp : putB s.data.toList = [] := if_pos (by omega)
    rw [hp]
    clear hp hsl
    go_enter Tryz.func67, Tryz.ntmps67
    go_wp2
    go_ret
    exact ⟨_, rfl, World.ownsRow_nil _ _ _ _, Below.refl _ _⟩
  · have hp : putB s.data.toList = frameB s.data.toList := if_neg (by omega)
    rw [hp]
    have hfl : (frameB s.data.toList).length = s.size + 5 := by rw [frameB_length, hsl]
    rw [hfl]
    have hsn := sumN_lt s.data.toList
    have hsum := rsum_calls s w hs'
    obtain ⟨sn, hsn2⟩ : ∃ sn, sumN s.data.toList = sn := ⟨_, rfl⟩
    rw [hsn2] at hsum hsn
    have Hsn := Lib.hid hsn2
    have Hsl := Lib.hid hsl
    have hstr : strCells s = byteCells s.data.toList := rfl
    have Hstr := Lib.hid hstr
    have hs2 : s.size ≤ 4096 := by omega
    have hbc : (#[Value.int .u8 82, .int .u8 ((s.size : Int) / 256), .int .u8 ((s.size : Int) % 256), .int .u8 ((sn : Int) / 256), .int .u8 ((sn : Int) % 256)] : Array Value).toList = byteCells ([82] ++ [UInt8.ofNat (s.size / 256), UInt8.ofNat (s.size % 256)] ++ [UInt8.ofNat (sn / 256), UInt8.ofNat (sn % 256)]) := by
      have h1 : s.size / 256 < 256 := by omega
      have h2 : sn / 256 < 256 := by omega
      simp [byteCells, Nat.mod_eq_of_lt h1, Nat.mod_eq_of_lt h2]
    have Hbc := Lib.hid hbc
    have hb1 := owns_built w #[Value.int .u8 82, .int .u8 ((s.size : Int) / 256), .int .u8 ((s.size : Int) % 256), .int .u8 ((sn : Int) / 256), .int .u8 ((sn : Int) % 256)] 5 5 rfl (by unfold maxLen; omega)
    have HB1 := Lib.hid hb1
    obtain ⟨i0, hi, hz0, hz1, hz2⟩ := info_parts infoB8
    clear hp hfl hsl hstr hbig hbc hsn2 hb1
    go_enter Tryz.func67, Tryz.ntmps67
    go_wp2_with fail
    refine hsum.mono ?_
    rintro e w1 ⟨rfl, rfl⟩
    clear hsum
    go_wp2_with (first
      | (at_builtin; refine wpList_append_own_string _ rfl (.tmp 23) (.tmp 24) 49 9 rfl w.heap.size 5 i0 Tryz.underlying49 Tryz.underlying9 hi hz0 hz1 hz2 _ _ _ rfl HB1.out s rfl (by unfold maxLen; omega) (by omega) (by simp) ?_; intro v6 w6 hown6 hgrow6 hnil6))
    go_wp2
    go_ret
    refine ⟨_, rfl, ?_, ((Below.refl _ w).alloc (Nat.le_refl _) _).grown hgrow6 (by simp) (fun k hk => (HB1.out.lt k hk).1)⟩
    rw [Hstr.out, Hbc.out] at hown6
    have e1 : frameB s.data.toList = [82] ++ [UInt8.ofNat (s.size / 256), UInt8.ofNat (s.size % 256)] ++ [UInt8.ofNat (sn / 256), UInt8.ofNat (sn % 256)] ++ s.data.toList := by
      unfold frameB; rw [Hsl.out, Hsn.out]
    rw [e1, show s.size + 5 = 5 + s.size by omega]
    simpa [byteCells] using hown6

end Go.Proofs.YtdpbnacabinlgaaGreatDoor
namespace Go.Proofs.YtdpbnacabinlgaaGreatDoor
open Go.RowKit Go.Lib

theorem byteN_drop (bs : List UInt8) (k i : Nat) : byteN (bs.drop k) i = byteN bs (k + i) := by
  unfold byteN
  rw [List.getD_eq_getElem?_getD, List.getElem?_drop, ← List.getD_eq_getElem?_getD]

set_option maxHeartbeats 4000000 in
set_option maxRecDepth 100000 in
theorem rcut_calls (w : World) (bv : Value) (bs : List UInt8) (h : BRow w bv bs) (hlen : bs.length ≤ 100000000) : Calls Tryz.prog 33 #[bv] w (CutPost w bs) := by
  obtain ⟨i0, hi, hz0, hz1, hz2⟩ := info_parts infoS16
  obtain ⟨a, c, rfl, hlc, hcm⟩ := h.len
  obtain ⟨l, hl⟩ : ∃ l, bs.length = l := ⟨_, rfl⟩
  rw [hl] at h hlc hlen ⊢
  unfold maxLen at hcm
  have H := Lib.hid h
  have Hl := Lib.hid hl
  clear h hl
  go_enter Tryz.func33, Tryz.ntmps33
  go_wp2
  go_loopw [4, 5] (fun v at_ wr => ∃ (k : Nat) (rs : List (List UInt8)), at_ = .int .i64 k ∧ k ≤ l ∧ Hid (k = lensN rs) ∧ Hid (cutB bs = rs ++ cutB (bs.drop k)) ∧ Hid (wr.ownsRow w.heap.size 9 1 v rs.length (recCells rs)) ∧ Hid (Below w.heap.size w wr)) (fun _ at_ _ => l - (intOf at_).toNat)
  case atStart => exact ⟨0, [], rfl, Nat.zero_le _, rfl, rfl, World.ownsRow_nil _ _ _ _, Below.refl _ _⟩
  case round =>
    obtain ⟨k, rs, rfl, hk, Hkn, Hcut, Hown, Hb⟩ := hrel
    have hlt : (bs.drop k).length = l - k := by rw [List.length_drop, Hl.out]
    have Hlt := Lib.hid hlt
    have hkl : (k : Int) ≤ l := by omega
    have Htail : Hid (firstB (bs.drop k) = none → ∀ W, Below wr.heap.size wr W → CutPost w bs (.returned (.tuple #[_, .int .i64 k])) W) := fun hr W hW => by
      have hfin : cutB bs = rs := by have := Hcut.out; rw [cutB_none hr, List.append_nil] at this; exact this
      have hcn : cutN bs = k := by rw [cutN, hfin]; exact Hkn.out.symm
      exact ⟨_, ret_two (by rw [hcn]), by rw [hfin]; exact owns_below Hown.out hW, Hb.out.trans (hW.mono Hb.out.size)⟩
    by_cases h5 : l - k < 5
    · have hd : decide ((5 : Int) ≤ (l : Int) - (k : Int)) = false := by simp; omega
      have Hr := Lib.hid (firstB_short (l := bs.drop k) (by omega))
      clear hlt
      go_wp2
      go_ret2
      exact Htail.out Hr.out _ (Below.refl _ _)
    have hd5 : decide ((5 : Int) ≤ (l : Int) - (k : Int)) = true := by simp; omega
    obtain ⟨A, rfl⟩ : ∃ A, a = some A := by
      obtain ⟨a', c', e1, _, _, _, hx⟩ := H.out
      injection e1 with e1
      subst e1
      obtain ⟨A, e2, _⟩ := hx 0 (bs[0]'(by have := Hl.out; omega)) (List.getElem?_eq_getElem (by have := Hl.out; omega))
      exact ⟨A, e2⟩
    have hat := fun i (hi : i < l) => (H.out.below Hb.out).at (i := i) (by rw [Hl.out]; exact hi)
    have k0 : wr.cell? (A.add k) = some (.int .u8 (byteN (bs.drop k) 0 : Nat)) := by rw [byteN_drop]; exact hat k (by omega)
    have k1 : wr.cell? ⟨A.block, A.off + (k + 1), none⟩ = some (.int .u8 (byteN (bs.drop k) 1 : Nat)) := by rw [byteN_drop]; exact hat (k + 1) (by omega)
    have k2 : wr.cell? ⟨A.block, A.off + (k + 2), none⟩ = some (.int .u8 (byteN (bs.drop k) 2 : Nat)) := by rw [byteN_drop]; exact hat (k + 2) (by omega)
    have k3 : wr.cell? ⟨A.block, A.off + (k + 3), none⟩ = some (.int .u8 (byteN (bs.drop k) 3 : Nat)) := by rw [byteN_drop]; exact hat (k + 3) (by omega)
    have k4 : wr.cell? ⟨A.block, A.off + (k + 4), none⟩ = some (.int .u8 (byteN (bs.drop k) 4 : Nat)) := by rw [byteN_drop]; exact hat (k + 4) (by omega)
    have b0 := byteN_lt (bs.drop k) 0
    have b1 := byteN_lt (bs.drop k) 1
    have b2 := byteN_lt (bs.drop k) 2
    have b3 := byteN_lt (bs.drop k) 3
    have b4 := byteN_lt (bs.drop k) 4
    have hkl2 : (k : Int) < l := by omega
    have h50 : ¬ (bs.drop k).length < 5 := by omega
    by_cases h82 : byteN (bs.drop k) 0 = 82
    rotate_left
    · have Hr := Lib.hid (firstB_mark h50 h82)
      obtain ⟨x0, hx0⟩ : ∃ x0, byteN (bs.drop k) 0 = x0 := ⟨_, rfl⟩
      rw [hx0] at k0 b0 h82
      have ht : ((x0 : Int) == 82) = false := by rw [beq_eq_false_iff_ne]; omega
      clear hlt hat k1 k2 k3 k4 b1 b2 b3 b4 h82 hx0 h50
      go_wp2
      go_ret2
      exact Htail.out Hr.out _ (Below.refl _ _)
    rw [h82] at k0
    have H50 := Lib.hid h50
    have H82 := Lib.hid h82
    have hsays : saysN (bs.drop k) = 256 * byteN (bs.drop k) 1 + byteN (bs.drop k) 2 := rfl
    obtain ⟨x1, hx1⟩ : ∃ x1, byteN (bs.drop k) 1 = x1 := ⟨_, rfl⟩
    obtain ⟨x2, hx2⟩ : ∃ x2, byteN (bs.drop k) 2 = x2 := ⟨_, rfl⟩
    obtain ⟨x3, hx3⟩ : ∃ x3, byteN (bs.drop k) 3 = x3 := ⟨_, rfl⟩
    obtain ⟨x4, hx4⟩ : ∃ x4, byteN (bs.drop k) 4 = x4 := ⟨_, rfl⟩
    obtain ⟨q, hq⟩ : ∃ q, saysN (bs.drop k) = q := ⟨_, rfl⟩
    rw [hx1, hx2, hq] at hsays
    have HX3 := Lib.hid hx3
    have HX4 := Lib.hid hx4
    have Hq := Lib.hid hq
    have he : (x1 : Int) * 256 + (x2 : Int) = (q : Int) := by omega
    have He := Lib.hid he
    rw [hx1] at k1 b1
    rw [hx2] at k2 b2
    rw [hx3] at k3 b3
    rw [hx4] at k4 b4
    have hq65 : q < 65536 := by omega
    have K3 := Lib.hid k3
    have K4 := Lib.hid k4
    have wr1 : IntKind.i64.wrap ((k : Int) + 1) = (k : Int) + 1 := IntWalk.i64_in _ (by omega)
    have wr2 : IntKind.i64.wrap ((k : Int) + 2) = (k : Int) + 2 := IntWalk.i64_in _ (by omega)
    have n1 : ((k : Int) + 1).toNat = k + 1 := by omega
    have n2 : ((k : Int) + 2).toNat = k + 2 := by omega
    have p1 : (0 : Int) ≤ (k : Int) + 1 := by omega
    have p2 : (0 : Int) ≤ (k : Int) + 2 := by omega
    have q1 : (k : Int) + 1 < l := by omega
    have q2 : (k : Int) + 2 < l := by omega
    clear hlt hat h82 b0 k3 k4 h50 hsays hx1 hx2 hx3 hx4 hq he
    go_wp2
    go_quiet (fail)
    rw [He.out]
    obtain ⟨w1, hw1⟩ : ∃ w1, w1 = wr.drewN nq := ⟨_, rfl⟩
    rw [← hw1]
    have HB1 : Hid (Below wr.heap.size wr w1) := by rw [hw1]; exact fbelow_drewN (Below.refl _ _) _
    have k3 : w1.cell? ⟨A.block, A.off + (k + 3), none⟩ = some (.int .u8 (x3 : Nat)) := by rw [hw1]; exact K3.out
    have k4 : w1.cell? ⟨A.block, A.off + (k + 4), none⟩ = some (.int .u8 (x4 : Nat)) := by rw [hw1]; exact K4.out
    clear wr1 wr2 n1 n2 p1 p2 q1 q2 k0 k1 k2 hw1
    by_cases hbig : 4096 < q
    · have hd6 : decide ((4096 : Int) < (q : Int)) = true := by simp; omega
      have Hr := Lib.hid (firstB_big H50.out H82.out (by rw [Hq.out]; exact hbig))
      clear hbig
      go_wp2
      go_ret2
      exact Htail.out Hr.out _ HB1.out
    have hd6 : decide ((4096 : Int) < (q : Int)) = false := by simp; omega
    have hb1 : ¬ 4096 < saysN (bs.drop k) := by rw [Hq.out]; exact hbig
    by_cases hmore : l - k - 5 < q
    · have hd7 : decide ((l : Int) - (k : Int) - 5 < (q : Int)) = true := by simp; omega
      have Hr := Lib.hid (firstB_more H50.out H82.out hb1 (by rw [Hq.out, Hlt.out]; exact hmore))
      clear hbig hb1 hmore
      go_wp2
      go_ret2
      exact Htail.out Hr.out _ HB1.out
    have hd7 : decide ((l : Int) - (k : Int) - 5 < (q : Int)) = false := by simp; omega
    have hb2 : ¬ (bs.drop k).length - 5 < saysN (bs.drop k) := by rw [Hq.out, Hlt.out]; exact hmore
    obtain ⟨v5, hv5, hb5⟩ := (((H.out.below Hb.out).below HB1.out)).cut (k := k + 5) (m := k + 5 + q) (by omega) (by rw [Hl.out]; omega)
    rw [show k + 5 + q - (k + 5) = q by omega] at hb5
    have hv5' : ∀ W : World, (Instr.slice 49 (.slice (some A) l c) (some (.int .i64 ((k : Int) + 5))) (some (.int .i64 ((k : Int) + 5 + (q : Int)))) none).run Tryz.prog W = .ok v5 W := fun W => by
      have h1 := hv5 W
      rwa [show ((k + 5 : Nat) : Int) = (k : Int) + 5 by omega, show ((k + 5 + q : Nat) : Int) = (k : Int) + 5 + (q : Int) by omega] at h1
    obtain ⟨r, hr⟩ : ∃ r, ((bs.drop k).drop 5).take q = r := ⟨_, rfl⟩
    have hr1 : (bs.drop (k + 5)).take q = r := by rw [← hr, List.drop_drop]
    rw [hr1] at hb5
    have hrl : r.length = q := by have h9 : (bs.drop k).length = l - k := Hlt.out; rw [← hr, List.length_take, List.length_drop, h9]; omega
    have hcv : (convert 49 9 v5).run Tryz.prog w1 = .ok (.string (strB r)) w1 := conv_brow hb5
    have hsum : ∀ W, Calls Tryz.prog 72 #[.string (strB r)] W fun e w' => e = .returned (.int .i64 (sumN r)) ∧ W = w' := fun W => by
      have h1 := rsum_calls (strB r) W (by rw [strB_size]; unfold maxLen; omega)
      rwa [strB_list] at h1
    obtain ⟨sm, hsm⟩ : ∃ sm, 256 * x3 + x4 = sm := ⟨_, rfl⟩
    have hsm' : (x3 : Int) * 256 + (x4 : Int) = (sm : Int) := by omega
    obtain ⟨sr, hsr⟩ : ∃ sr, sumN r = sr := ⟨_, rfl⟩
    rw [hsr] at hsum
    have hsr1 : sumN (((bs.drop k).drop 5).take (saysN (bs.drop k))) = sr := by rw [Hq.out, hr, hsr]
    have hsm1 : 256 * byteN (bs.drop k) 3 + byteN (bs.drop k) 4 = sm := by rw [HX3.out, HX4.out, hsm]
    have wr3 : IntKind.i64.wrap ((k : Int) + 3) = (k : Int) + 3 := IntWalk.i64_in _ (by omega)
    have wr4 : IntKind.i64.wrap ((k : Int) + 4) = (k : Int) + 4 := IntWalk.i64_in _ (by omega)
    have n3 : ((k : Int) + 3).toNat = k + 3 := by omega
    have n4 : ((k : Int) + 4).toNat = k + 4 := by omega
    have p3 : (0 : Int) ≤ (k : Int) + 3 := by omega
    have p4 : (0 : Int) ≤ (k : Int) + 4 := by omega
    have q3 : (k : Int) + 3 < l := by omega
    have q4 : (k : Int) + 4 < l := by omega
    by_cases heq : sr = sm
    rotate_left
    · have Hr := Lib.hid (firstB_sum H50.out H82.out hb1 hb2 (by rw [hsr1, hsm1]; exact heq))
      have ht : ((sr : Int) != (sm : Int)) = true := by rw [bne_iff_ne]; omega
      clear hbig hb1 hmore hb2 hv5 hb5 hr hr1 hrl hsm hsr hsr1 hsm1 heq
      go_wp2
      go_quiet ((first | (go_at_call 72; refine (hsum _).mono ?_; rintro e w' ⟨he, rfl⟩; exact ⟨he, _, rfl⟩)))
      go_wp2
      go_ret2
      exact Htail.out Hr.out _ (fbelow_drewN HB1.out _)
    have hfr := firstB_some H50.out H82.out hb1 hb2 (by rw [hsr1, hsm1]; exact heq)
    rw [Hq.out, hr] at hfr
    have ht : ((sr : Int) != (sm : Int)) = false := by rw [bne_eq_false_iff_eq]; omega
    have Hr := Lib.hid hfr
    have hg := lensN_ge rs
    have hk1 := Hkn.out
    have hrs : (rs.length + 1) * 16 ≤ 140737488355328 := by omega
    have hrs1 : rs.length + 1 ≤ maxLen := by unfold maxLen; omega
    have Hkk : Hid (k + 5 + q = lensN (rs ++ [r])) := by show _ = _; rw [lensN_append, lensN_one, ← Hkn.out, hrl]; omega
    have Hcc : Hid (cutB bs = (rs ++ [r]) ++ cutB (bs.drop (k + 5 + q))) := by show _ = _; rw [Hcut.out, cutB_some hfr, List.drop_drop, hrl, show k + (q + 5) = k + 5 + q by omega]; simp
    clear hbig hb1 hb2 hv5 hb5 hr hr1 hsm hsr hsr1 hsm1 heq hfr hg hk1 hrl
    go_wp2
    go_quiet ((first | (go_at_call 72; refine (hsum _).mono ?_; rintro e w' ⟨he, rfl⟩; exact ⟨he, _, rfl⟩)))

    obtain ⟨w2, hw2⟩ : ∃ w2, w2 = w1.drewN nq := ⟨_, rfl⟩
    rw [← hw2]
    have hb2 : Below w.heap.size w w2 := by rw [hw2]; exact fbelow_drewN (Hb.out.trans (HB1.out.mono Hb.out.size)) _
    have hb21 : Below wr.heap.size wr w2 := by rw [hw2]; exact fbelow_drewN HB1.out _
    have HO2 := Lib.hid ((owns_below Hown.out hb21).alloc (.cells #[.string (strB r)] 9))
    have HB2 := Lib.hid (hb2.alloc hb2.size (.cells #[.string (strB r)] 9))
    have hlto := Lib.hid HO2.out.lt
    clear hw2 hb2 hb21 k3 k4 hcv wr3 wr4 n3 n4 p3 p4 q3 q4
    go_wp2_with (first
      | (at_builtin; refine wpList_append_own _ rfl (.tmp 71) (.tmp 73) 32 rfl w.heap.size 9 i0 (.string .empty) 1 16 Tryz.underlying32 hi hz0 hz1 hz2 rfl (by decide) _ _ _ rfl HO2.out ⟨w2.heap.size, 0, none⟩ 1 1 (recCells [r]) rfl rfl (vals_new w2 _ _ _ _ rfl) (recCells_one _) hrs1 hrs HB2.out.size ?_; intro v3 w3 hown3 hgrow3 hnil3))
    have HB3 := Lib.hid (HB2.out.grown hgrow3 HB2.out.size (fun q hq => (hlto.out q hq).1))
    have hown4 : w3.ownsRow w.heap.size 9 1 v3 (rs ++ [r]).length (recCells (rs ++ [r])) := by
      rw [List.length_append]
      simpa [recCells] using hown3
    have HO3 := Lib.hid hown4
    clear hown3 hgrow3 hnil3 hown4
    go_roundw
    case rel => exact ⟨k + 5 + q, rs ++ [r], by go_num, by omega, Hkk, Hcc, HO3, HB3⟩
    case measure => simp [intOf]; omega

end Go.Proofs.YtdpbnacabinlgaaGreatDoor
namespace Go.Proofs.YtdpbnacabinlgaaGreatDoor
open Go.RowKit Go.Lib Go.Maps Go.ChangeMaps Go.Sort Go.Shelf

set_option maxHeartbeats 32000000 in
set_option maxRecDepth 100000 in
theorem files_walk {w : World} (hv : Vars w (fun _ => none)) (a : Option Addr) (c : Nat) (rs : List (List UInt8)) (hx : TRow w a rs) (hl : rs.length ≤ maxLen) (sp : ByteArray) (hsp : sp.size ≤ 140737488351232) (bb : Bool) :
    Calls Tryz.prog 7 #[.slice a rs.length c, .string sp, .bool bb] w fun e w' => e = .returned (.bool true) ∧ Below w.heap.size w w' := by
  unfold maxLen at hl
  have HV := Lib.hid hv
  have HX := Lib.hid hx
  obtain ⟨l, hrl⟩ : ∃ l, rs.length = l := ⟨_, rfl⟩
  have Hl := Lib.hid hrl
  rw [hrl] at hl ⊢
  obtain ⟨ps, hps⟩ : ∃ ps, sp.size = ps := ⟨_, rfl⟩
  have Hps := Lib.hid hps
  rw [hps] at hsp
  have hzp : (sp.size : Int) = (ps : Int) := by rw [hps]
  clear hv hx hrl
  go_enter Tryz.func7, Tryz.ntmps7
  go_wp2_with fail
  refine (jhead_calls HV.out).mono ?_
  rintro e w1 ⟨rfl, hb1⟩
  have HB1 := Lib.hid hb1
  have HV1 := Lib.hid (HV.out.below hb1)
  clear hb1
  go_wp2_with fail
  refine (jopened_calls HV1.out).mono ?_
  rintro e w2 ⟨jb, db, fb, gb, own2, rfl, hj2⟩
  have HI2 : Hid (AddJ w1 w2 jb db fb gb 0) := AddJ.start hj2
  have HB2 := Lib.hid (HB1.out.trans ((step_low hj2.st).mono HB1.out.size))
  clear hj2
  go_wp2_with fail
  go_loop [11, 12] (fun n i => ∃ k nn : Nat, k ≤ l ∧ i = .int .i64 k ∧ n = .int .i64 nn ∧ nn ≤ ps + 80001 ∧ ps ≤ nn ∧ Hid (∀ i s, i < k → rs[i]? = some s → min s.length 40000 ≤ nn)) (fun _ i => l - (intOf i).toNat)
  case atStart => exact ⟨0, ps, Nat.zero_le _, rfl, by first | rfl | rw [hzp], by omega, by omega, fun i s h _ => absurd h (Nat.not_lt_zero _)⟩
  case round =>
    obtain ⟨k, nn, hk, rfl, rfl, hnb, hnk, HM⟩ := hrel
    by_cases hgo : k < l ∧ nn < 40000
    · obtain ⟨hlt, hn2⟩ := hgo
      obtain ⟨s, hs⟩ : ∃ s, rs[k]? = some s := ⟨_, List.getElem?_eq_getElem (by rw [Hl.out]; exact hlt)⟩
      have HS := Lib.hid hs
      obtain ⟨ad, rfl, hcell, hss⟩ := (HX.out.below HB2.out) k s hs
      unfold maxLen at hss
      have hsz : (strB s).size = s.length := strB_size s
      have hss1 : (strB s).size ≤ 9223372036854775807 := by omega
      have hd : decide ((nn : Int) < 40000) = true := by simp; omega
      have hT0 : (0 : Int) ≤ min ((strB s).size : Int) 40000 := by omega
      have hT1 : min ((strB s).size : Int) 40000 ≤ 40000 := by omega
      have hcast : ((nn : Int) + 1 + min ((strB s).size : Int) 40000) = ((nn + 1 + min (strB s).size 40000 : Nat) : Int) := by omega
      have Hcast := Lib.hid hcast
      clear hs hsz hcast
      go_wp2
      go_round
      case rel =>
        refine ⟨k + 1, nn + 1 + min (strB s).size 40000, by omega, by go_num, by rw [Hcast.out], by omega, by omega, fun i s2 hi hs2 => ?_⟩
        by_cases hik : i < k
        · have := HM.out i s2 hik hs2
          omega
        · obtain rfl : i = k := by omega
          rw [HS.out] at hs2
          injection hs2 with hs2
          subst hs2
          rw [strB_size]
          omega
      case measure => simp [intOf]; omega
    · by_cases hbg : 40000 ≤ nn
      · have hd2 : decide ((nn : Int) < 40000) = false := by simp; omega
        have hd3 : decide ((40000 : Int) ≤ (nn : Int)) = true := by simp; omega
        by_cases hlt : k < l
        all_goals
          go_wp2
          go_ret
          exact ⟨rfl, HB2.out⟩
      · have hlt : ¬ k < l := by omega
        obtain rfl : k = l := by omega
        have hd3 : decide ((40000 : Int) ≤ (nn : Int)) = false := by simp; omega
        by_cases h300 : 60 < k
        · have hd4 : decide ((60 : Int) < (k : Int)) = true := by simp; omega
          go_wp2
          go_ret
          exact ⟨rfl, HB2.out⟩
        · have hd4 : decide ((60 : Int) < (k : Int)) = false := by simp; omega
          have HP4 : Hid (ps < 40000) := by show _ < _; omega
          have HM4 : Hid (∀ i s, i < k → rs[i]? = some s → s.length ≤ 40000) := fun i s hi hs => by have := HM.out i s hi hs; omega
          clear hnb hnk HM
          go_wp2_with fail
          go_loopw [13] (fun i wr => ∃ q : Nat, q ≤ k ∧ i = .int .i64 q ∧ Hid (AddJ w1 wr jb db fb gb q)) (fun i _ => k - (intOf i).toNat)
          case atStart => exact ⟨0, Nat.zero_le _, rfl, HI2⟩
          case round =>
            clear HI2
            obtain ⟨q, hq, rfl, HI⟩ := hrel
            by_cases hlt2 : q < k
            · obtain ⟨s, hs⟩ : ∃ s, rs[q]? = some s := ⟨_, List.getElem?_eq_getElem (by rw [Hl.out]; exact hlt2)⟩
              obtain ⟨ad, rfl, hcell, hss⟩ := (HX.out.below (HB1.out.trans (HI.out.low.mono HB1.out.size))) q s hs
              have HADD := Lib.hid (HI.out.add (by omega) (s := strB s) (by rw [strB_size]; exact HM4.out q s hlt2 hs))
              clear hs hss
              go_wp2_with fail
              refine HADD.out.mono ?_
              rintro e w3 ⟨⟨ec, rfl⟩, H3⟩
              go_wp2_with fail
              go_roundw
              case rel => exact ⟨q + 1, by omega, by go_num, H3⟩
              case measure => simp [intOf]; omega
            · obtain rfl : q = k := by omega
              have HB3 := Lib.hid (HB1.out.trans (HI.out.low.mono HB1.out.size))
              obtain ⟨own, j, ls, sy, h1, h2, h3, h4, h5, h6, h7⟩ := HI.out
              have HJ := Lib.hid h1
              have HG := Lib.hid h2
              have HON := Lib.hid h5
              have HU := Lib.hid h6
              have HR := Lib.hid h7
              have hcnt := h2.count1
              have hlast := h2.last
              obtain ⟨m, hm⟩ : ∃ m, j.r.L.length = m := ⟨_, rfl⟩
              have HMM := Lib.hid hm
              have hm60 : m ≤ 60 := by omega
              have HLM : Hid (j.last = m) := by show _ = _; omega
              have HNA := Lib.hid (h1.lw.dev.names (by omega))
              rw [hm] at HNA
              clear HI h1 h2 h3 h4 h5 h6 h7 hcnt hlast hm
              go_wp2_with fail
              refine HNA.out.mono ?_
              rintro e w3 ⟨na, nc, rfl, hnr, _, hb3⟩
              have HL3 := Lib.hid (HJ.out.lw.dev.below hb3)
              have HJ3 := Lib.hid (HJ.out.below hb3)
              have HNR := Lib.hid hnr
              have HB4 := Lib.hid (HB3.out.trans (hb3.mono HB3.out.size))
              clear hnr hb3 HNA
              go_wp2_with fail
              go_loopw [15] (fun i wr => ∃ g : Nat, g ≤ m ∧ i = .int .i64 g ∧ Hid (Below w3.heap.size w3 wr)) (fun i _ => m - (intOf i).toNat)
              case atStart => exact ⟨0, Nat.zero_le _, rfl, Below.refl _ _⟩
              case round =>
                obtain ⟨g, hg, rfl, HB⟩ := hrel
                by_cases hlt3 : g < m
                · obtain ⟨nm, hnm⟩ : ∃ nm, (j.r.L.map RF.nm)[g]? = some nm := ⟨_, List.getElem?_eq_getElem (by rw [List.length_map, HMM.out]; exact hlt3)⟩
                  obtain ⟨n, ll, f1, f2, rfl, f4, f5, f6, f7⟩ := HG.out.file HON.out.1 hnm
                  obtain ⟨ad, rfl, _, _⟩ := HNR.out g _ hnm
                  have HCELL : Hid (∀ wz, Below w3.heap.size w3 wz → wz.cell? (ad.add g) = some (.string (strB (numName logM n)))) := fun wz hz => by
                    obtain ⟨ad2, e, _, hc⟩ := HNR.out g _ hnm
                    injection e with e
                    rw [e]
                    exact cell_below hz hc
                  have hc0 := HCELL.out wr HB.out
                  have hok : (strB (numName logM n)).size ≤ maxLen := by
                    rw [strB_size]
                    have h1 := (HL3.out.rok).names.1
                    obtain ⟨f, hf, hfn⟩ := List.mem_map.1 (List.mem_of_getElem? hnm)
                    have h2 := nameOk_len (h1 f hf)
                    rw [hfn] at h2
                    unfold maxLen
                    omega
                  have HRD := Lib.hid ((HL3.out.below HB.out).read hok)
                  rw [strB_list, f4] at HRD
                  have HNUM : Hid (∀ wz, Calls Tryz.prog 32 #[.string (strB (numName logM n)), .string ⟨#[108, 111, 103, 45]⟩] wz fun e w' => e = .returned (.int .i64 n) ∧ w' = wz) := fun wz => number_right (mk := ⟨#[108, 111, 103, 45]⟩) (by decide) f1 (by rw [HMM.out] at f2; omega) wz
                  obtain ⟨bl, hbl⟩ : ∃ bl, (allB ll).length = bl := ⟨_, rfl⟩
                  obtain ⟨nl, hnl⟩ : ∃ nl, ll.length = nl := ⟨_, rfl⟩
                  have HBLN : Hid ((allB ll).length = bl) := hbl
                  have HNLN : Hid (ll.length = nl) := hnl
                  have hbig : bl ≤ 262144 := by
                    have h1 := bytesR_le HL3.out (numName logM n)
                    unfold bytesR at h1
                    rw [f4] at h1
                    rw [← hbl]
                    exact h1
                  have HF5 := Lib.hid f5
                  have HF6 := Lib.hid f6
                  rw [hbl] at f7
                  rw [hnl] at f7
                  rw [HMM.out] at f2
                  simp only [hbl] at HRD
                  have g1 : decide ((n : Int) < 1) = false := by simp; omega
                  have g2 : decide ((m : Int) < (n : Int)) = false := by simp; omega
                  clear hnm f4 f5 f6 hbl hnl hok
                  go_wp2_with fail
                  refine HRD.out.mono ?_
                  rintro e w4 ⟨v4, rfl, hr4, hb4⟩
                  obtain ⟨va, vc, rfl⟩ := row_slice hr4
                  have HB5 := Lib.hid (HB.out.trans (hb4.mono HB.out.size))
                  have hc1 := HCELL.out w4 HB5.out
                  have HBR : Hid (BRow w4 (.slice va bl vc) (allB ll)) := by
                    have h := hr4
                    rw [← HBLN.out] at h ⊢
                    exact BRow.of_owns h
                  have HCUT := Lib.hid (rcut_calls w4 _ (allB ll) HBR.out (by rw [HBLN.out]; omega))
                  clear hr4 hb4
                  go_wp2_with (go_at_call 32; refine (HNUM.out w4).mono ?_; rintro e w5 ⟨rfl, rfl⟩)
                  refine HCUT.out.mono ?_
                  rintro e w6 ⟨v6, rfl, hr6, hb6⟩
                  rw [HF5.out, HNLN.out] at hr6
                  obtain ⟨ra, rc, rfl⟩ := row_slice hr6
                  rw [HF6.out, HBLN.out]
                  have HB7 := Lib.hid (HB5.out.trans (hb6.mono HB5.out.size))
                  clear hr6 hb6 HCUT HBR HRD
                  have hne0 : ((bl : Int) != (bl : Int)) = false := by simp
                  by_cases hbk : 1024 < bl
                  · obtain rfl : nl = 1 := by omega
                    have g4 : decide ((1024 : Int) < (bl : Int)) = true := by simp; omega
                    go_wp2_with fail
                    go_roundw
                    case rel => exact ⟨g + 1, by omega, by go_num, HB7⟩
                    case measure => simp [intOf]; omega
                  · have g4 : decide ((1024 : Int) < (bl : Int)) = false := by simp; omega
                    go_wp2_with fail
                    go_roundw
                    case rel => exact ⟨g + 1, by omega, by go_num, HB7⟩
                    case measure => simp [intOf]; omega
                · obtain rfl : g = m := by omega
                  cases bb with
                  | false =>
                    have HBW := Lib.hid (HB4.out.trans (HB.out.mono HB4.out.size))
                    go_wp2_with fail
                    go_ret
                    exact ⟨rfl, HBW.out⟩
                  | true =>
                    have HJ5 := Lib.hid (HJ3.out.below HB.out)
                    have HCP := Lib.hid (HJ5.out.compact (by omega) (by rw [HLM.out]; omega) (s := sp) (by have := HP4.out; have := Hps.out; unfold maxLen; omega))
                    have HB5 := Lib.hid (HB4.out.trans (HB.out.mono HB4.out.size))
                    by_cases hbigp : 4096 < ps
                    · have hbg2 : compactJ j sp.data.toList = (j, 1) := compact_big (by have : sp.data.toList.length = sp.size := by simp
                                                                                        have := Hps.out
                                                                                        omega)
                      rw [hbg2] at HCP
                      have g4 : decide ((ps : Int) ≤ 4096) = false := by simp; omega
                      clear hbg2
                      go_wp2_with fail
                      refine HCP.out.mono ?_
                      rintro e w7 ⟨rfl, own7, _, hl7, _, _, st7⟩
                      have HB7 := Lib.hid (HB1.out.trans ((step_low (HJ5.out.st.trans st7)).mono HB1.out.size))
                      have HNA7 := Lib.hid (hl7.names (by omega))
                      rw [HMM.out] at HNA7
                      clear hl7 st7 HCP
                      go_wp2_with fail
                      refine HNA7.out.mono ?_
                      rintro e w8 ⟨na8, nc8, rfl, _, _, hb8⟩
                      have HB8 := Lib.hid (HB7.out.trans (hb8.mono HB7.out.size))
                      clear hb8 HNA7
                      go_wp2_with fail
                      go_ret
                      exact ⟨rfl, HB8.out⟩
                    · have hspl : sp.data.toList.length = ps := by rw [← Hps.out]; simp
                      have hroom : (usedL j.r.L : Int) + (sp.data.toList.length + 5 : Nat) ≤ j.r.room := by
                        have h1 := HU.out
                        rw [HR.out, hspl]
                        omega
                      obtain ⟨c1, c2, _, _, _, _, _, _, c9⟩ := HG.out.compact_on (newJ_base 4194304) HON.out (p := sp.data.toList) (by rw [hspl]; omega) (name_ok (.inr rfl) (by rw [HLM.out]; omega)) (by rw [HMM.out]; omega) hroom
                      clear hroom hspl
                      have hcr : (compactJ j sp.data.toList).1.r.L.length = 1 := count_names c2.rok (ns := [numName snapM (j.last + 1)]) (by simp) c9
                      have hcn : ((compactJ j sp.data.toList).1.r.L.map RF.nm)[0]? = some (numName snapM (g + 1)) := by
                        rw [HLM.out] at c9
                        obtain ⟨y, hy⟩ : ∃ y, ((compactJ j sp.data.toList).1.r.L.map RF.nm)[0]? = some y := ⟨_, List.getElem?_eq_getElem (by rw [List.length_map, hcr]; decide)⟩
                        rw [hy]
                        have h1 := (c9 y).1 (look_mem.2 (List.mem_of_getElem? hy))
                        rw [List.mem_singleton.1 h1]
                      have HCN := Lib.hid hcn
                      have HCR := Lib.hid hcr
                      rw [c1] at HCP
                      have g4 : decide ((ps : Int) ≤ 4096) = true := by simp; omega
                      have HNUM : Hid (∀ wz, Calls Tryz.prog 32 #[.string (strB (numName snapM (g + 1))), .string ⟨#[115, 110, 97, 112, 45]⟩] wz fun e w' => e = .returned (.int .i64 (g + 1 : Nat)) ∧ w' = wz) := fun wz => number_right (mk := ⟨#[115, 110, 97, 112, 45]⟩) (by decide) (by omega) (by omega) wz
                      clear c1 c2 c9 hcn hcr
                      go_wp2_with fail
                      refine HCP.out.mono ?_
                      rintro e w7 ⟨rfl, own7, _, hl7, _, _, st7⟩
                      have HB7 := Lib.hid (HB1.out.trans ((step_low (HJ5.out.st.trans st7)).mono HB1.out.size))
                      have HNA7 := Lib.hid (hl7.names (by omega))
                      rw [HCR.out] at HNA7
                      clear hl7 st7 HCP
                      go_wp2_with fail
                      refine HNA7.out.mono ?_
                      rintro e w8 ⟨na8, nc8, rfl, hn8, _, hb8⟩
                      have HB8 := Lib.hid (HB7.out.trans (hb8.mono HB7.out.size))
                      obtain ⟨ad8, rfl, _, hc8⟩ := hn8 0 _ HCN.out
                      rw [addr_zero] at hc8
                      have hc9 : w8.cell? ad8 = some (.string (strB (numName snapM (g + 1)))) := hc8
                      clear hb8 HNA7 hn8 hc8
                      go_wp2_with (go_at_call 32; refine (HNUM.out w8).mono ?_; rintro e w9 ⟨rfl, rfl⟩)
                      go_ret
                      exact ⟨by simp, HB8.out⟩

end Go.Proofs.YtdpbnacabinlgaaGreatDoor
namespace Go.Proofs.YtdpbnacabinlgaaGreatDoor
open Go.ChangeShapes Go.WideShapes Go.ChangeAt Go.RowKit Go.Lib Go.Deep Go.Joins
open Go.ChangeMaps (open_string shut_string)

namespace journalFiles
set_option maxRecDepth 100000 in
theorem lifted (os : Os) (started : os.Started) (H : Type) (enc : TypeId × Value → H) :
    ReturnsInHanded {} Tryz.checked os 7 .any (fun w args => (Rows.journalFilesSpec.pre enc Tryz.prog Tryz.f7 [] false w args ∧ laidMetH Tryz.prog laidX w) ∧ sizedMet enc Tryz.prog Tryz.f7 (OpenSpec.ofChange Rows.journalFilesSpec) false w args)
      (Rows.journalFilesSpec.post enc Tryz.prog Tryz.f7 false true false false) := by
  refine returnsInHanded_of_change_and (C := Tryz.checked) (X := fun w _ => laidMetH Tryz.prog laidX w) (fun _ _ _ hh h => h.of_heap hh) xown_ started (by kernel_rfl) Tryz.func7
    (ChangeSpec.witness_shaped (enc := enc) (C := Tryz.checked) (os := os) (X := fun w _ => laidMetH Tryz.prog laidX w) false (World.doorLaid Tryz.prog 62 os) #[.slice none 0 0, .string .empty, .bool false] 8 rfl (World.shaped_of_RefB (by kernel_rfl) (by kernel_rfl)) (by kernel_rfl) (by kernel_rfl) (by kernel_rfl) (xdoor_met os _)) ?_
  intro W base args ds gs before hval0 hW _ hsz hL _
  have hT := vars_of_laid hL
  have hval : ∀ (j : Nat) t v, Tryz.f7.params[j]? = some t → args[j]? = some v → Value.okWide Tryz.prog W .any base t v := hval0
  have hW' := hW
  obtain ⟨p, q, hA0, hV, rfl, _, _⟩ := hW
  have hA : DataW.TrodAll enc Tryz.prog W 0 (fun _ => true) true Tryz.f7.params.toList args.toList ds p := hA0
  rw [Tryz.params7] at hA hval
  obtain ⟨v0, vs0, d0, ds0, p0, q0, hargs, rfl, rfl, h0, r0⟩ := trodAll_cons hA
  obtain ⟨v1, vs1, d1, ds1, p1, q1, rfl, rfl, rfl, h1, r1⟩ := trodAll_cons r0
  obtain ⟨v2, vs2, d2, ds2, p2, q2, rfl, rfl, rfl, h2, r2⟩ := trodAll_cons r1
  obtain ⟨rfl, rfl, rfl⟩ := trodAll_nil r2
  obtain rfl : args = #[v0, v1, v2] := by cases args; simp_all
  obtain ⟨rfl, rfl⟩ := trodVars_none hV
  have lt0 : ∀ x ∈ p0, x.block < W.heap.size := by obtain ⟨m, hm⟩ := h0; exact DataW.trod_lt m _ _ _ hm
  have lt1 : ∀ x ∈ p1, x.block < W.heap.size := by obtain ⟨m, hm⟩ := h1; exact DataW.trod_lt m _ _ _ hm
  have lt2 : ∀ x ∈ p2, x.block < W.heap.size := by obtain ⟨m, hm⟩ := h2; exact DataW.trod_lt m _ _ _ hm
  have k_0 := h0
  have k_1 := h1
  have k_2 := h2
  obtain ⟨a0, l0, c0, rfl⟩ := okWide_slice Tryz.underlying32 (hval 0 32 v0 rfl rfl)
  obtain ⟨m0, hm0⟩ := h0
  obtain ⟨rs0, rfl, hrs0, hl0⟩ := open_texts hm0
  obtain ⟨s1, rfl, hd1, _, hs1⟩ := open_string Tryz.underlying9 (hval 1 9 v1 rfl rfl) h1
  have hr1 : s1.size ≤ 140737488351232 := by
    have h8 := sized_string hsz (j := 1) (t := 9) (bytes := s1.data.toList) (by kernel_rfl) (by rw [hd1]; rfl)
    simpa [reachBytes] using h8
  obtain ⟨b2, rfl, _, _⟩ := open_bool Tryz.underlying4 (hval 2 4 v2 rfl rfl) h2
  clear hA0 hval0
  refine (files_walk hT a0 c0 rs0 hrs0 hl0 s1 hr1 b2).mono fun e W' ⟨he, bel⟩ => ?_
  subst he
  exact ⟨_, rfl, _, _, _, [], _, [], hW', trodAll_mk1 (shut_bool Tryz.underlying4 _), (trodAll_cons_mk (Below.trod xlaidOut (by kernel_rfl) (of_decide_eq_true (by kernel_rfl)) k_0 bel lt0) (trodAll_cons_mk (Below.trod xlaidOut (by kernel_rfl) (of_decide_eq_true (by kernel_rfl)) k_1 bel lt1) (trodAll_cons_mk (Below.trod xlaidOut (by kernel_rfl) (of_decide_eq_true (by kernel_rfl)) k_2 bel lt2) trodAll_mk0))), rfl, bel.frame _, fun h => by cases h⟩

theorem row_holds : Rows.JournalFilesSaid :=
  OpenClaim.holds_of_wide 7 Tryz.f7 rfl rfl rfl rfl rfl rfl rfl ⟨rfl, rfl, rfl, rfl, rfl⟩ rfl rfl rfl rfl rfl (by kernel_rfl) Tryz.func7 (by kernel_rfl)
    (of_decide_eq_true (by kernel_rfl)) (by unfold Func.isWrapper; first | (rw [if_pos (by decide +kernel)]; kernel_rfl) | (rw [if_neg (by decide +kernel)]; exact ⟨rfl, rfl⟩))
    (fun os started H enc _ => lifted os started H enc)

theorem holds : Rows.JournalFilesCardSaid :=
  Claim7.holds_tied_plain_at .later [] [.data, .data, .data, .sentinel, .sentinel] true _ true row_holds (fun _ h => by cases h) (by kernel_rfl) (fun _ h => by cases h) journalFiles_row_tie rfl ⟨rfl, rfl⟩ (by kernel_rfl) rfl
    (fun f fn hf hfn => by
      obtain rfl : f = 7 := Option.some.inj ((show Tryz.prog.funcNamed "augury/augurylaw03.JournalFiles" = some 7 by kernel_rfl).symm.trans hf) |>.symm
      obtain rfl : fn = Tryz.f7 := (Option.some.inj (Tryz.func7.symm.trans hfn)).symm
      exact ⟨by kernel_rfl, fun j t ht => by
        rw [Tryz.params7] at ht
        have hm : t ∈ [32, 9, 4] := by simpa using Array.mem_of_getElem? ht
        have hall : ([32, 9, 4].all fun u => !Tryz.prog.wantsStandIn u) = true := by kernel_rfl
        exact (show Tryz.prog.wantsStandIn t = false by simpa using List.all_eq_true.1 hall t hm)⟩)
    (by kernel_rfl)
end journalFiles
end Go.Proofs.YtdpbnacabinlgaaGreatDoor

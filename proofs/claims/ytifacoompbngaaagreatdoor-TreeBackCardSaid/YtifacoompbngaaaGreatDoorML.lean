/- Words: the document's own Read. -/
import Derived.Test.YtifacoompbngaaaGreatDoorMK
import Derived.Test.YtifacoompbngaaaGreatDoorDDw
namespace Go.Proofs.YtifacoompbngaaaGreatDoor
open Go.RowKit Go.Lib Go.Op

theorem XIn.blank {w : World} {l : List UInt8} {f a : Nat} {acc : List XTok} {v : Value} {W : World} (h : XIn w l f a acc v W) {c : UInt8} (hc : l[a]? = some c) (hb : xblank c = true) : XIn w l f (a + 1) acc v W := by
  obtain ⟨h1, h2, h3, h4, h5, h6⟩ := h
  obtain ⟨hlt, he⟩ := List.getElem?_eq_some_iff.1 hc
  refine ⟨hlt, by omega, ?_, h4, h5, h6⟩
  rw [h3, List.drop_eq_getElem_cons hlt, he, dlexX_blank hb]
theorem dfirst_letter {c : UInt8} {t : List UInt8} (h : xletter c = true) {n : Nat} (hn : (if 16 < manyL xin (c :: t) then 0 else manyL xin (c :: t)) = n) : firstX (c :: t) = (if n = 0 then 0 else 1, n) := by
  have hm : 1 ≤ manyL xin (c :: t) := by
    rw [manyL_cons, if_pos (by unfold xin; rw [h]; rfl)]
    omega
  show firstC c t = _
  unfold firstC
  rw [if_pos h]
  subst hn
  split
  · rfl
  · rw [if_neg (by omega)]
theorem dfirst_digit {c : UInt8} {t : List UInt8} (h : xletter c = false) (hd : xdigit c = true) {n : Nat} (hn : (if rightN ((c :: t).take (manyL xdigit (c :: t))) then manyL xdigit (c :: t) else 0) = n) : firstX (c :: t) = (if n = 0 then 0 else 2, n) := by
  have hm : 1 ≤ manyL xdigit (c :: t) := by
    rw [manyL_cons, if_pos hd]
    omega
  show firstC c t = _
  unfold firstC
  rw [if_neg (by rw [h]; simp), if_pos hd]
  subst hn
  split
  · rw [if_neg (by omega)]
  · rfl
theorem dfirst_quot {c : UInt8} {t : List UInt8} (h : xletter c = false) (hd : xdigit c = false) (h39 : c.toNat = 39) {n : Nat} (hn : quotN t = n) : firstX (c :: t) = (if n = 0 then 0 else 3, n) := by
  show firstC c t = _
  unfold firstC
  rw [if_neg (by rw [h]; simp), if_neg (by rw [hd]; simp), if_pos h39]
  subst hn
  unfold quotN
  split
  · rfl
  · rw [if_neg (by omega)]
theorem dfirst_sign {c : UInt8} {t : List UInt8} (h : xletter c = false) (hd : xdigit c = false) (h39 : ¬ c.toNat = 39) {n : Nat} (hn : signN c t = n) : firstX (c :: t) = (if n = 0 then 0 else 4, n) := by
  show firstC c t = _
  unfold firstC
  rw [if_neg (by rw [h]; simp), if_neg (by rw [hd]; simp), if_neg h39]
  subst hn
  unfold signN
  split
  · rfl
  · split <;> rfl

set_option maxHeartbeats 8000000 in
set_option maxRecDepth 100000 in
theorem xread_calls (w : World) (s : ByteArray) (l : List UInt8) (hl : s.data.toList = l) (hs : s.size ≤ 100000) :
    Calls Tryz.prog 26 #[.string s] w (ReadQ w (readX l)) := by
  have hlen : l.length = s.size := by rw [← hl]; simp
  by_cases hlong : 512 < s.size
  · have hr : readX l = ([], 2, 0) := by unfold readX; rw [if_pos (by omega)]
    have Hr := Lib.hid hr
    clear hr hl hlen
    go_enter Tryz.func26, Tryz.ntmps26
    go_wp2
    refine bodyPost_ret (v := .tuple #[.slice none 0 0, .int .i64 2, .int .i64 0]) (by simp [results, Tryz.results26, go_sem]) rfl ?_
    exact ReadQ.mk Hr.out rfl rfl (XOwn.nil _ _) (Below.refl _ _)
  have Hl := Lib.hid hl
  have Hlen := Lib.hid hlen
  have HR0 : Hid (readX l = appX [] (lexX (s.size + 1) (l.drop 0) 0 ([] : List XTok).length)) := by
    show _ = _
    rw [appX_nil _ (lexX_form _ _ _ _).1]
    unfold readX
    rw [if_neg (by omega), hlen]
    rfl
  have HX0 : Hid (XIn w l (s.size + 1) 0 [] (.slice none 0 0) w) := ⟨Nat.zero_le _, by omega, HR0.out, by simp, XOwn.nil _ _, Below.refl _ _⟩
  clear hl hlen HR0
  go_enter Tryz.func26, Tryz.ntmps26
  go_wp2
  go_loopw [5, 6, 7, 8, 9] (fun v i x y z wr => ∃ (f a : Nat) (acc : List XTok), i = .int .i64 a ∧ Hid (XIn w l f a acc v wr)) (fun _ i _ _ _ _ => s.size - (RowKit.intOf i).toNat)
  case atStart => exact ⟨s.size + 1, 0, [], rfl, HX0⟩
  case round =>
    clear HX0
    obtain ⟨f, a, acc, rfl, HX⟩ := hrel
    have hX := HX.out
    obtain ⟨h1, h2, h3, h4, h5, h6⟩ := hX
    rw [Hlen.out] at h1 h2
    obtain ⟨f, rfl⟩ : ∃ g, f = g + 1 := ⟨f - 1, by omega⟩
    have H3 := Lib.hid h3
    have HO := Lib.hid h5
    have HB := Lib.hid h6
    obtain ⟨va, vc, rfl⟩ := h5.slice
    clear h3 h5 h6
    obtain ⟨q, hq⟩ : ∃ q, acc.length = q := ⟨_, rfl⟩
    have Hq := Lib.hid hq
    rw [hq] at h4 ⊢
    clear hq
    by_cases hlt : a < s.size
    · have hget := get_at s hlt
      rw [Hl.out] at hget
      obtain ⟨c, hc⟩ : ∃ c, s[a] = c := ⟨_, rfl⟩
      rw [hc] at hget
      obtain ⟨m, hm⟩ : ∃ m, c.toNat = m := ⟨_, rfl⟩
      have hi := index_lit s hlt hc hm
      have Hget := Lib.hid hget
      have Hm := Lib.hid hm
      have hdr : l.drop a = c :: l.drop (a + 1) := by
        obtain ⟨h7, h8⟩ := List.getElem?_eq_some_iff.1 hget
        rw [List.drop_eq_getElem_cons h7, h8]
      have Hdr := Lib.hid hdr
      clear hget hdr hc hm
      by_cases h32 : m = 32
      · have HN : Hid (XIn w l (f + 1) (a + 1) acc (.slice va acc.length vc) wr) := HX.out.blank Hget.out (by unfold xblank; rw [Hm.out]; simp [h32])
        rw [Hq.out] at HN
        have t1 : ((m : Int) == 32) = true := by rw [beq_iff_eq]; omega
        clear h32
        go_wp2
        refine ⟨⟨f + 1, a + 1, acc, by go_num, HN⟩, ?_⟩
        simp [RowKit.intOf]
        omega
      have t1 : ((m : Int) == 32) = false := by rw [beq_eq_false_iff_ne]; omega
      by_cases h10 : m = 10
      · have HN : Hid (XIn w l (f + 1) (a + 1) acc (.slice va acc.length vc) wr) := HX.out.blank Hget.out (by unfold xblank; rw [Hm.out]; simp [h10])
        rw [Hq.out] at HN
        have t2 : ((m : Int) == 10) = true := by rw [beq_iff_eq]; omega
        clear h10
        go_wp2
        refine ⟨⟨f + 1, a + 1, acc, by go_num, HN⟩, ?_⟩
        simp [RowKit.intOf]
        omega
      have t2 : ((m : Int) == 10) = false := by rw [beq_eq_false_iff_ne]; omega
      have Hm0 : Hid (manyL xblank (l.drop a) = 0) := by
        show _ = _
        rw [Hdr.out, manyL_cons, if_neg (by unfold xblank; rw [Hm.out]; simp [h32, h10])]
      have Hnb : Hid (¬ (l.drop a).length ≤ manyL xblank (l.drop a)) := by
        show ¬ _
        rw [Hm0.out, List.length_drop, Hlen.out]
        omega
      have Hdd : Hid ((l.drop a).drop (manyL xblank (l.drop a)) = l.drop a) := by
        show _ = _
        rw [Hm0.out, List.drop_zero]
      have hyl : (s.extract a s.size).data.toList = l.drop a := by rw [Pa.extract_from, Hl.out]
      have hyz : (s.extract a s.size).size ≤ 1000 := by
        have e := bsize (s.extract a s.size)
        rw [← e, hyl, List.length_drop, Hlen.out]; omega
      have hyc : (s.extract a s.size).data.toList = c :: l.drop (a + 1) := by rw [hyl, Hdr.out]
      have HBT : Hid (∀ k, Below w.heap.size w (wr.alloc (.cells #[.int .i64 k, .string ⟨#[]⟩, .int .i64 a] 94))) := fun k => HB.out.alloc HB.out.size _
      clear h32 h10
      have HLe : Hid (∀ W, Calls Tryz.prog 68 #[.int .u8 m] W fun e w' => e = .returned (.bool (xletter c)) ∧ W = w') := fun W => by rw [← Hm.out]; exact rletter_calls c W
      have HDi : Hid (∀ W, Calls Tryz.prog 70 #[.int .u8 m] W fun e w' => e = .returned (.bool (xdigit c)) ∧ W = w') := fun W => by rw [← Hm.out]; exact rdigit_calls c W
      have hfle : Hid (∀ k n, firstX (l.drop a) = (k, n) → a + n ≤ s.size) := fun k n h => by
        have := firstX_le (l.drop a)
        rw [h, List.length_drop, Hlen.out] at this
        dsimp only at this
        omega
      have htk : Hid (∀ n, a + n ≤ s.size → (s.extract a (a + n)).data.toList = (l.drop a).take n) := fun n hn => by
        rw [ext_list, Hl.out, List.drop_take]
        congr 1
        omega
      have HAP : Hid (∀ (k : Nat) (tx : ByteArray) (tb : List UInt8), tx = strB tb → ∀ w2, Below wr.heap.size wr w2 → ∀ {n : Nat}, firstX (l.drop a) = (k, n) → n ≠ 0 → tb = textX k ((l.drop a).take n) → q ≠ 128 → ∃ a9 l9 c9 w9, (Builtin.append_ #[42, 42] 42 #[.slice va q vc, .slice (some ⟨w2.heap.size, 0, none⟩) 1 1]).run Tryz.prog (w2.alloc (.cells #[.int .i64 k, .string tx, .int .i64 a] 94)) = .ok (.slice a9 l9 c9) w9 ∧ Hid (XIn w l f (a + n) (acc ++ [⟨k, tb, a⟩]) (.slice a9 l9 c9) w9)) := by
        intro k tx tb htx w2 hb2 n hfx hn0 htb h128
        subst htx
        have hbw : Below w.heap.size w w2 := HB.out.trans (hb2.mono HB.out.size)
        have hba := hbw.alloc hbw.size (.cells #[.int .i64 k, .string (strB tb), .int .i64 a] 94)
        have hown : XOwn (w2.alloc (.cells #[.int .i64 k, .string (strB tb), .int .i64 a] 94)) w.heap.size (.slice va q vc) acc := by
          have h := (HO.out.below hb2).below ((Below.refl _ _).alloc (Nat.le_refl _) (.cells #[.int .i64 k, .string (strB tb), .int .i64 a] 94))
          rw [Hq.out] at h
          exact h
        obtain ⟨v9, w9, hr9, ho9, hg9⟩ := hown.append hba.size (by rw [Hq.out]; omega) ⟨k, tb, a⟩ w2.heap.size (heap_alloc_new w2 _) 42
        obtain ⟨a9, c9, rfl⟩ := ho9.slice
        refine ⟨a9, _, c9, w9, hr9, ?_⟩
        rw [htb] at ho9 ⊢
        have h := XIn.step HX.out Hm0.out (by rw [Hlen.out]; omega) (show firstX (l.drop (a + 0)) = (k, n) by rw [Nat.add_zero]; exact hfx) hn0 (by rw [Hq.out]; exact h128) ho9 (hba.grown hg9 hba.size (fun j hj => (hown.lt j hj).1))
        exact h
      cases hlb : xletter c with
      | true =>
        obtain ⟨n, hn⟩ : ∃ n : Nat, (if 16 < manyL xin (c :: l.drop (a + 1)) then 0 else manyL xin (c :: l.drop (a + 1))) = n := ⟨_, rfl⟩
        have HL : Hid (∀ W, Calls Tryz.prog 68 #[.int .u8 m] W fun e w' => e = .returned (.bool true) ∧ W = w') := fun W => by rw [← hlb]; exact HLe.out W
        have HN : Hid (∀ W, Calls Tryz.prog 69 #[.string (s.extract a s.size)] W fun e w' => e = .returned (.int .i64 n) ∧ W = w') := fun W => by
          have h := rwordx_calls (s.extract a s.size) W hyz (fun c hc => by rw [hyc] at hc; injection hc with hc; rw [← hc]; exact hlb)
          rw [hyc] at h
          rw [← hn]
          exact h
        have Hfx : Hid (firstX (l.drop a) = (if n = 0 then 0 else 1, n)) := by show _ = _; rw [Hdr.out]; exact dfirst_letter hlb hn
        have HNL : Hid (n ≠ 0 → a + n ≤ s.size) := fun _ => hfle.out _ _ Hfx.out
        have HTX : Hid (n ≠ 0 → s.extract a (a + n) = strB (textX 1 ((l.drop a).take n))) := fun h0 => str_of (by rw [htk.out n (HNL.out h0)]; rfl)
        clear hlb hn hyl hyz hyc HLe HDi hfle htk Hget Hdr
        by_cases hn0 : n = 0
        · subst hn0
          have hres : readX l = ([], 71, a) := by
            rw [H3.out, lexX_none Hnb.out (by rw [Hdd.out, Hfx.out]), Hm0.out]
            unfold appX
            simp
          have Hres := Lib.hid hres
          clear hres HAP
          go_wp2_with fail
          with_reducible refine (HL.out _).mono ?_
          rintro e w1 ⟨rfl, rfl⟩
          go_wp2_with fail
          with_reducible refine (HN.out _).mono ?_
          rintro e w1 ⟨rfl, rfl⟩
          go_wp2
          refine bodyPost_ret (v := .tuple #[.slice none 0 0, .int .i64 71, .int .i64 a]) (by simp [results, Tryz.results26, go_sem]) rfl ?_
          exact ReadQ.mk Hres.out rfl rfl (XOwn.nil _ _) (HBT.out _)
        have tz : ((n : Int) == 0) = false := by rw [beq_eq_false_iff_ne]; omega
        by_cases h128 : q = 128
        · have hres : readX l = ([], 2, a) := by
            rw [H3.out, lexX_many Hnb.out (by rw [Hdd.out, Hfx.out]; exact hn0) (by rw [Hq.out]; exact h128), Hm0.out]
            unfold appX
            simp
          have Hres := Lib.hid hres
          have tq : ((q : Int) == 128) = true := by rw [beq_iff_eq]; omega
          clear hres HAP
          go_wp2_with fail
          with_reducible refine (HL.out _).mono ?_
          rintro e w1 ⟨rfl, rfl⟩
          go_wp2_with fail
          with_reducible refine (HN.out _).mono ?_
          rintro e w1 ⟨rfl, rfl⟩
          go_wp2
          refine bodyPost_ret (v := .tuple #[.slice none 0 0, .int .i64 2, .int .i64 a]) (by simp [results, Tryz.results26, go_sem]) rfl ?_
          exact ReadQ.mk Hres.out rfl rfl (XOwn.nil _ _) (HBT.out _)
        have tq : ((q : Int) == 128) = false := by rw [beq_eq_false_iff_ne]; omega
        have htx : (s.extract a (a + n)) = strB (textX 1 ((l.drop a).take n)) := HTX.out hn0
        have hnle := HNL.out hn0
        have hw2 : IntKind.i64.wrap ((a : Int) + (n : Int)) = (a : Int) + (n : Int) := IntWalk.i64_in _ (by omega)
        have hz1 : (0 : Int) ≤ (a : Int) + (n : Int) := by omega
        have hz2 : (a : Int) + (n : Int) ≤ (s.size : Int) := by omega
        have hz3 : ((a : Int) + (n : Int)).toNat = a + n := by omega
        have hz4 : (a : Int) ≤ (a : Int) + (n : Int) := by omega
        have hr : ∃ a9 l9 c9 w9, (Builtin.append_ #[42, 42] 42 #[.slice va q vc, .slice (some ⟨wr.heap.size + 1, 0, none⟩) 1 1]).run Tryz.prog ((wr.alloc (.cells #[.int .i64 1, .string (s.extract a (a + n)), .int .i64 a] 94)).alloc (.cells #[.int .i64 1, .string (s.extract a (a + n)), .int .i64 a] 94)) = .ok (.slice a9 l9 c9) w9 ∧ Hid (XIn w l f (a + n) (acc ++ [⟨1, textX 1 ((l.drop a).take n), a⟩]) (.slice a9 l9 c9) w9) := by
          have h := HAP.out 1 (s.extract a (a + n)) (textX 1 ((l.drop a).take n)) htx (wr.alloc (.cells #[.int .i64 1, .string (s.extract a (a + n)), .int .i64 a] 94)) ((Below.refl _ _).alloc (Nat.le_refl _) _) (show firstX (l.drop a) = (1, n) by rw [Hfx.out, if_neg hn0]) hn0 rfl h128
          rw [World.size_alloc] at h
          exact h
        obtain ⟨a9, l9, c9, w9, hr9, HF9⟩ := hr
        clear htx HTX H3 Hnb Hdd Hfx HAP
        go_wp2_with fail
        with_reducible refine (HL.out _).mono ?_
        rintro e w1 ⟨rfl, rfl⟩
        go_wp2_with fail
        with_reducible refine (HN.out _).mono ?_
        rintro e w1 ⟨rfl, rfl⟩
        go_wp2_with (at_builtin; refine Lib.wpList_append_run _ rfl _ _ _ _ rfl _ _ rfl rfl _ _ hr9 ?_; clear hr9)
        refine ⟨⟨f, a + n, _, by go_num, HF9⟩, ?_⟩
        simp [RowKit.intOf]
        omega
      | false =>
        have HL : Hid (∀ W, Calls Tryz.prog 68 #[.int .u8 m] W fun e w' => e = .returned (.bool false) ∧ W = w') := fun W => by rw [← hlb]; exact HLe.out W
        cases hdb : xdigit c with
        | true =>
          obtain ⟨n, hn⟩ : ∃ n : Nat, (if rightN ((c :: l.drop (a + 1)).take (manyL xdigit (c :: l.drop (a + 1)))) then manyL xdigit (c :: l.drop (a + 1)) else 0) = n := ⟨_, rfl⟩
          have HD : Hid (∀ W, Calls Tryz.prog 70 #[.int .u8 m] W fun e w' => e = .returned (.bool true) ∧ W = w') := fun W => by rw [← hdb]; exact HDi.out W
          have HN : Hid (∀ W, Calls Tryz.prog 71 #[.string (s.extract a s.size)] W fun e w' => e = .returned (.int .i64 n) ∧ W = w') := fun W => by
            have h := rnumberx_calls (s.extract a s.size) W hyz c (l.drop (a + 1)) hyc hdb
            rw [hyc] at h
            rw [← hn]
            exact h
          have Hfx : Hid (firstX (l.drop a) = (if n = 0 then 0 else 2, n)) := by show _ = _; rw [Hdr.out]; exact dfirst_digit hlb hdb hn
          have HNL : Hid (n ≠ 0 → a + n ≤ s.size) := fun _ => hfle.out _ _ Hfx.out
          have HTX : Hid (n ≠ 0 → s.extract a (a + n) = strB (textX 2 ((l.drop a).take n))) := fun h0 => str_of (by rw [htk.out n (HNL.out h0)]; rfl)
          clear hlb hdb hn hyl hyz hyc HLe HDi hfle htk Hget Hdr
          by_cases hn0 : n = 0
          · subst hn0
            have hres : readX l = ([], 71, a) := by
              rw [H3.out, lexX_none Hnb.out (by rw [Hdd.out, Hfx.out]), Hm0.out]
              unfold appX
              simp
            have Hres := Lib.hid hres
            clear hres HAP
            go_wp2_with fail
            with_reducible refine (HL.out _).mono ?_
            rintro e w1 ⟨rfl, rfl⟩
            go_wp2_with fail
            with_reducible refine (HD.out _).mono ?_
            rintro e w1 ⟨rfl, rfl⟩
            go_wp2_with fail
            with_reducible refine (HN.out _).mono ?_
            rintro e w1 ⟨rfl, rfl⟩
            go_wp2
            refine bodyPost_ret (v := .tuple #[.slice none 0 0, .int .i64 71, .int .i64 a]) (by simp [results, Tryz.results26, go_sem]) rfl ?_
            exact ReadQ.mk Hres.out rfl rfl (XOwn.nil _ _) (HBT.out _)
          have tz : ((n : Int) == 0) = false := by rw [beq_eq_false_iff_ne]; omega
          by_cases h128 : q = 128
          · have hres : readX l = ([], 2, a) := by
              rw [H3.out, lexX_many Hnb.out (by rw [Hdd.out, Hfx.out]; exact hn0) (by rw [Hq.out]; exact h128), Hm0.out]
              unfold appX
              simp
            have Hres := Lib.hid hres
            have tq : ((q : Int) == 128) = true := by rw [beq_iff_eq]; omega
            clear hres HAP
            go_wp2_with fail
            with_reducible refine (HL.out _).mono ?_
            rintro e w1 ⟨rfl, rfl⟩
            go_wp2_with fail
            with_reducible refine (HD.out _).mono ?_
            rintro e w1 ⟨rfl, rfl⟩
            go_wp2_with fail
            with_reducible refine (HN.out _).mono ?_
            rintro e w1 ⟨rfl, rfl⟩
            go_wp2
            refine bodyPost_ret (v := .tuple #[.slice none 0 0, .int .i64 2, .int .i64 a]) (by simp [results, Tryz.results26, go_sem]) rfl ?_
            exact ReadQ.mk Hres.out rfl rfl (XOwn.nil _ _) (HBT.out _)
          have tq : ((q : Int) == 128) = false := by rw [beq_eq_false_iff_ne]; omega
          have htx : (s.extract a (a + n)) = strB (textX 2 ((l.drop a).take n)) := HTX.out hn0
          have hnle := HNL.out hn0
          have hw2 : IntKind.i64.wrap ((a : Int) + (n : Int)) = (a : Int) + (n : Int) := IntWalk.i64_in _ (by omega)
          have hz1 : (0 : Int) ≤ (a : Int) + (n : Int) := by omega
          have hz2 : (a : Int) + (n : Int) ≤ (s.size : Int) := by omega
          have hz3 : ((a : Int) + (n : Int)).toNat = a + n := by omega
          have hz4 : (a : Int) ≤ (a : Int) + (n : Int) := by omega
          have hr : ∃ a9 l9 c9 w9, (Builtin.append_ #[42, 42] 42 #[.slice va q vc, .slice (some ⟨wr.heap.size + 1, 0, none⟩) 1 1]).run Tryz.prog ((wr.alloc (.cells #[.int .i64 2, .string (s.extract a (a + n)), .int .i64 a] 94)).alloc (.cells #[.int .i64 2, .string (s.extract a (a + n)), .int .i64 a] 94)) = .ok (.slice a9 l9 c9) w9 ∧ Hid (XIn w l f (a + n) (acc ++ [⟨2, textX 2 ((l.drop a).take n), a⟩]) (.slice a9 l9 c9) w9) := by
            have h := HAP.out 2 (s.extract a (a + n)) (textX 2 ((l.drop a).take n)) htx (wr.alloc (.cells #[.int .i64 2, .string (s.extract a (a + n)), .int .i64 a] 94)) ((Below.refl _ _).alloc (Nat.le_refl _) _) (show firstX (l.drop a) = (2, n) by rw [Hfx.out, if_neg hn0]) hn0 rfl h128
            rw [World.size_alloc] at h
            exact h
          obtain ⟨a9, l9, c9, w9, hr9, HF9⟩ := hr
          clear htx HTX H3 Hnb Hdd Hfx HAP
          go_wp2_with fail
          with_reducible refine (HL.out _).mono ?_
          rintro e w1 ⟨rfl, rfl⟩
          go_wp2_with fail
          with_reducible refine (HD.out _).mono ?_
          rintro e w1 ⟨rfl, rfl⟩
          go_wp2_with fail
          with_reducible refine (HN.out _).mono ?_
          rintro e w1 ⟨rfl, rfl⟩
          go_wp2_with (at_builtin; refine Lib.wpList_append_run _ rfl _ _ _ _ rfl _ _ rfl rfl _ _ hr9 ?_; clear hr9)
          refine ⟨⟨f, a + n, _, by go_num, HF9⟩, ?_⟩
          simp [RowKit.intOf]
          omega
        | false =>
          have HD : Hid (∀ W, Calls Tryz.prog 70 #[.int .u8 m] W fun e w' => e = .returned (.bool false) ∧ W = w') := fun W => by rw [← hdb]; exact HDi.out W
          by_cases h39 : m = 39
          · obtain ⟨n, hn⟩ : ∃ n : Nat, quotN (l.drop (a + 1)) = n := ⟨_, rfl⟩
            have HN : Hid (∀ W, Calls Tryz.prog 72 #[.string (s.extract a s.size)] W fun e w' => e = .returned (.int .i64 n) ∧ W = w') := fun W => by
              have h := rquoted_calls (s.extract a s.size) W hyz c (l.drop (a + 1)) hyc
              rw [← hn]
              exact h
            have Hfx : Hid (firstX (l.drop a) = (if n = 0 then 0 else 3, n)) := by show _ = _; rw [Hdr.out]; exact dfirst_quot hlb hdb (by rw [Hm.out]; exact h39) hn
            have HNL : Hid (n ≠ 0 → a + n ≤ s.size) := fun _ => hfle.out _ _ Hfx.out
            have HN2 : Hid (n ≠ 0 → 2 ≤ n) := fun _ => by
              rw [← hn]
              rename_i h0
              rw [← hn] at h0
              unfold quotN at h0 ⊢
              split
              · rename_i e
                rw [if_pos e] at h0
                exact absurd rfl h0
              · omega
            have HTX : Hid (n ≠ 0 → s.extract (a + 1) (a + n - 1) = strB (textX 3 ((l.drop a).take n))) := fun h0 => str_of (by
              have hh := HNL.out h0
              have hh2 := HN2.out h0
              unfold textX
              rw [if_pos rfl, List.length_take, List.length_drop, Hlen.out, Nat.min_eq_left (by omega), ext_list, Hl.out, List.drop_take, List.drop_take, List.drop_drop, List.take_take]
              congr 1
              omega)
            have t3 : ((m : Int) == 39) = true := by rw [beq_iff_eq]; omega
            clear hlb hdb hn hyl hyz hyc HLe HDi hfle htk Hget Hdr h39
            by_cases hn0 : n = 0
            · subst hn0
              have hres : readX l = ([], 71, a) := by
                rw [H3.out, lexX_none Hnb.out (by rw [Hdd.out, Hfx.out]), Hm0.out]
                unfold appX
                simp
              have Hres := Lib.hid hres
              clear hres HAP
              go_wp2_with fail
              with_reducible refine (HL.out _).mono ?_
              rintro e w1 ⟨rfl, rfl⟩
              go_wp2_with fail
              with_reducible refine (HD.out _).mono ?_
              rintro e w1 ⟨rfl, rfl⟩
              go_wp2_with fail
              with_reducible refine (HN.out _).mono ?_
              rintro e w1 ⟨rfl, rfl⟩
              go_wp2
              refine bodyPost_ret (v := .tuple #[.slice none 0 0, .int .i64 71, .int .i64 a]) (by simp [results, Tryz.results26, go_sem]) rfl ?_
              exact ReadQ.mk Hres.out rfl rfl (XOwn.nil _ _) (HBT.out _)
            have tz : ((n : Int) == 0) = false := by rw [beq_eq_false_iff_ne]; omega
            by_cases h128 : q = 128
            · have hres : readX l = ([], 2, a) := by
                rw [H3.out, lexX_many Hnb.out (by rw [Hdd.out, Hfx.out]; exact hn0) (by rw [Hq.out]; exact h128), Hm0.out]
                unfold appX
                simp
              have Hres := Lib.hid hres
              have tq : ((q : Int) == 128) = true := by rw [beq_iff_eq]; omega
              clear hres HAP
              go_wp2_with fail
              with_reducible refine (HL.out _).mono ?_
              rintro e w1 ⟨rfl, rfl⟩
              go_wp2_with fail
              with_reducible refine (HD.out _).mono ?_
              rintro e w1 ⟨rfl, rfl⟩
              go_wp2_with fail
              with_reducible refine (HN.out _).mono ?_
              rintro e w1 ⟨rfl, rfl⟩
              go_wp2
              refine bodyPost_ret (v := .tuple #[.slice none 0 0, .int .i64 2, .int .i64 a]) (by simp [results, Tryz.results26, go_sem]) rfl ?_
              exact ReadQ.mk Hres.out rfl rfl (XOwn.nil _ _) (HBT.out _)
            have tq : ((q : Int) == 128) = false := by rw [beq_eq_false_iff_ne]; omega
            have htx : (s.extract (a + 1) (a + n - 1)) = strB (textX 3 ((l.drop a).take n)) := HTX.out hn0
            have hnle := HNL.out hn0
            have hw2 : IntKind.i64.wrap ((a : Int) + (n : Int)) = (a : Int) + (n : Int) := IntWalk.i64_in _ (by omega)
            have hz1 : (0 : Int) ≤ (a : Int) + (n : Int) := by omega
            have hz2 : (a : Int) + (n : Int) ≤ (s.size : Int) := by omega
            have hz3 : ((a : Int) + (n : Int)).toNat = a + n := by omega
            have hz4 : (a : Int) ≤ (a : Int) + (n : Int) := by omega
            have hn2 := HN2.out hn0
            have hw3 : IntKind.i64.wrap ((a : Int) + 1) = (a : Int) + 1 := IntWalk.i64_in _ (by omega)
            have hw4 : IntKind.i64.wrap ((a : Int) + (n : Int) - 1) = (a : Int) + (n : Int) - 1 := IntWalk.i64_in _ (by omega)
            have hy1 : (0 : Int) ≤ (a : Int) + 1 := by omega
            have hy2 : (a : Int) + (n : Int) - 1 ≤ (s.size : Int) := by omega
            have hy3 : ((a : Int) + (n : Int) - 1).toNat = a + n - 1 := by omega
            have hy4 : (a : Int) + 1 ≤ (a : Int) + (n : Int) - 1 := by omega
            have hy5 : ((a : Int) + 1).toNat = a + 1 := by omega
            have hr : ∃ a9 l9 c9 w9, (Builtin.append_ #[42, 42] 42 #[.slice va q vc, .slice (some ⟨wr.heap.size + 1, 0, none⟩) 1 1]).run Tryz.prog ((wr.alloc (.cells #[.int .i64 3, .string (s.extract (a + 1) (a + n - 1)), .int .i64 a] 94)).alloc (.cells #[.int .i64 3, .string (s.extract (a + 1) (a + n - 1)), .int .i64 a] 94)) = .ok (.slice a9 l9 c9) w9 ∧ Hid (XIn w l f (a + n) (acc ++ [⟨3, textX 3 ((l.drop a).take n), a⟩]) (.slice a9 l9 c9) w9) := by
              have h := HAP.out 3 (s.extract (a + 1) (a + n - 1)) (textX 3 ((l.drop a).take n)) htx (wr.alloc (.cells #[.int .i64 3, .string (s.extract (a + 1) (a + n - 1)), .int .i64 a] 94)) ((Below.refl _ _).alloc (Nat.le_refl _) _) (show firstX (l.drop a) = (3, n) by rw [Hfx.out, if_neg hn0]) hn0 rfl h128
              rw [World.size_alloc] at h
              exact h
            obtain ⟨a9, l9, c9, w9, hr9, HF9⟩ := hr
            clear htx HTX H3 Hnb Hdd Hfx HAP
            go_wp2_with fail
            with_reducible refine (HL.out _).mono ?_
            rintro e w1 ⟨rfl, rfl⟩
            go_wp2_with fail
            with_reducible refine (HD.out _).mono ?_
            rintro e w1 ⟨rfl, rfl⟩
            go_wp2_with fail
            with_reducible refine (HN.out _).mono ?_
            rintro e w1 ⟨rfl, rfl⟩
            go_wp2_with (at_builtin; refine Lib.wpList_append_run _ rfl _ _ _ _ rfl _ _ rfl rfl _ _ hr9 ?_; clear hr9)
            refine ⟨⟨f, a + n, _, by go_num, HF9⟩, ?_⟩
            simp [RowKit.intOf]
            omega
          · obtain ⟨n, hn⟩ : ∃ n : Nat, signN c (l.drop (a + 1)) = n := ⟨_, rfl⟩
            have HN : Hid (∀ W, Calls Tryz.prog 73 #[.string (s.extract a s.size)] W fun e w' => e = .returned (.int .i64 n) ∧ Below W.heap.size W w') := fun W => by
              have h := rsignx_calls (s.extract a s.size) W hyz c (l.drop (a + 1)) hyc
              rw [← hn]
              exact h
            have Hfx : Hid (firstX (l.drop a) = (if n = 0 then 0 else 4, n)) := by show _ = _; rw [Hdr.out]; exact dfirst_sign hlb hdb (by rw [Hm.out]; exact h39) hn
            have HNL : Hid (n ≠ 0 → a + n ≤ s.size) := fun _ => hfle.out _ _ Hfx.out
            have HTX : Hid (n ≠ 0 → s.extract a (a + n) = strB (textX 4 ((l.drop a).take n))) := fun h0 => str_of (by rw [htk.out n (HNL.out h0)]; rfl)
            have t3 : ((m : Int) == 39) = false := by rw [beq_eq_false_iff_ne]; omega
            clear hlb hdb hn hyl hyz hyc HLe HDi hfle htk Hget Hdr h39
            by_cases hn0 : n = 0
            · subst hn0
              have hres : readX l = ([], 71, a) := by
                rw [H3.out, lexX_none Hnb.out (by rw [Hdd.out, Hfx.out]), Hm0.out]
                unfold appX
                simp
              have Hres := Lib.hid hres
              clear hres HAP
              go_wp2_with fail
              with_reducible refine (HL.out _).mono ?_
              rintro e w1 ⟨rfl, rfl⟩
              go_wp2_with fail
              with_reducible refine (HD.out _).mono ?_
              rintro e w1 ⟨rfl, rfl⟩
              go_wp2_with fail
              with_reducible refine (HN.out _).mono ?_
              rintro e w1 ⟨rfl, hb1⟩
              have HBs := Lib.hid hb1
              have X1 := Lib.hid ((Blk.new wr #[.int .i64 4, .string ⟨#[]⟩, .int .i64 a] 94).low hb1)
              clear hb1
              go_wp2
              refine bodyPost_ret (v := .tuple #[.slice none 0 0, .int .i64 71, .int .i64 a]) (by simp [results, Tryz.results26, go_sem]) rfl ?_
              exact ReadQ.mk Hres.out rfl rfl (XOwn.nil _ _) ((HBT.out _).trans (HBs.out.mono (HBT.out _).size))
            have tz : ((n : Int) == 0) = false := by rw [beq_eq_false_iff_ne]; omega
            by_cases h128 : q = 128
            · have hres : readX l = ([], 2, a) := by
                rw [H3.out, lexX_many Hnb.out (by rw [Hdd.out, Hfx.out]; exact hn0) (by rw [Hq.out]; exact h128), Hm0.out]
                unfold appX
                simp
              have Hres := Lib.hid hres
              have tq : ((q : Int) == 128) = true := by rw [beq_iff_eq]; omega
              clear hres HAP
              go_wp2_with fail
              with_reducible refine (HL.out _).mono ?_
              rintro e w1 ⟨rfl, rfl⟩
              go_wp2_with fail
              with_reducible refine (HD.out _).mono ?_
              rintro e w1 ⟨rfl, rfl⟩
              go_wp2_with fail
              with_reducible refine (HN.out _).mono ?_
              rintro e w1 ⟨rfl, hb1⟩
              have HBs := Lib.hid hb1
              have X1 := Lib.hid ((Blk.new wr #[.int .i64 4, .string ⟨#[]⟩, .int .i64 a] 94).low hb1)
              clear hb1
              go_wp2
              refine bodyPost_ret (v := .tuple #[.slice none 0 0, .int .i64 2, .int .i64 a]) (by simp [results, Tryz.results26, go_sem]) rfl ?_
              exact ReadQ.mk Hres.out rfl rfl (XOwn.nil _ _) ((HBT.out _).trans (HBs.out.mono (HBT.out _).size))
            have tq : ((q : Int) == 128) = false := by rw [beq_eq_false_iff_ne]; omega
            have htx : (s.extract a (a + n)) = strB (textX 4 ((l.drop a).take n)) := HTX.out hn0
            have hnle := HNL.out hn0
            have hw2 : IntKind.i64.wrap ((a : Int) + (n : Int)) = (a : Int) + (n : Int) := IntWalk.i64_in _ (by omega)
            have hz1 : (0 : Int) ≤ (a : Int) + (n : Int) := by omega
            have hz2 : (a : Int) + (n : Int) ≤ (s.size : Int) := by omega
            have hz3 : ((a : Int) + (n : Int)).toNat = a + n := by omega
            have hz4 : (a : Int) ≤ (a : Int) + (n : Int) := by omega
            have HTXX := Lib.hid htx
            have HFX := Lib.hid (show firstX (l.drop a) = (4, n) by rw [Hfx.out, if_neg hn0])
            clear htx HTX H3 Hnb Hdd Hfx
            go_wp2_with fail
            with_reducible refine (HL.out _).mono ?_
            rintro e w1 ⟨rfl, rfl⟩
            go_wp2_with fail
            with_reducible refine (HD.out _).mono ?_
            rintro e w1 ⟨rfl, rfl⟩
            go_wp2_with fail
            with_reducible refine (HN.out _).mono ?_
            rintro e w1 ⟨rfl, hb1⟩
            have HBs := Lib.hid hb1
            have X1 := Lib.hid ((Blk.new wr #[.int .i64 4, .string ⟨#[]⟩, .int .i64 a] 94).low hb1)
            clear hb1
            have x0 := tcell_of_blk X1.out (k := 0) rfl
            have x1 := tcell_of_blk X1.out (k := 1) rfl
            have x2 := tcell_of_blk X1.out (k := 2) rfl
            have fx1 := tfrozen_of_blk X1.out (k := 1)
            have hsz := X1.out.lt
            have X2 := X1.out.set 1 (.string (s.extract a (a + n))) rfl
            have y0 := tcell_of_blk X2 (k := 0) rfl
            have y1 := tcell_of_blk X2 (k := 1) rfl
            have y2 := tcell_of_blk X2 (k := 2) rfl
            have hr : ∃ a9 l9 c9 w9, (Builtin.append_ #[42, 42] 42 #[.slice va q vc, .slice (some ⟨w1.heap.size, 0, none⟩) 1 1]).run Tryz.prog ((w1.setCell ⟨wr.heap.size, 1, none⟩ (.string (s.extract a (a + n)))).alloc (.cells #[.int .i64 4, .string (s.extract a (a + n)), .int .i64 a] 94)) = .ok (.slice a9 l9 c9) w9 ∧ Hid (XIn w l f (a + n) (acc ++ [⟨4, textX 4 ((l.drop a).take n), a⟩]) (.slice a9 l9 c9) w9) := by
              have hbz : Below wr.heap.size wr (w1.setCell ⟨wr.heap.size, 1, none⟩ (.string (s.extract a (a + n)))) := by
                have h1 := ((Below.refl wr.heap.size wr).alloc (Nat.le_refl _) (.cells #[.int .i64 4, .string ⟨#[]⟩, .int .i64 a] 94)).trans (HBs.out.mono (by simp))
                exact ((TFr.of_below (K := fun k => wr.heap.size ≤ k) h1).setCell (p := ⟨wr.heap.size, 1, none⟩) (fun _ => Nat.le_refl _) _).below (Nat.le_refl _) (fun k hk => hk)
              have h := HAP.out 4 (s.extract a (a + n)) (textX 4 ((l.drop a).take n)) HTXX.out (w1.setCell ⟨wr.heap.size, 1, none⟩ (.string (s.extract a (a + n)))) hbz HFX.out hn0 rfl h128
              rw [World.size_setCell] at h
              exact h
            obtain ⟨a9, l9, c9, w9, hr9, HF9⟩ := hr
            clear HAP X2
            go_wp2_with (at_builtin; refine Lib.wpList_append_run _ rfl _ _ _ _ rfl _ _ rfl rfl _ _ hr9 ?_; clear hr9)
            refine ⟨⟨f, a + n, _, by go_num, HF9⟩, ?_⟩
            simp [RowKit.intOf]
            omega
    · obtain rfl : a = s.size := by omega
      have hres : readX l = (acc, 0, 0) := by
        rw [H3.out, lexX_end (by rw [List.length_drop, Hlen.out]; omega)]
        unfold appX
        simp
      have Hres := Lib.hid hres
      clear hres
      have HO2 : Hid (XOwn wr w.heap.size (.slice va q vc) acc) := by
        show XOwn _ _ _ _
        have h := HO.out
        rw [Hq.out] at h
        exact h
      go_wp2
      refine bodyPost_ret (v := .tuple #[.slice va q vc, .int .i64 0, .int .i64 0]) (by simp [results, Tryz.results26, go_sem]) rfl ?_
      exact ReadQ.mk Hres.out rfl rfl HO2.out HB.out

end Go.Proofs.YtifacoompbngaaaGreatDoor
